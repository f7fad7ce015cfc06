import PyProof.Rows.All
import Wide.All
import OpenK.AllK
import Wide.FinOn
import Lean
import PyProof.EqAt
import PyProof.EqKinds
import PyProof.TupleCall
import PySem.Challenge.RW_tonguegate_k07_one_more_and_full
set_option Elab.async false
set_option linter.all false
set_option maxRecDepth 100000
namespace L2
open PySem PySem.Spec PyProof.Rows
abbrev Key := Sum Int Str
def keyIs : Key → Value → Bool
 | .inl k, v => Value.isInt k v
 | .inr x, v => Value.isStrOf x v
def keyH (w : World) : Key → Int
 | .inl k => hashInt k
 | .inr x => hashStr w x
theorem keyIs_shape : ∀ {k : Key} {v : Value}, keyIs k v = true → (∃ i t, k = Sum.inl i ∧ v = Value.int i t) ∨ (∃ x t, k = Sum.inr x ∧ v = Value.str x t)
 | .inl i, v, h => by
  obtain ⟨t, e⟩ := Value.isInt_shape (k := i) (v := v) h
  exact .inl ⟨i, t, rfl, e⟩
 | .inr x, v, h => by
  obtain ⟨t, e⟩ := Value.isStrOf_shape (x := x) (v := v) h
  exact .inr ⟨x, t, rfl, e⟩
theorem key_ll (a b : Int) : decide ((Sum.inl a : Key) = Sum.inl b) = (a == b) := by
 by_cases e : a = b
 ·subst e; simp
 ·have h : ¬ (Sum.inl a : Key) = Sum.inl b := fun q => e (Sum.inl.inj q)
  rw [decide_eq_false h]
  exact (beq_eq_false_iff_ne.mpr e).symm
theorem key_rr (a b : Str) : decide ((Sum.inr a : Key) = Sum.inr b) = decide (a = b) := by
 by_cases e : a = b
 ·subst e; simp
 ·have h : ¬ (Sum.inr a : Key) = Sum.inr b := fun q => e (Sum.inr.inj q)
  rw [decide_eq_false h, decide_eq_false e]
theorem key_lr (a : Int) (b : Str) : decide ((Sum.inl a : Key) = Sum.inr b) = false := decide_eq_false (fun q => nomatch q)
theorem key_rl (a : Str) (b : Int) : decide ((Sum.inr a : Key) = Sum.inl b) = false := decide_eq_false (fun q => nomatch q)
def mixKind (prog : Program) (w : World) : PySem.KeyKind prog w Key where
 is := keyIs
 hash := keyH w
 inj := fun v a b ha hb => by
  rcases keyIs_shape ha with ⟨i, t, rfl, rfl⟩ | ⟨x, t, rfl, rfl⟩
  ·rcases keyIs_shape hb with ⟨j, u, rfl, e⟩ | ⟨y, u, rfl, e⟩
   ·injection e with e1 _; rw [e1]
   ·exact nomatch e
  ·rcases keyIs_shape hb with ⟨j, u, rfl, e⟩ | ⟨y, u, rfl, e⟩
   ·exact nomatch e
   ·injection e with e1 _; rw [e1]
 byValue := fun k v h => by
  rcases keyIs_shape h with ⟨i, t, rfl, rfl⟩ | ⟨x, t, rfl, rfl⟩ <;> rfl
 pyHash := fun hv h => by
  rcases keyIs_shape hv with ⟨i, t, rfl, rfl⟩ | ⟨x, t, rfl, rfl⟩
  ·exact wpAny_pyHash_int h
  ·exact wpAny_pyHash_str h
 eqBool := fun hu hv h => by
  rcases keyIs_shape hu with ⟨i, t, rfl, rfl⟩ | ⟨x, t, rfl, rfl⟩
  ·rcases keyIs_shape hv with ⟨j, u, rfl, rfl⟩ | ⟨y, u, rfl, rfl⟩
   ·rw [key_ll] at h; exact wpAny_eqBool_int h
   ·rw [key_lr] at h; exact SeqAt.EqAt.int_str i t y u _ _ _ _ h
  ·rcases keyIs_shape hv with ⟨j, u, rfl, rfl⟩ | ⟨y, u, rfl, rfl⟩
   ·rw [key_rl] at h; exact SeqAt.EqAt.str_int x t j u _ _ _ _ h
   ·rw [key_rr] at h; exact wpAny_eqBool_str h
 «strs» := fun k x t v h => by
  rcases keyIs_shape h with ⟨i, u, rfl, e⟩ | ⟨y, u, rfl, e⟩
  ·exact nomatch e
  ·injection e with e1 _
   subst e1
   cases v <;> rfl
end L2
namespace L2
open PySem PySem.Spec PyProof.Rows
inductive V where
 | non | bl (b : Bool) | int (i : Int) | str (x : Str) | byt (b : Array UInt8) | flt (b : UInt64) | ref (a : Addr) | ty (n : String)
 deriving DecidableEq
def RelV : V → Value → Prop
 | .non, u => u = Value.none
 | .bl b, u => u = Value.bool b
 | .int i, u => ∃ t, u = Value.int i t
 | .str x, u => ∃ t, u = Value.str x t
 | .byt b, u => ∃ t, u = Value.bytes b t
 | .flt b, u => ∃ t, u = Value.float b t
 | .ref a, u => u = Value.ref a
 | .ty n, u => u = Value.type n
abbrev Vals : List V → List Value → Prop := Paired RelV
theorem Vals.length {xs : List V} {us : List Value} (r : Vals xs us) : xs.length = us.length := Paired.length r
theorem Vals.get : ∀ {xs : List V} {us : List Value} {i : Nat} {x : V}, Vals xs us → xs[i]? = some x → ∃ u, us[i]? = some u ∧ RelV x u
 | _, _, _, _, .nil, e => by simp at e
 | _, _, 0, _, .cons r _, e => by simp at e; subst e; exact ⟨_, rfl, r⟩
 | _, _, i + 1, x, .cons _ t, e => by
  obtain ⟨u, h1, h2⟩ := Vals.get (i := i) (x := x) t (by simpa using e)
  exact ⟨u, by simpa using h1, h2⟩
theorem Vals.set {x : V} {u : Value} (r : RelV x u) : ∀ {xs : List V} {us : List Value} (i : Nat), Vals xs us → Vals (xs.set i x) (us.set i u)
 | _, _, _, .nil => .nil
 | _, _, 0, .cons _ t => .cons r t
 | _, _, i + 1, .cons q t => .cons q (Vals.set r i t)
theorem Vals.append : ∀ {xs ys : List V} {us ws : List Value}, Vals xs us → Vals ys ws → Vals (xs ++ ys) (us ++ ws)
 | _, _, _, _, .nil, s => s
 | _, _, _, _, .cons r t, s => .cons r (Vals.append t s)
theorem Vals.take : ∀ {xs : List V} {us : List Value} (n : Nat), Vals xs us → Vals (xs.take n) (us.take n)
 | _, _, 0, _ => .nil
 | _, _, _ + 1, .nil => .nil
 | _, _, n + 1, .cons r t => .cons r (Vals.take n t)
theorem Vals.drop : ∀ {xs : List V} {us : List Value} (n : Nat), Vals xs us → Vals (xs.drop n) (us.drop n)
 | _, _, 0, r => r
 | _, _, _ + 1, .nil => .nil
 | _, _, n + 1, .cons _ t => Vals.drop n t
def RelO : Option V → Option Value → Prop
 | some v, some u => RelV v u
 | none, none => True
 | _, _ => False
def KV {κ : Type} : List (κ × V) → List (κ × Value) → Prop := Paired fun (p : κ × V) (q : κ × Value) => p.1 = q.1 ∧ RelV p.2 q.2
def kV : Key → V
 | .inl i => .int i
 | .inr x => .str x
inductive HO where
 /-- a list -/
 | lst (xs : List V)
 /-- a tuple (never changes) -/
 | tup (xs : List V)
 /-- a dict whose keys are ints and texts; one whose keys are tuples of ints and texts (the empty one is both) -/
 | dK (kvs : List (Key × V)) | dT (kvs : List (List Key × V))
 /-- a set of ints: its members, its size -/
 | set (S : Int → Bool) (n : Nat)
 /-- an instance of the class at C, its dict at dx, its attributes -/
 | ins (C dx : Addr) (fs : List (Str × V))
 /-- the dict of the instance at x -/
 | own (x : Addr)
 /-- the dict of an exception -/
 | xd (fs : List (Str × V))
 /-- a bound method, f of x -/
 | met (f x : Addr)
 /-- a range object lo, lo + 1, .. below hi -/
 | rng (lo hi : Int)
 /-- a thing that is known to the object (the script; a dict while a loop walks it): read, never written while it is so -/
 | frz (o : Obj) (u : HO)
 /-- a code object's table -/
 | tbl (ps : Array Value)
 /-- any other thing, by what is true of its one object (a def of one's own: SetO a S n := HO.ext fun h => ..) -/
 | ext (φ : Heap → Prop)
abbrev Hp := Addr → Option HO
def upd (H : Hp) (a : Addr) (o : HO) : Hp := fun b => if b = a then some o else H b
theorem upd_same {H : Hp} {a : Addr} {o : HO} : upd H a o a = some o := by unfold upd; rw [if_pos rfl]
theorem upd_ne {H : Hp} {a b : Addr} {o : HO} (h : b ≠ a) : upd H a o b = H b := by unfold upd; rw [if_neg h]
theorem upd_upd {H : Hp} {a : Addr} {o u : HO} : upd (upd H a o) a u = upd H a u := by
 funext b; unfold upd; split <;> rfl
theorem ne_of {H : Hp} {a b : Addr} {o u : HO} (h : H a = some o) (h' : H b = some u) (d : o ≠ u) : a ≠ b := by
 intro e; subst e; rw [h] at h'; exact d (Option.some.inj h')
theorem ne_of_none {H : Hp} {a b : Addr} {o : HO} (h : H a = some o) (h' : H b = none) : a ≠ b := by
 intro e; subst e; rw [h] at h'; cases h'
section
variable (P : Program) (w : World)
def ObjOk (H : Hp) (h : Heap) (a : Addr) : HO → Prop
 | .lst xs => xs.length ≤ sizeLine ∧ ∃ (its : List Value) (n : Nat), Vals xs its ∧ h.get? a = some { cls := .type "list", data := .seq its.toArray n }
 | .tup xs => xs.length ≤ sizeLine ∧ ∃ its : List Value, Vals xs its ∧ IsTup h a its.toArray
 | .dK kvs => kvs.length ≤ sizeLine ∧ (a == sysModules) = false ∧ ∃ vs, KV kvs vs ∧ h.DictOf (mixKind P w) a vs
 | .dT kvs => kvs.length ≤ sizeLine ∧ (a == sysModules) = false ∧ ∃ xs : List (List Key × Addr × Value),
   Paired (fun (p : List Key × V) (q : List Key × Addr × Value) => p.1 = q.1 ∧ H q.2.1 = some (.tup (p.1.map kV)) ∧ RelV p.2 q.2.2) kvs xs ∧
   ∃ o es ep, h.get? a = some o ∧ o.ExactDict ∧ o.data = .dict es ep ∧ es.toList = xs.map (entryOfKey (tupleKind (mixKind P w))) ∧ (xs.map (·.1)).Nodup
 | .set S n => h.SetOf (intKind P w) a S n
 | .ins C dx fs => H dx = some (.own a) ∧ fs.length ≤ 1000 ∧ dx ≠ a ∧ h.get? a = some (PySem.W.instObj C dx) ∧
   ∃ mA, h.Ns1 dx mA ∧ (∀ f, RelO (fs.lookup f) (mA f)) ∧ PySem.Within mA (fs.map (·.1))
 | .own _ => ∃ o, h.get? a = some o
 | .xd fs => ∃ mA, h.Ns1 a mA ∧ ∀ f, RelO (fs.lookup f) (mA f)
 | .rng lo hi => ∃ t u v, h.get? a = some { cls := .type "range", data := .fields #[.int lo t, .int hi u, .int 1 v] }
 | .frz o u => h.get? a = some o ∧ ObjOk H h a u
 | .tbl ps => h.get? a = some { cls := .none, data := .fields ps }
 | .met f x => h.get? a = some (PySem.W.methodObj (.ref f) (.ref x))
 | .ext φ => φ h ∧ (∃ o, h.get? a = some o) ∧ ∀ h1 h2 : Heap, φ h1 → (∀ o, h1.get? a = some o → h2.get? a = some o) → φ h2
def HOk (H : Hp) (h : Heap) : Prop := ∀ a o, H a = some o → ObjOk P w H h a o
end
section
variable {P : Program} {w : World} {H H' : Hp} {h h' : Heap} {a : Addr} {o : HO}
theorem ObjOk.lt (x : ObjOk P w H h a o) : a < h.objs.size := by
 cases o with
 | lst xs => obtain ⟨_, _, _, _, e⟩ := x; exact Heap.lt_size e
 | tup xs => obtain ⟨_, _, _, p⟩ := x; exact p.lt
 | dK kvs => obtain ⟨_, _, _, _, o, _, _, e, _⟩ := x; exact Heap.lt_size e
 | dT kvs => obtain ⟨_, _, _, _, o, _, _, e, _⟩ := x; exact Heap.lt_size e
 | set S n => obtain ⟨o, _, _, _, e, _⟩ := x; exact Heap.lt_size e
 | ins C dx fs => obtain ⟨_, _, _, e, _⟩ := x; exact Heap.lt_size e
 | own y => obtain ⟨_, e⟩ := x; exact Heap.lt_size e
 | xd fs => obtain ⟨_, ⟨_, _, _, e, _⟩, _⟩ := x; exact Heap.lt_size e
 | rng lo hi => obtain ⟨_, _, _, e⟩ := x; exact Heap.lt_size e
 | frz ob u => obtain ⟨e, _⟩ := x; exact Heap.lt_size e
 | tbl ps => exact Heap.lt_size (show h.get? a = some _ from x)
 | met f y => exact Heap.lt_size (show h.get? a = some _ from x)
 | ext φ => obtain ⟨_, ⟨_, e⟩, _⟩ := x; exact Heap.lt_size e
theorem Paired.mapP {α β : Type} {F G : α → β → Prop} : ∀ {l₁ : List α} {l₂ : List β}, Paired F l₁ l₂ → (∀ a b, F a b → G a b) → Paired G l₁ l₂
 | _, _, .nil, _ => .nil
 | _, _, .cons r t, f => .cons (f _ _ r) (Paired.mapP t f)
theorem ObjOk.stay (x : ObjOk P w H h a o) (k : ∀ b u, (b = a ∨ H b = some (.own a)) → h.get? b = some u → h'.get? b = some u)
  (ho : ∀ b, H b = some (.own a) → H' b = some (.own a)) (ht : ∀ b xs, H b = some (.tup xs) → H' b = some (.tup xs)) : ObjOk P w H' h' a o := by
 induction o with
 | lst xs => obtain ⟨z, its, n, r, e⟩ := x; exact ⟨z, its, n, r, k _ _ (.inl rfl) e⟩
 | tup xs => obtain ⟨z, its, r, ob, e, c⟩ := x; exact ⟨z, its, r, ob, k _ _ (.inl rfl) e, c⟩
 | dK kvs => obtain ⟨z, y, vs, r, ob, es, ep, e, c⟩ := x; exact ⟨z, y, vs, r, ob, es, ep, k _ _ (.inl rfl) e, c⟩
 | dT kvs =>
  obtain ⟨z, y, xs, r, ob, es, ep, e, c⟩ := x
  exact ⟨z, y, xs, Paired.mapP r fun p q z => ⟨z.1, ht _ _ z.2.1, z.2.2⟩, ob, es, ep, k _ _ (.inl rfl) e, c⟩
 | set S n => obtain ⟨ob, es, ep, t, e, c⟩ := x; exact ⟨ob, es, ep, t, k _ _ (.inl rfl) e, c⟩
 | ins C dx fs =>
  obtain ⟨d, z, ne, e, mA, ⟨od, es, ep, e2, c⟩, r⟩ := x
  exact ⟨ho _ d, z, ne, k _ _ (.inl rfl) e, mA, ⟨od, es, ep, k _ _ (.inr d) e2, c⟩, r⟩
 | own y => obtain ⟨ob, e⟩ := x; exact ⟨ob, k _ _ (.inl rfl) e⟩
 | xd fs => obtain ⟨mA, ⟨od, es, ep, e, c⟩, r⟩ := x; exact ⟨mA, ⟨od, es, ep, k _ _ (.inl rfl) e, c⟩, r⟩
 | rng lo hi => obtain ⟨t, u, v, e⟩ := x; exact ⟨t, u, v, k _ _ (.inl rfl) e⟩
 | frz ob u ih => obtain ⟨e, q⟩ := x; exact ⟨k _ _ (.inl rfl) e, ih q⟩
 | tbl ps =>
  have e : h.get? a = some { cls := .none, data := .fields ps } := x
  show h'.get? a = some { cls := .none, data := .fields ps }
  exact k a _ (.inl rfl) e
 | met f y =>
  have e : h.get? a = some (PySem.W.methodObj (.ref f) (.ref y)) := x
  show h'.get? a = some (PySem.W.methodObj (.ref f) (.ref y))
  exact k a _ (.inl rfl) e
 | ext φ => obtain ⟨p, ⟨o, e⟩, st⟩ := x; exact ⟨st _ _ p fun o q => k _ _ (.inl rfl) q, ⟨o, k _ _ (.inl rfl) e⟩, st⟩
theorem HOk.lt (x : HOk P w H h) (e : H a = some o) : a < h.objs.size := (x a o e).lt
theorem HOk.fresh (x : HOk P w H h) (e : h.objs.size ≤ a) : H a = none := by
 cases q : H a with
 | none => rfl
 | some u => exact absurd (Nat.lt_of_lt_of_le (x.lt q) e) (Nat.lt_irrefl _)
theorem HOk.kept (x : HOk P w H h) (k : ∀ b u, h.get? b = some u → h'.get? b = some u) : HOk P w H h' := fun a o e =>
 (x a o e).stay (fun b u _ q => k b u q) (fun _ q => q) fun _ _ q => q
theorem HOk.laid (x : HOk P w H h) (k : ∀ b u, h.get? b = some u → h'.get? b = some u) (hp : h.objs.size ≤ a) (new : ObjOk P w (upd H a o) h' a o) : HOk P w (upd H a o) h' := fun b u e => by
 have hn := x.fresh hp
 by_cases hb : b = a
 ·subst hb; rw [upd_same] at e; cases e; exact new
 ·rw [upd_ne hb] at e
  exact (x b u e).stay (fun c v _ q => k c v q) (fun c q => by rw [upd_ne (ne_of_none q hn)]; exact q) fun c xs q => by rw [upd_ne (ne_of_none q hn)]; exact q
end
def Rd (H : Hp) (a : Addr) (u : HO) : Prop := H a = some u ∨ ∃ o, H a = some (.frz o u)
theorem Rd.of {H : Hp} {a : Addr} {u : HO} (h : H a = some u) : Rd H a u := .inl h
theorem Rd.ok {P : Program} {w : World} {H : Hp} {h : Heap} {a : Addr} {u : HO} (r : Rd H a u) (x : HOk P w H h) : ObjOk P w H h a u := by
 rcases r with r | ⟨o, r⟩
 ·exact x a u r
 ·obtain ⟨_, q⟩ := x a _ r
  exact q
def Mut : Option HO → Prop
 | some (.lst _) => True
 | some (.dK _) => True
 | some (.dT _) => True
 | some (.set _ _) => True
 | some (.ins _ _ _) => True
 | some (.ext _) => True
 | _ => False
section
variable {P : Program} {w : World} {H : Hp} {h h' : Heap} {x e : Addr} {o' : HO}
theorem HOk.write (ok : HOk P w H h) (mu : Mut (H x)) (he : e = x ∨ H e = some (.own x)) (k : ∀ b u, b ≠ e → h.get? b = some u → h'.get? b = some u) (heo : ∃ u, h'.get? e = some u)
  (new : ObjOk P w (upd H x o') h' x o') : HOk P w (upd H x o') h' := fun b u q => by
 have nown : ∀ c y, H c = some (.own y) → c ≠ x := fun c y r z => by subst z; rw [r] at mu; exact mu
 have ntup : ∀ c xs, H c = some (.tup xs) → c ≠ x := fun c xs r z => by subst z; rw [r] at mu; exact mu
 by_cases hb : b = x
 ·subst hb; rw [upd_same] at q; cases q; exact new
 ·rw [upd_ne hb] at q
  by_cases hbe : b = e
  ·have q' : H b = some (.own x) := by
    rcases he with z | z
    ·exact absurd (hbe.trans z) hb
    ·rw [hbe]; exact z
   rw [q] at q'; cases q'
   obtain ⟨v, hv⟩ := heo
   exact ⟨v, by rw [hbe]; exact hv⟩
  ·refine (ok b u q).stay (fun c v hc r => k c v ?_ r) (fun c r => by rw [upd_ne (nown c b r)]; exact r) fun c xs r => by rw [upd_ne (ntup c xs r)]; exact r
   rcases hc with rfl | hc
   ·exact hbe
   ·rintro rfl
    rcases he with z | z
    ·exact nown c b hc z
    ·rw [hc] at z; cases z; exact hb rfl
end
structure Un (fs ex : List Addr) (H H' : Hp) (h h' : Heap) : Prop where
 keep : ∀ b o, h.get? b = some o → H b = none → b ∉ fs → b ∉ ex → h'.get? b = some o
 slot : ∀ b o, h.get? b = some o → H b = none → b ∈ fs → b ∉ ex → ∃ sl, h'.get? b = some { o with slots := sl }
 free : ∀ b o, h.get? b = some o → H b = none → b ∉ ex → H' b = none
 there : ∀ b o, h.get? b = some o → b ∉ ex → ∃ o', h'.get? b = some o'
 tups : ∀ b xs, H b = some (.tup xs) → H' b = some (.tup xs)
 frzs : ∀ b o u, H b = some (.frz o u) → H' b = some (.frz o u)
 tbls : ∀ b ps, H b = some (.tbl ps) → ∃ more, H' b = some (.tbl (ps ++ more))
section
variable {fs fs' ex ex' : List Addr} {H H1 H2 : Hp} {h h1 h2 h' : Heap} {a x e : Addr} {o : HO}
theorem Un.any (u : Un fs ex H H1 h h1) {b : Addr} {ob : Obj} (q : h.get? b = some ob) (n : H b = none) (hx : b ∉ ex) : ∃ sl, h1.get? b = some { ob with slots := sl } := by
 by_cases hb : b ∈ fs
 ·exact u.slot b ob q n hb hx
 ·exact ⟨ob.slots, u.keep b ob q n hb hx⟩
theorem Un.trans (a : Un fs ex H H1 h h1) (b : Un fs ex H1 H2 h1 h2) : Un fs ex H H2 h h2 where
 keep := fun c ob q n hc hx => b.keep c ob (a.keep c ob q n hc hx) (a.free c ob q n hx) hc hx
 slot := fun c ob q n hc hx => by
  obtain ⟨sl, e1⟩ := a.slot c ob q n hc hx
  obtain ⟨sl', e2⟩ := b.slot c _ e1 (a.free c ob q n hx) hc hx
  exact ⟨sl', e2⟩
 free := fun c ob q n hx => by
  obtain ⟨o', e1⟩ := a.there c ob q hx
  exact b.free c o' e1 (a.free c ob q n hx) hx
 there := fun c ob q hx => by
  obtain ⟨o', e1⟩ := a.there c ob q hx
  exact b.there c o' e1 hx
 tups := fun c xs q => b.tups c xs (a.tups c xs q)
 frzs := fun c ob xs q => b.frzs c ob xs (a.frzs c ob xs q)
 tbls := fun c ps q => by
  obtain ⟨m1, e1⟩ := a.tbls c ps q
  obtain ⟨m2, e2⟩ := b.tbls c _ e1
  exact ⟨m1 ++ m2, by rw [e2, Array.append_assoc]⟩
theorem Un.kept (k : ∀ b u, h.get? b = some u → h'.get? b = some u) : Un fs ex H H h h' :=
 ⟨fun b ob q _ _ _ => k b ob q, fun b ob q _ _ _ => ⟨ob.slots, k b ob q⟩, fun _ _ _ n _ => n, fun b ob q _ => ⟨ob, k b ob q⟩, fun _ _ q => q, fun _ _ _ q => q, fun _ ps q => ⟨#[], by rw [q]; simp⟩⟩
theorem Un.refl : Un fs ex H H h h := Un.kept fun _ _ q => q
theorem Un.laid (k : ∀ b u, h.get? b = some u → h'.get? b = some u) (hp : h.objs.size ≤ a) (hn : H a = none) : Un fs ex H (upd H a o) h h' where
 keep := fun b u q _ _ _ => k b u q
 slot := fun b u q _ _ _ => ⟨u.slots, k b u q⟩
 free := fun b u q n _ => by rw [upd_ne (Nat.ne_of_lt (Nat.lt_of_lt_of_le (Heap.lt_size q) hp))]; exact n
 there := fun b u q _ => ⟨u, k b u q⟩
 tups := fun b xs q => by rw [upd_ne (ne_of_none q hn)]; exact q
 frzs := fun b u xs q => by rw [upd_ne (ne_of_none q hn)]; exact q
 tbls := fun b ps q => ⟨#[], by rw [upd_ne (ne_of_none q hn), q]; simp⟩
theorem Un.write (mu : Mut (H x)) (he : e = x ∨ H e = some (.own x)) (k : ∀ b u, b ≠ e → h.get? b = some u → h'.get? b = some u) (heo : ∃ u, h'.get? e = some u) : Un fs ex H (upd H x o) h h' := by
 have hx : ∀ b, H b = none → b ≠ x := fun b n z => by subst z; rw [n] at mu; exact mu
 have hb : ∀ b, H b = none → b ≠ e := fun b n z => by
  subst z
  rcases he with r | r
  ·exact hx b n r
  ·rw [n] at r; cases r
 have hm : ∀ b u, H b = some u → ¬ Mut (some u) → b ≠ x := fun b u q nm z => by subst z; rw [q] at mu; exact nm mu
 refine ⟨fun b u q n _ _ => k b u (hb b n) q, fun b u q n _ _ => ⟨u.slots, k b u (hb b n) q⟩, fun b u q n _ => by rw [upd_ne (hx b n)]; exact n, fun b u q _ => ?_,
  fun b xs q => by rw [upd_ne (hm b _ q fun z => z)]; exact q, fun b u xs q => by rw [upd_ne (hm b _ q fun z => z)]; exact q, fun b ps q => ⟨#[], by rw [upd_ne (hm b _ q fun z => z), q]; simp⟩⟩
 by_cases hbe : b = e
 ·subst hbe; exact heo
 ·exact ⟨u, k b u hbe q⟩
theorem Un.mono (u : Un fs ex H H1 h h1) (hs : ∀ b ∈ fs, b ∈ fs') (hx : ∀ b ∈ ex, b ∈ ex') : Un fs' ex' H H1 h h1 :=
 ⟨fun b ob q n hb he => u.keep b ob q n (fun z => hb (hs b z)) fun z => he (hx b z), fun _ _ q n _ he => u.any q n fun z => he (hx _ z), fun b ob q n he => u.free b ob q n fun z => he (hx b z), fun b ob q he => u.there b ob q fun z => he (hx b z), u.tups, u.frzs, u.tbls⟩
end
def trk (h : Heap) (H : Hp) : List Addr := (List.range h.objs.size).filter fun a => (H a).isSome
def hidT (h : Heap) (H : Hp) : Heap := PySem.W.hideAll h (trk h H)
theorem hidT_size (h : Heap) (H : Hp) : (hidT h H).objs.size = h.objs.size := PySem.W.hideAll_size _ _
theorem hidT_get {h : Heap} {H : Hp} {b : Addr} {o : Obj} (e : h.get? b = some o) (n : H b = none) : (hidT h H).get? b = some o :=
 PySem.W.hideAll_get _ e fun hm => by
  have q : (H b).isSome = true := (List.mem_filter.mp hm).2
  rw [n] at q; simp at q
theorem of_hidT {h : Heap} {H : Hp} {b : Addr} {o : Obj} (e : (hidT h H).get? b = some o) : h.get? b = some o ∧ H b = none := by
 have e' : h.get? b = some o := PySem.W.of_hideAll (trk h H) e
 refine ⟨e', ?_⟩
 cases q : H b with
 | none => rfl
 | some x =>
  have hm : b ∈ trk h H := List.mem_filter.mpr ⟨List.mem_range.mpr (Heap.lt_size e'), by simp [q]⟩
  have z : (hidT h H).get? b = none := PySem.W.hideAll_none (trk h H) hm
  rw [z] at e; cases e
def allNews (g h : Heap) (L : Addr) : List (Addr × Obj) := (List.range h.objs.size).filterMap fun a => if a = L ∨ (g.get? a).isSome = true then none else (h.get? a).map fun o => (a, o)
def rest (g h : Heap) (L d : Addr) : List (Addr × Obj) := (allNews g h L).filter fun p => decide (p.1 ≠ d)
end L2
namespace L2
open PySem PySem.Spec PyProof.Rows
structure Mod (K : PySem.W.Frag) (mg : Str → Option Value) (base : Heap) : Prop where
 kin : K.In base
 glob : base.Ns mainGlobals mg
 blt : ∃ mb, base.Ns builtinsNs mb ∧ ∀ x : Str, x ≠ "__name__" → mb x = bootBuiltins x
 nolimit : base.NoLimit
structure Cx where
 prog : Program
 w : World
 K : PySem.W.Frag
 mg : Str → Option Value
 base : Heap
 A : Around
 N : List Str
 s₀ : Shared
 H₀ : Hp
 env : Env
 outer : List Env
 stack : List Env
 ex : List Addr
 fn : Str → Bool
 calm : Bool
 pn : List (Addr × Obj)
 xe : Value → Shared → Prop
def frs (l : List Env) : List Addr := l.filterMap (·.frame)
abbrev Cx.fs (X : Cx) : List Addr := frs X.outer
def Vis (sc : Scope) (x : Str) : Prop := sc.names.lookup x = some .local ∨ sc.names.lookup x = some .cell ∨ sc.names.lookup x = some .free
def Loc (sc : Scope) (x : Str) : Prop := sc.names.lookup x = some .local ∨ sc.names.lookup x = some .cell
def Look (env : Env) (h : Heap) (m : Str → Option Value) (x : Str) (u : Value) : Prop :=
 (env.kindOf x = some .local ∧ m x = some u) ∨ ((env.kindOf x = some .cell ∨ env.kindOf x = some .free) ∧ ∃ c, env.cells.lookup x = some c ∧ h.IsCell c (some u))
structure Cx.Ok (X : Cx) : Prop where
 mod : Mod X.K X.mg X.base
 kind : X.env.scope.kind = .function
 glob : X.env.globals = mainGlobals
 blt : X.env.builtins = builtinsNs
 above : X.s₀.heap.objs.size ≤ X.env.locals
 inj : ∀ x y c, X.env.cells.lookup x = some c → X.env.cells.lookup y = some c → x = y
 has : ∀ x, (X.env.kindOf x = some .cell ∨ X.env.kindOf x = some .free) → ∃ c, X.env.cells.lookup x = some c
 cab : ∀ x c, X.fn x = true → X.env.cells.lookup x = some c → X.s₀.heap.objs.size ≤ c
 hd : X.calm = true → X.A.handled = none
 frames : X.A.frames = some X.stack
 stk : X.stack = X.outer ∨ (X.stack = X.env :: X.outer ∧ X.env.frame = some X.env.locals)
 exf : ∀ b ∈ X.ex, b ≠ X.env.locals ∧ ∀ x c, X.env.cells.lookup x = some c → c ≠ b
 bs : ∀ b o, X.base.get? b = some o → X.s₀.heap.get? b = some o ∧ X.H₀ b = none
 bsz : X.base.objs.size ≤ X.s₀.heap.objs.size
 noex : ∀ b o, X.base.get? b = some o → b ∉ X.ex
 exfs : ∀ b ∈ X.ex, b ∉ X.fs
 funs : X.s₀.heap.FunFrames X.base X.outer
 frf : ∀ b ∈ X.fs, X.H₀ b = none
structure Inv (X : Cx) (pins : List (Addr × Obj)) (σ : List (Option V)) (H : Hp) (s : Shared) : Prop where
 ok : X.Ok
 os : s.os = X.s₀.os
 bare : AllBare s.gens
 base : Un X.fs X.ex X.H₀ H X.s₀.heap s.heap
 loc : ∃ m, s.heap.Ns X.env.locals m ∧ ∀ (i : Nat) (x : Str) (v : V), X.N[i]? = some x → σ[i]? = some (some v) → Vis X.env.scope x → ∃ u, RelV v u ∧ Look X.env s.heap m x u
 cell : ∀ x c, X.env.cells.lookup x = some c → ∃ v, s.heap.IsCell c v
 free : H X.env.locals = none
 freeC : ∀ x c, X.env.cells.lookup x = some c → H c = none
 pin : ∀ p ∈ X.pn ++ pins, s.heap.get? p.1 = some p.2 ∧ H p.1 = none ∧ p.1 ≠ X.env.locals ∧ p.1 ∉ X.fs ∧ ∀ v, p.2.data ≠ .cell v
 hok : HOk X.prog X.w H s.heap
 len : σ.length = X.N.length
section
variable {X : Cx} {pins : List (Addr × Obj)} {σ : List (Option V)} {H H' : Hp} {s : Shared} {h' : Heap}
theorem Cx.Ok.nofr (ok : X.Ok) {b : Addr} {o : Obj} (e : X.base.get? b = some o) : b ∉ X.fs := fun hb => by
 have := (ok.funs.mem hb).1
 rw [e] at this; cases this
theorem Inv.bs (I : Inv X pins σ H s) : ∀ b o, X.base.get? b = some o → s.heap.get? b = some o ∧ H b = none := fun b o e =>
 ⟨I.base.keep b o (I.ok.bs b o e).1 (I.ok.bs b o e).2 (I.ok.nofr e) (I.ok.noex b o e), I.base.free b o (I.ok.bs b o e).1 (I.ok.bs b o e).2 (I.ok.noex b o e)⟩
theorem Inv.bk (I : Inv X pins σ H s) : ∀ b o, X.base.get? b = some o → s.heap.get? b = some o := fun b o e => (I.bs b o e).1
theorem Inv.mod (I : Inv X pins σ H s) : Mod X.K X.mg X.base := I.ok.mod
theorem Inv.kIn (I : Inv X pins σ H s) : X.K.In s.heap := I.ok.mod.kin.keeps I.bk
theorem Inv.nolimit (I : Inv X pins σ H s) : s.heap.NoLimit := I.ok.mod.nolimit.keeps I.bk
theorem Inv.fr (I : Inv X pins σ H s) : ∃ m, Fr X.base X.env.locals s.heap m :=
 let ⟨m, hn, _⟩ := I.loc
 ⟨m, hn, I.bk, Nat.le_trans I.ok.bsz I.ok.above⟩
theorem Inv.lt (I : Inv X pins σ H s) : X.env.locals < s.heap.objs.size := let ⟨_, hn, _⟩ := I.loc; hn.lt
theorem Inv.sz (I : Inv X pins σ H s) : X.s₀.heap.objs.size ≤ s.heap.objs.size := Nat.le_trans I.ok.above (Nat.le_of_lt I.lt)
theorem Inv.nofs (I : Inv X pins σ H s) {a : Addr} (h : s.heap.objs.size ≤ a) : a ∉ X.fs := fun hb => by
 obtain ⟨_, o, ho, _⟩ := I.ok.funs.mem hb
 exact absurd (Nat.lt_of_lt_of_le (Heap.lt_size ho) (Nat.le_trans I.sz h)) (Nat.lt_irrefl _)
theorem Inv.cne (I : Inv X pins σ H s) : ∀ x c, X.env.cells.lookup x = some c → c ≠ X.env.locals := fun x c e z => by
 obtain ⟨v, o, ho, hd⟩ := I.cell x c e
 obtain ⟨m, ⟨o', es, ep, ho', hd', _⟩, _⟩ := I.loc
 rw [z, ho'] at ho; cases ho; rw [hd'] at hd; cases hd
theorem Inv.funs (I : Inv X pins σ H s) : s.heap.FunFrames X.base X.outer := by
 have all : ∀ (l : List Env), (∀ b ∈ frs l, b ∈ X.fs) → X.s₀.heap.FunFrames X.base l → s.heap.FunFrames X.base l := by
  intro l
  induction l with
  | nil => intro _ _; trivial
  | cons env r ih =>
   intro hs hl
   obtain ⟨hk, ⟨L, o, hf, hn, ho, hd⟩, hr⟩ := hl
   have hL : L ∈ X.fs := hs L (by unfold frs; rw [List.filterMap_cons, hf]; exact List.mem_cons_self)
   obtain ⟨sl, e⟩ := I.base.slot L o ho (I.ok.frf L hL) hL fun z => I.ok.exfs L z hL
   exact ⟨hk, ⟨L, _, hf, hn, e, hd⟩, ih (fun b hb => hs b (by unfold frs; rw [List.filterMap_cons, hf]; exact List.mem_cons_of_mem _ hb)) hr⟩
 exact all X.outer (fun _ hb => hb) I.ok.funs
theorem Inv.stack (I : Inv X pins σ H s) : s.heap.FunFrames X.base X.stack := by
 rcases I.ok.stk with e | ⟨e, hf⟩
 ·rw [e]; exact I.funs
 ·rw [e]
  obtain ⟨m, hn, _⟩ := I.loc
  refine .cons (by rw [I.ok.kind]; decide) hf hn ?_ I.funs
  exact Heap.get?_none_of_le (Nat.le_trans I.ok.bsz I.ok.above)
theorem Inv.stkSub (I : Inv X pins σ H s) : ∀ b ∈ frs X.stack, b ∈ X.env.locals :: X.fs := fun b hb => by
 rcases I.ok.stk with e | ⟨e, hf⟩
 ·rw [e] at hb; exact List.mem_cons_of_mem _ hb
 ·rw [e] at hb
  unfold frs at hb
  rw [List.filterMap_cons, hf] at hb
  exact hb
theorem Inv.stkFree (I : Inv X pins σ H s) : ∀ b ∈ frs X.stack, H b = none := fun b hb => by
 rcases List.mem_cons.mp (I.stkSub b hb) with e | hb
 ·rw [e]; exact I.free
 ·obtain ⟨_, o, ho, _⟩ := I.ok.funs.mem hb
  exact I.base.free b o ho (I.ok.frf b hb) fun z => I.ok.exfs b z hb
theorem Inv.step {g' : Array GenState} {t' : Nat} {d' : Drawn} {ch : List Addr} (I : Inv X pins σ H s)
  (hch : ∀ b ∈ ch, (b ∈ X.ex ∨ X.s₀.heap.objs.size ≤ b) ∧ b ≠ X.env.locals ∧ (∀ x c, X.env.cells.lookup x = some c → c ≠ b) ∧ ∀ p ∈ X.pn ++ pins, p.1 ≠ b)
  (keep : ∀ b o, b ≠ X.env.locals → b ∉ X.fs → b ∉ ch → s.heap.get? b = some o → H b = none → h'.get? b = some o)
  (slot : ∀ b o, b ≠ X.env.locals → b ∈ X.fs → b ∉ ch → s.heap.get? b = some o → H b = none → ∃ sl, h'.get? b = some { o with slots := sl }) (free : ∀ b o, b ∉ ch → s.heap.get? b = some o → H b = none → H' b = none)
  (there : ∀ b o, b ∉ ch → s.heap.get? b = some o → ∃ o', h'.get? b = some o')
  (tups : ∀ b xs, H b = some (.tup xs) → H' b = some (.tup xs)) (frzs : ∀ b o u, H b = some (.frz o u) → H' b = some (.frz o u)) (tbls : ∀ b ps, H b = some (.tbl ps) → ∃ more, H' b = some (.tbl (ps ++ more)))
  (ns : ∀ m, s.heap.Ns X.env.locals m → h'.Ns X.env.locals m) (hok : HOk X.prog X.w H' h') (hg : AllBare g') :
  Inv X pins σ H' { s with heap := h', gens := g', drawn := d', toks := t' } := by
 have neL : ∀ b o, X.s₀.heap.get? b = some o → b ≠ X.env.locals := fun b o e => Nat.ne_of_lt (Nat.lt_of_lt_of_le (Heap.lt_size e) I.ok.above)
 have neC : ∀ b o, X.s₀.heap.get? b = some o → b ∉ X.ex → b ∉ ch := fun b o e hx hb => by
  rcases (hch b hb).1 with z | z
  ·exact hx z
  ·exact absurd (Nat.lt_of_lt_of_le (Heap.lt_size e) z) (Nat.lt_irrefl _)
 have cellK : ∀ x c, X.env.cells.lookup x = some c → ∀ v, s.heap.IsCell c v → h'.IsCell c v := fun x c e v ⟨o, ho, hd⟩ => by
  have nch : c ∉ ch := fun z => (hch c z).2.2.1 x c e rfl
  by_cases hc : c ∈ X.fs
  ·obtain ⟨sl, q⟩ := slot c o (I.cne x c e) hc nch ho (I.freeC x c e)
   exact ⟨_, q, hd⟩
  ·exact ⟨o, keep c o (I.cne x c e) hc nch ho (I.freeC x c e), hd⟩
 refine ⟨I.ok, I.os, hg, ⟨fun b o e n hb hx => ?_, fun b o e n hb hx => ?_, fun b o e n hx => ?_, fun b o e hx => ?_, fun b xs e => tups b xs (I.base.tups b xs e), fun b o xs e => frzs b o xs (I.base.frzs b o xs e), fun b ps e => ?_⟩, ?_, fun x c e => ?_, ?_, fun x c e => ?_, fun p hp => ?_, hok, I.len⟩
 ·exact keep b o (neL b o e) hb (neC b o e hx) (I.base.keep b o e n hb hx) (I.base.free b o e n hx)
 ·obtain ⟨sl, e1⟩ := I.base.slot b o e n hb hx
  obtain ⟨sl', e2⟩ := slot b _ (neL b o e) hb (neC b o e hx) e1 (I.base.free b o e n hx)
  exact ⟨sl', e2⟩
 ·obtain ⟨o', e1⟩ := I.base.there b o e hx
  exact free b o' (neC b o e hx) e1 (I.base.free b o e n hx)
 ·obtain ⟨o', e1⟩ := I.base.there b o e hx
  exact there b o' (neC b o e hx) e1
 ·obtain ⟨m1, e1⟩ := I.base.tbls b ps e
  obtain ⟨m2, e2⟩ := tbls b _ e1
  exact ⟨m1 ++ m2, by rw [e2, Array.append_assoc]⟩
 ·obtain ⟨m, hn, hl⟩ := I.loc
  refine ⟨m, ns m hn, fun i x v e1 e2 e3 => ?_⟩
  obtain ⟨u, r, l⟩ := hl i x v e1 e2 e3
  refine ⟨u, r, ?_⟩
  rcases l with l | ⟨k, c, e, z⟩
  ·exact .inl l
  ·exact .inr ⟨k, c, e, cellK x c e _ z⟩
 ·obtain ⟨v, z⟩ := I.cell x c e
  exact ⟨v, cellK x c e v z⟩
 ·obtain ⟨m, ⟨o, _, _, ho, _⟩, _⟩ := I.loc
  exact free _ o (fun z => (hch _ z).2.1 rfl) ho I.free
 ·obtain ⟨v, o, ho, hd⟩ := I.cell x c e
  exact free c o (fun z => (hch c z).2.2.1 x c e rfl) ho (I.freeC x c e)
 ·obtain ⟨e, n, ne, nf, d⟩ := I.pin p hp
  have nch : p.1 ∉ ch := fun z => (hch p.1 z).2.2.2 p hp rfl
  exact ⟨keep p.1 p.2 ne nf nch e n, free p.1 p.2 nch e n, ne, nf, d⟩
theorem Inv.un {t' : Nat} (I : Inv X pins σ H s) (u : Un X.fs [] H H' s.heap h') (hok : HOk X.prog X.w H' h') : Inv X pins σ H' { s with heap := h', toks := t' } := by
 obtain ⟨m, ⟨o, es, ep, ho, r⟩, _⟩ := id I.loc
 obtain ⟨sl, hL⟩ := u.any ho I.free (by simp)
 exact I.step (g' := s.gens) (d' := s.drawn) (ch := []) (fun _ z => nomatch z) (fun b o _ hb _ e n => u.keep b o e n hb (by simp)) (fun b o _ hb _ e n => u.slot b o e n hb (by simp)) (fun b o _ e n => u.free b o e n (by simp)) (fun b o _ e => u.there b o e (by simp)) u.tups u.frzs u.tbls (fun m' hm => by
  obtain ⟨o', es', ep', ho', r'⟩ := hm
  rw [ho] at ho'; cases ho'
  exact ⟨_, es', ep', hL, r'⟩) hok I.bare
theorem Inv.call {g' : Array GenState} {t' : Nat} {d' : Drawn} {ch : List Addr} (I : Inv X pins σ H s) (u : Un (frs X.stack) ch H H' s.heap h') (hok : HOk X.prog X.w H' h') (hg : AllBare g')
  (hch : ∀ b ∈ ch, (b ∈ X.ex ∨ X.s₀.heap.objs.size ≤ b) ∧ b ≠ X.env.locals ∧ (∀ x c, X.env.cells.lookup x = some c → c ≠ b) ∧ ∀ p ∈ X.pn ++ pins, p.1 ≠ b) :
  Inv X pins σ H' { s with heap := h', gens := g', drawn := d', toks := t' } := by
 obtain ⟨m, ⟨o, es, ep, ho, r⟩, _⟩ := id I.loc
 obtain ⟨sl, hL⟩ := u.any ho I.free fun z => (hch _ z).2.1 rfl
 exact I.step (ch := ch) hch (fun b o hL hb hc e n => u.keep b o e n (fun z => (List.mem_cons.mp (I.stkSub b z)).elim hL hb) hc) (fun b o _ _ hc e n => u.any e n hc) (fun b o hc e n => u.free b o e n hc) (fun b o hc e => u.there b o e hc) u.tups u.frzs u.tbls (fun m' hm => by
  obtain ⟨o', es', ep', ho', r'⟩ := hm
  rw [ho] at ho'; cases ho'
  exact ⟨_, es', ep', hL, r'⟩) hok hg
theorem Inv.turned {t' : Nat} {it : Addr} (I : Inv X pins σ H s) (k : ∀ b o, b ≠ it → s.heap.get? b = some o → h'.get? b = some o) (hn : H it = none) (hL : it ≠ X.env.locals)
  (h1 : it ∈ X.ex ∨ X.s₀.heap.objs.size ≤ it) (h2 : ∀ x c, X.env.cells.lookup x = some c → c ≠ it) (h3 : ∀ p ∈ X.pn ++ pins, p.1 ≠ it) : Inv X pins σ H { s with heap := h', toks := t' } := by
 have nit : ∀ b u, H b = some u → b ≠ it := fun b u e z => by rw [z, hn] at e; cases e
 refine I.step (g' := s.gens) (d' := s.drawn) (ch := [it]) (fun b hb => ?_) (fun b o _ _ hc e _ => k b o (fun z => hc (by simp [z])) e) (fun b o _ _ hc e _ => ⟨o.slots, k b o (fun z => hc (by simp [z])) e⟩) (fun _ _ _ _ n => n)
  (fun b o hc e => ⟨o, k b o (fun z => hc (by simp [z])) e⟩) (fun _ _ e => e) (fun _ _ _ e => e) (fun b ps e => ⟨#[], by rw [e]; simp⟩) (fun m hm => ?_) (fun b u e => ?_) I.bare
 ·have e : b = it := by simpa using hb
  subst e
  exact ⟨h1, hL, h2, h3⟩
 ·obtain ⟨o, es, ep, ho, r⟩ := hm
  exact ⟨o, es, ep, k _ o (Ne.symm hL) ho, r⟩
 ·refine (I.hok b u e).stay (fun c v hc q => k c v ?_ q) (fun _ q => q) fun _ _ q => q
  rcases hc with z | z
  ·rw [z]; exact nit b u e
  ·exact nit c _ z
theorem Inv.tok (I : Inv X pins σ H s) (t : Nat) : Inv X pins σ H { s with toks := t } := I.un (h' := s.heap) (t' := t) Un.refl I.hok
theorem Inv.kept {t' : Nat} (I : Inv X pins σ H s) (k : ∀ b u, s.heap.get? b = some u → h'.get? b = some u) : Inv X pins σ H { s with heap := h', toks := t' } := I.un (Un.kept k) (I.hok.kept k)
theorem Inv.laid {a : Addr} {o : HO} {t' : Nat} (I : Inv X pins σ H s) (k : ∀ b u, s.heap.get? b = some u → h'.get? b = some u) (hp : s.heap.objs.size ≤ a) (new : ObjOk X.prog X.w (upd H a o) h' a o) :
  Inv X pins σ (upd H a o) { s with heap := h', toks := t' } := I.un (Un.laid k hp (I.hok.fresh hp)) (I.hok.laid k hp new)
theorem Inv.write {x e : Addr} {o : HO} {t' : Nat} (I : Inv X pins σ H s) (mu : Mut (H x)) (he : e = x ∨ H e = some (.own x)) (k : ∀ b u, b ≠ e → s.heap.get? b = some u → h'.get? b = some u) (heo : ∃ u, h'.get? e = some u)
  (new : ObjOk X.prog X.w (upd H x o) h' x o) : Inv X pins σ (upd H x o) { s with heap := h', toks := t' } := I.un (Un.write mu he k heo) (I.hok.write mu he k heo new)
theorem Inv.pins_of {pins' : List (Addr × Obj)} (I : Inv X pins σ H s) (h : ∀ p ∈ pins', s.heap.get? p.1 = some p.2 ∧ H p.1 = none ∧ p.1 ≠ X.env.locals ∧ p.1 ∉ X.fs ∧ ∀ v, p.2.data ≠ .cell v) : Inv X pins' σ H s :=
 ⟨I.ok, I.os, I.bare, I.base, I.loc, I.cell, I.free, I.freeC, fun p hp => (List.mem_append.mp hp).elim (fun z => I.pin p (List.mem_append_left _ z)) (h p), I.hok, I.len⟩
theorem nodup_ix {N : List Str} (hN : N.Nodup) {i j : Nat} {x : Str} (a : N[i]? = some x) (b : N[j]? = some x) : i = j := by
 obtain ⟨h1, e1⟩ := List.getElem?_eq_some_iff.mp a
 obtain ⟨h2, e2⟩ := List.getElem?_eq_some_iff.mp b
 exact (List.getElem_inj hN).mp (e1.trans e2.symm)
theorem store_ok2 {M : Model} {A : Around} {E : Value → Shared → Prop} {i : Nat} {x : Str} {v : V} {u : Value} {Q : Unit → Shared → Prop} (I : Inv X pins σ H s) (hN : X.N.Nodup) (hi : X.N[i]? = some x) (hx : Loc X.env.scope x) (r : RelV v u)
  (h : ∀ s', Inv X pins (σ.set i (some v)) H s' → (∃ a, Heap.SameBut a s.heap s'.heap ∧ (a = X.env.locals ∨ X.env.cells.lookup x = some a)) → Q () s') (hf : X.fn x = true ∨ X.env.scope.names.lookup x = some .local := by first | exact .inl rfl | exact .inr rfl | assumption) : wpAny M A (storeName X.env x u) Q E s := by
 obtain ⟨m, hn, hl⟩ := id I.loc
 have hcls : (X.env.scope.kind == .class || (X.env.scope.kind == .module && X.env.locals != X.env.globals)) = false := by rw [I.ok.kind]; rfl
 have hiσ : i < σ.length := by rw [I.len]; exact (List.getElem?_eq_some_iff.mp hi).1
 have cne := I.cne
 have tracked : ∀ {a : Addr} {h' : Heap}, (∃ o, s.heap.get? a = some o ∧ H a = none) → Heap.SameBut a s.heap h' → HOk X.prog X.w H h' := fun {a h'} ha hs b ob e => by
  obtain ⟨_, _, hfree⟩ := ha
  refine (I.hok b ob e).stay (fun c w' hc q => (hs.2 c ?_).trans q) (fun _ q => q) fun _ _ q => q
  rintro rfl
  rcases hc with rfl | hc
  ·rw [hfree] at e; cases e
  ·rw [hfree] at hc; cases hc
 rcases hx with hk | hk
 ·refine wpAny_storeName_local hk hn (fun h' hn' hs => ?_) hcls
  obtain ⟨oL, _, _, hoL, _⟩ := id hn
  refine h _ ⟨I.ok, I.os, I.bare, ⟨fun b o e n hb hx => ?_, fun b o e n hb hx => ?_, I.base.free, fun b o e hx => ?_, I.base.tups, I.base.frzs, I.base.tbls⟩, ⟨_, hn', fun j y v' e1 e2 e3 => ?_⟩, fun y c e => ?_, I.free, I.freeC, fun p hp => ?_, tracked ⟨oL, hoL, I.free⟩ hs, by simpa using I.len⟩ ⟨_, hs, .inl rfl⟩
  ·exact (hs.2 b (Nat.ne_of_lt (Nat.lt_of_lt_of_le (Heap.lt_size e) I.ok.above))).trans (I.base.keep b o e n hb hx)
  ·obtain ⟨sl, e1⟩ := I.base.slot b o e n hb hx
   exact ⟨sl, (hs.2 b (Nat.ne_of_lt (Nat.lt_of_lt_of_le (Heap.lt_size e) I.ok.above))).trans e1⟩
  ·obtain ⟨o', e1⟩ := I.base.there b o e hx
   exact ⟨o', (hs.2 b (Nat.ne_of_lt (Nat.lt_of_lt_of_le (Heap.lt_size e) I.ok.above))).trans e1⟩
  ·by_cases hj : j = i
   ·subst hj
    rw [hi] at e1; cases e1
    rw [List.getElem?_set_self hiσ] at e2
    cases e2
    exact ⟨u, r, .inl ⟨hk, by simp⟩⟩
   ·rw [List.getElem?_set_ne (Ne.symm hj)] at e2
    obtain ⟨u', r', q⟩ := hl j y v' e1 e2 e3
    refine ⟨u', r', ?_⟩
    rcases q with ⟨k, e⟩ | ⟨k, c, e, z⟩
    ·refine .inl ⟨k, ?_⟩
     have : y ≠ x := fun e => hj (nodup_ix hN e1 (e ▸ hi))
     simp [this, e]
    ·exact .inr ⟨k, c, e, z.sameBut hs (cne y c e)⟩
  ·obtain ⟨w', z⟩ := I.cell y c e
   exact ⟨w', z.sameBut hs (cne y c e)⟩
  ·obtain ⟨e, n, ne, nf, d⟩ := I.pin p hp
   exact ⟨(hs.2 p.1 ne).trans e, n, ne, nf, d⟩
 ·have hfn : X.fn x = true := by
   rcases hf with z | z
   ·exact z
   ·rw [z] at hk; cases hk
  obtain ⟨c, hc⟩ := I.ok.has x (.inl hk)
  obtain ⟨w', z⟩ := I.cell x c hc
  refine wpAny_storeName_cell I.ok.kind hk hc z (fun h' hc' hs => ?_)
  obtain ⟨oc, hoc, hocd⟩ := id z
  refine h { s with heap := h' } ⟨I.ok, I.os, I.bare, ⟨fun b o e n hb hx => ?_, fun b o e n hb hx => ?_, I.base.free, fun b o e hx => ?_, I.base.tups, I.base.frzs, I.base.tbls⟩, ⟨m, hn.sameBut hs (Ne.symm (cne x c hc)), fun j y v' e1 e2 e3 => ?_⟩, fun y c' e => ?_, I.free, I.freeC, fun p hp => ?_, tracked ⟨oc, hoc, I.freeC x c hc⟩ hs, by simpa using I.len⟩ ⟨c, hs, .inr hc⟩
  ·exact (hs.2 b (Nat.ne_of_lt (Nat.lt_of_lt_of_le (Heap.lt_size e) (I.ok.cab x c hfn hc)))).trans (I.base.keep b o e n hb hx)
  ·obtain ⟨sl, e1⟩ := I.base.slot b o e n hb hx
   exact ⟨sl, (hs.2 b (Nat.ne_of_lt (Nat.lt_of_lt_of_le (Heap.lt_size e) (I.ok.cab x c hfn hc)))).trans e1⟩
  ·obtain ⟨o', e1⟩ := I.base.there b o e hx
   exact ⟨o', (hs.2 b (Nat.ne_of_lt (Nat.lt_of_lt_of_le (Heap.lt_size e) (I.ok.cab x c hfn hc)))).trans e1⟩
  ·by_cases hj : j = i
   ·subst hj
    rw [hi] at e1; cases e1
    rw [List.getElem?_set_self hiσ] at e2
    cases e2
    exact ⟨u, r, .inr ⟨.inl hk, c, hc, hc'⟩⟩
   ·rw [List.getElem?_set_ne (Ne.symm hj)] at e2
    obtain ⟨u', r', q⟩ := hl j y v' e1 e2 e3
    refine ⟨u', r', ?_⟩
    rcases q with q | ⟨k, c', e, z'⟩
    ·exact .inl q
    ·refine .inr ⟨k, c', e, z'.sameBut hs ?_⟩
     rintro rfl
     exact hj (nodup_ix hN e1 (I.ok.inj _ _ _ e hc ▸ hi))
  ·by_cases hcc : c' = c
   ·subst hcc; exact ⟨_, hc'⟩
   ·obtain ⟨w2, z2⟩ := I.cell y c' e
    exact ⟨w2, z2.sameBut hs hcc⟩
  ·obtain ⟨e, n, ne, nf, d⟩ := I.pin p hp
   refine ⟨(hs.2 p.1 ?_).trans e, n, ne, nf, d⟩
   intro q
   rw [q, hoc] at e
   have q' : oc = p.2 := Option.some.inj e
   exact d w' (by rw [← q']; exact hocd)
theorem store_ok {M : Model} {A : Around} {E : Value → Shared → Prop} {i : Nat} {x : Str} {v : V} {u : Value} {Q : Unit → Shared → Prop} (I : Inv X pins σ H s) (hN : X.N.Nodup) (hi : X.N[i]? = some x) (hx : Loc X.env.scope x) (r : RelV v u)
  (h : ∀ s', Inv X pins (σ.set i (some v)) H s' → Q () s') (hf : X.fn x = true ∨ X.env.scope.names.lookup x = some .local := by first | exact .inl rfl | exact .inr rfl | assumption) : wpAny M A (storeName X.env x u) Q E s :=
 store_ok2 I hN hi hx r (fun s' I' _ => h s' I') hf
theorem Inv.call' {s' : Shared} {ch : List Addr} (I : Inv X pins σ H s) (ho : s'.os = s.os) (u : Un (frs X.stack) ch H H' s.heap s'.heap) (hok : HOk X.prog X.w H' s'.heap) (hg : AllBare s'.gens)
  (hch : ∀ b ∈ ch, (b ∈ X.ex ∨ X.s₀.heap.objs.size ≤ b) ∧ b ≠ X.env.locals ∧ (∀ x c, X.env.cells.lookup x = some c → c ≠ b) ∧ ∀ p ∈ X.pn ++ pins, p.1 ≠ b) : Inv X pins σ H' s' := by
 obtain ⟨h', g', d', t', o'⟩ := s'
 have e : o' = s.os := ho
 subst e
 exact I.call (g' := g') (t' := t') (d' := d') u hok hg hch
end
abbrev XK := Value → Option Addr → Hp → Prop
abbrev St := List (Option V)
abbrev VK := V → Hp → Prop
abbrev TE := St → Hp → VK → Prop
abbrev TT := St → Hp → (Bool → Hp → Prop) → Prop
abbrev TA := St → Hp → (List V → Hp → Prop) → Prop
structure Ends where
 nx : St → Hp → Prop
 rt : VK
 bk : St → Hp → Prop := fun _ _ => False
 ct : St → Hp → Prop := fun _ _ => False
abbrev TS := Ends → St → Hp → Prop
def EP (X : Cx) (pins : List (Addr × Obj)) (σ : St) (Q : VK) (u : Value) (s' : Shared) : Prop := ∃ v H', Inv X pins σ H' s' ∧ RelV v u ∧ Q v H'
def TP (X : Cx) (pins : List (Addr × Obj)) (σ : St) (Q : Bool → Hp → Prop) (b : Bool) (s' : Shared) : Prop := ∃ H', Inv X pins σ H' s' ∧ Q b H'
def AP (X : Cx) (pins : List (Addr × Obj)) (σ : St) (Q : List V → Hp → Prop) (us : List Value) (s' : Shared) : Prop := ∃ vs H', Inv X pins σ H' s' ∧ Vals vs us ∧ Q vs H'
def SP (X : Cx) (pins : List (Addr × Obj)) (D : Ends) (f : Flow) (s' : Shared) : Prop :=
 match f with
 | .next => ∃ σ' H', Inv X pins σ' H' s' ∧ D.nx σ' H'
 | .brk => ∃ σ' H', Inv X pins σ' H' s' ∧ D.bk σ' H'
 | .cont => ∃ σ' H', Inv X pins σ' H' s' ∧ D.ct σ' H'
 | .ret u => ∃ v σ' H', Inv X pins σ' H' s' ∧ RelV v u ∧ D.rt v H'
structure PE (X : Cx) (e : Expr) (t : TE) : Prop where
 run : ∀ (pins : List (Addr × Obj)) (s : Shared) (σ : St) (H : Hp) (Q : VK), Inv X pins σ H s → t σ H Q → wpAny (model X.prog X.w) X.A (eval e X.env) (EP X pins σ Q) X.xe s
instance {X : Cx} {e : Expr} {t : TE} : CoeFun (PE X e t) fun _ => ∀ (pins : List (Addr × Obj)) (s : Shared) (σ : St) (H : Hp) (Q : VK), Inv X pins σ H s → t σ H Q → wpAny (model X.prog X.w) X.A (eval e X.env) (EP X pins σ Q) X.xe s := ⟨PE.run⟩
structure PT (X : Cx) (e : Expr) (t : TT) : Prop where
 run : ∀ (pins : List (Addr × Obj)) (s : Shared) (σ : St) (H : Hp) (Q : Bool → Hp → Prop), Inv X pins σ H s → t σ H Q → wpAny (model X.prog X.w) X.A (isTrue e X.env (eval e X.env)) (TP X pins σ Q) X.xe s
instance {X : Cx} {e : Expr} {t : TT} : CoeFun (PT X e t) fun _ => ∀ (pins : List (Addr × Obj)) (s : Shared) (σ : St) (H : Hp) (Q : Bool → Hp → Prop), Inv X pins σ H s → t σ H Q → wpAny (model X.prog X.w) X.A (isTrue e X.env (eval e X.env)) (TP X pins σ Q) X.xe s := ⟨PT.run⟩
structure PW (X : Cx) (e : Expr) (t : TT) : Prop where
 run : ∀ (whole : Sem Value) (pins : List (Addr × Obj)) (s : Shared) (σ : St) (H : Hp) (Q : Bool → Hp → Prop), Inv X pins σ H s → t σ H Q → wpAny (model X.prog X.w) X.A (isTrue e X.env whole) (TP X pins σ Q) X.xe s
instance {X : Cx} {e : Expr} {t : TT} : CoeFun (PW X e t) fun _ => ∀ (whole : Sem Value) (pins : List (Addr × Obj)) (s : Shared) (σ : St) (H : Hp) (Q : Bool → Hp → Prop), Inv X pins σ H s → t σ H Q → wpAny (model X.prog X.w) X.A (isTrue e X.env whole) (TP X pins σ Q) X.xe s := ⟨PW.run⟩
theorem PW.pt {X : Cx} {e : Expr} {t : TT} (h : PW X e t) : PT X e t := ⟨h.run _⟩
structure PA (X : Cx) (es : List Expr) (t : TA) : Prop where
 run : ∀ (pos : Pos) (pins : List (Addr × Obj)) (s : Shared) (σ : St) (H : Hp) (Q : List V → Hp → Prop), Inv X pins σ H s → t σ H Q → wpAny (model X.prog X.w) X.A (spliced (backTo pos (starEach es X.env))) (AP X pins σ Q) X.xe s
instance {X : Cx} {es : List Expr} {t : TA} : CoeFun (PA X es t) fun _ => ∀ (pos : Pos) (pins : List (Addr × Obj)) (s : Shared) (σ : St) (H : Hp) (Q : List V → Hp → Prop), Inv X pins σ H s → t σ H Q → wpAny (model X.prog X.w) X.A (spliced (backTo pos (starEach es X.env))) (AP X pins σ Q) X.xe s := ⟨PA.run⟩
structure PS (X : Cx) (st : Stmt) (t : TS) : Prop where
 run : ∀ (pins : List (Addr × Obj)) (s : Shared) (σ : St) (H : Hp) (D : Ends), Inv X pins σ H s → t D σ H → wpAny (model X.prog X.w) X.A (exec st X.env) (SP X pins D) X.xe s
instance {X : Cx} {st : Stmt} {t : TS} : CoeFun (PS X st t) fun _ => ∀ (pins : List (Addr × Obj)) (s : Shared) (σ : St) (H : Hp) (D : Ends), Inv X pins σ H s → t D σ H → wpAny (model X.prog X.w) X.A (exec st X.env) (SP X pins D) X.xe s := ⟨PS.run⟩
structure PSs (X : Cx) (st : List Stmt) (t : TS) : Prop where
 run : ∀ (pins : List (Addr × Obj)) (s : Shared) (σ : St) (H : Hp) (D : Ends), Inv X pins σ H s → t D σ H → wpAny (model X.prog X.w) X.A (execs st X.env) (SP X pins D) X.xe s
instance {X : Cx} {st : List Stmt} {t : TS} : CoeFun (PSs X st t) fun _ => ∀ (pins : List (Addr × Obj)) (s : Shared) (σ : St) (H : Hp) (D : Ends), Inv X pins σ H s → t D σ H → wpAny (model X.prog X.w) X.A (execs st X.env) (SP X pins D) X.xe s := ⟨PSs.run⟩
theorem thn {α : Type} {t : Sem α} {Q Q' : α → Shared → Prop} {M : Model} {A : Around} {E : Value → Shared → Prop} {s : Shared} (h : wpAny M A t Q E s) (hQ : ∀ a s, Q a s → Q' a s) : wpAny M A t Q' E s := wpAny_mono h hQ fun _ _ x => x
end L2
namespace L2
open PySem PySem.Spec PyProof.Rows
section
variable {X : Cx}
def tVar (i : Nat) : TE := fun σ H Q => ∃ v, σ[i]? = some (some v) ∧ Q v H
def tC (v : V) : TE := fun _ H Q => Q v H
theorem pe_var {i : Nat} {x : Str} {pos : Pos} (hN : X.N[i]? = some x) (hv : Vis X.env.scope x) (hd : (x == ("__debug__" : Str)) = false := by decide) (hcd : (x == ("__classdict__" : Str)) = false := by decide) : PE X (.Name x pos) (tVar i) := by
 refine .mk ?_
 intro pins s σ H Q I h
 obtain ⟨v, e, h⟩ := h
 obtain ⟨m, hn, hl⟩ := I.loc
 obtain ⟨u, r, l⟩ := hl i x v hN e hv
 have fin : EP X pins σ Q u s := ⟨v, H, I, r, h⟩
 rcases l with ⟨hk, hm⟩ | ⟨hk, c, hc, hcell⟩
 ·exact wpAny_Name (wpAny_loadName_local I.ok.kind hk hn hm fin) hd
 ·rcases hk with hk | hk
  ·exact wpAny_Name (wpAny_loadName_cell I.ok.kind hk hc hcell fin) hd
  ·exact wpAny_Name (wpAny_loadName_free I.ok.kind hk hc hcell fin hcd) hd
theorem pe_int {i j pos} : PE X (.Constant (.int i) j pos) (tC (.int i)) := .mk fun _ _ _ H _ I h => wpAny_Constant_int ⟨.int i, H, I.tok _, ⟨_, rfl⟩, h⟩
theorem pe_bl {b j pos} : PE X (.Constant (.bool b) j pos) (tC (.bl b)) := .mk fun _ _ _ H _ I h => Constant_bool ⟨.bl b, H, I, rfl, h⟩
theorem pe_non {j pos} : PE X (.Constant .none j pos) (tC .non) := .mk fun _ _ _ H _ I h => Constant_none ⟨.non, H, I, rfl, h⟩
theorem pe_str {x j pos} : PE X (.Constant (.str x) j pos) (tC (.str x)) := .mk fun _ _ _ H _ I h => Calls.Constant_str ⟨.str x, H, I.tok _, ⟨_, rfl⟩, h⟩
def Gl (X : Cx) (x : Str) : Prop := X.env.kindOf x = some .globalImplicit
theorem ld_glob {E : Value → Shared → Prop} {pins : List (Addr × Obj)} {s : Shared} {σ : St} {H : Hp} {x : Str} {u : Value} {pos : Pos} {Q : Value → Shared → Prop} (I : Inv X pins σ H s) (hg : Gl X x) (hm : X.mg x = some u) (h : Q u s)
  (hd : (x == ("__debug__" : Str)) = false := by decide) : wpAny (model X.prog X.w) X.A (eval (.Name x pos) X.env) Q E s :=
 Calls.Name_function_global I.ok.kind hg (Calls.loadGlobal_global (by rw [I.ok.glob]; exact I.mod.glob.keeps I.bk) hm h) hd
theorem ld_blt {E : Value → Shared → Prop} {pins : List (Addr × Obj)} {s : Shared} {σ : St} {H : Hp} {x : Str} {u : Value} {pos : Pos} {Q : Value → Shared → Prop} (I : Inv X pins σ H s) (hg : Gl X x) (hm : X.mg x = none) (hv : bootBuiltins x = some u) (h : Q u s)
  (hn : x ≠ "__name__" := by decide) (hd : (x == ("__debug__" : Str)) = false := by decide) : wpAny (model X.prog X.w) X.A (eval (.Name x pos) X.env) Q E s := by
 obtain ⟨mb, h1, h2⟩ := I.mod.blt
 exact Calls.Name_function_global I.ok.kind hg (Calls.loadGlobal_builtin (by rw [I.ok.glob]; exact I.mod.glob.keeps I.bk) hm (by rw [I.ok.blt]; exact h1.keeps I.bk) ((h2 x hn).trans hv) h) hd
theorem pe_glob {x : Str} {v : V} {u : Value} {pos : Pos} (hg : Gl X x) (hm : X.mg x = some u) (r : RelV v u) (hd : (x == ("__debug__" : Str)) = false := by decide) : PE X (.Name x pos) (tC v) :=
 .mk fun _ _ _ H _ I h => ld_glob I hg hm ⟨v, H, I, r, h⟩ hd
theorem pe_bltn {x : Str} {v : V} {u : Value} {pos : Pos} (hg : Gl X x) (hm : X.mg x = none) (hv : bootBuiltins x = some u) (r : RelV v u) (hn : x ≠ "__name__" := by decide) (hd : (x == ("__debug__" : Str)) = false := by decide) : PE X (.Name x pos) (tC v) :=
 .mk fun _ _ _ H _ I h => ld_blt I hg hm hv ⟨v, H, I, r, h⟩ hn hd
variable {a b : Expr} {ta tb : TE} {pos : Pos}
structure PC (X : Cx) (op : CmpOp) (a b : Expr) (t : TE) : Prop where
 run : ∀ (pins : List (Addr × Obj)) (s : Shared) (σ : St) (H : Hp) (Q : VK), Inv X pins σ H s → t σ H Q →
  wpAny (model X.prog X.w) X.A (eval a X.env) (fun v s₁ => wpAny (model X.prog X.w) X.A (eval b X.env) (fun u s₂ => wpAny (model X.prog X.w) X.A (compareOp op v u) (EP X pins σ Q) X.xe s₂) X.xe s₁) X.xe s
instance {X : Cx} {op : CmpOp} {a b : Expr} {t : TE} : CoeFun (PC X op a b t) fun _ => ∀ (pins : List (Addr × Obj)) (s : Shared) (σ : St) (H : Hp) (Q : VK), Inv X pins σ H s → t σ H Q → wpAny (model X.prog X.w) X.A (eval a X.env) (fun v s₁ => wpAny (model X.prog X.w) X.A (eval b X.env) (fun u s₂ => wpAny (model X.prog X.w) X.A (compareOp op v u) (EP X pins σ Q) X.xe s₂) X.xe s₁) X.xe s := ⟨PC.run⟩
def tB (t : TE) : TT := fun σ H Q => t σ H fun x H1 => ∃ c, x = .bl c ∧ Q c H1
theorem pt_val {e : Expr} {t : TE} (h : PE X e t) (he : ∀ whole, isTrue e X.env whole = (do let v ← whole; standAt e.pos; holding [v] (truthy v)) := by intro _; rfl) : PT X e (tB t) := by
 refine .mk ?_
 intro pins s σ H Q I hw
 refine isTrue_plain (thn (h pins s σ H _ I hw) fun v s1 ⟨x, H1, I1, r1, q1⟩ => ?_) (he _)
 obtain ⟨d, rfl, q⟩ := q1
 cases r1
 exact wpAny_truthy_bool ⟨H1, I1, q⟩
variable {tA tB' : TT} {rest : List Expr}
def tAnd (t u : TT) : TT := fun σ H Q => t σ H fun c H1 => if c = true then u σ H1 Q else Q false H1
def tOr (t u : TT) : TT := fun σ H Q => t σ H fun c H1 => if c = true then Q true H1 else u σ H1 Q
def tNot (t : TT) : TT := fun σ H Q => t σ H fun c H1 => Q (!c) H1
theorem pw_and1 (ha : PT X a tA) : PW X (.BoolOp .And [a] pos) tA := by
 refine .mk ?_
 intro wh pins s σ H Q I h
 refine isTrue_and (thn (ha pins s σ H Q I h) fun c s1 e => ?_)
 cases c with
 | true => exact isTrue_and_nil e
 | false => exact e
theorem pw_or1 (ha : PT X a tA) : PW X (.BoolOp .Or [a] pos) tA := by
 refine .mk ?_
 intro wh pins s σ H Q I h
 refine isTrue_or (thn (ha pins s σ H Q I h) fun c s1 e => ?_)
 cases c with
 | false => exact isTrue_or_nil e
 | true => exact e
theorem pw_and (ha : PT X a tA) (hb : PW X (.BoolOp .And (b :: rest) pos) tB') : PW X (.BoolOp .And (a :: b :: rest) pos) (tAnd tA tB') := by
 refine .mk ?_
 intro wh pins s σ H Q I h
 refine isTrue_and (thn (ha pins s σ H _ I h) fun c s1 ⟨H1, I1, q1⟩ => ?_)
 cases c with
 | true => exact hb wh pins s1 σ H1 Q I1 q1
 | false => exact ⟨H1, I1, q1⟩
theorem pw_or (ha : PT X a tA) (hb : PW X (.BoolOp .Or (b :: rest) pos) tB') : PW X (.BoolOp .Or (a :: b :: rest) pos) (tOr tA tB') := by
 refine .mk ?_
 intro wh pins s σ H Q I h
 refine isTrue_or (thn (ha pins s σ H _ I h) fun c s1 ⟨H1, I1, q1⟩ => ?_)
 cases c with
 | true => exact ⟨H1, I1, q1⟩
 | false => exact hb wh pins s1 σ H1 Q I1 q1
theorem pt_not (ha : PT X a tA) : PT X (.UnaryOp .Not a pos) (tNot tA) := by
 refine .mk ?_
 intro pins s σ H Q I h
 exact isTrue_not (ha pins s σ H (fun c H1 => Q (!c) H1) I h)
def tAndV (ta tb : TE) : TE := fun σ H Q => ta σ H fun x H1 => ∃ c, x = .bl c ∧ if c = true then tb σ H1 Q else Q (.bl false) H1
def tNotV (ta : TE) : TE := fun σ H Q => ta σ H fun x H1 => ∃ c, x = .bl c ∧ Q (.bl (!c)) H1
theorem pe_one {op} {t : TE} (h : PE X a t) : PE X (.BoolOp op [a] pos) t := .mk fun pins s σ H Q I hw => BoolOp_one (h pins s σ H Q I hw)
theorem pe_and (ha : PE X a ta) (hb : PE X (.BoolOp .And (b :: rest) pos) tb) : PE X (.BoolOp .And (a :: b :: rest) pos) (tAndV ta tb) := by
 refine .mk ?_
 intro pins s σ H Q I h
 refine BoolOp_and (thn (ha pins s σ H _ I h) fun v s1 ⟨x, H1, I1, r1, q1⟩ => ?_)
 obtain ⟨c, rfl, q1⟩ := q1
 cases r1
 refine wpAny_truthy_bool ?_
 cases c with
 | true => exact hb pins s1 σ H1 Q I1 q1
 | false => exact ⟨.bl false, H1, I1, rfl, q1⟩
theorem pe_not (ha : PE X a ta) : PE X (.UnaryOp .Not a pos) (tNotV ta) := by
 refine .mk ?_
 intro pins s σ H Q I h
 refine UnaryOp_ (thn (ha pins s σ H _ I h) fun v s1 ⟨x, H1, I1, r1, q1⟩ => ?_)
 obtain ⟨c, rfl, q1⟩ := q1
 cases r1
 exact not_of (wpAny_truthy_bool ⟨.bl (!c), H1, I1, rfl, q1⟩)
end
end L2
namespace L2
open PySem PySem.Spec PyProof.Rows
def SqL (K : PySem.W.Frag) (H : Hp) (a : Addr) (xs : List V) : Prop :=
 Rd H a (.lst xs) ∨
  ∃ (o : Obj) (its : Array Value) (n : Nat), K.lookup a = some o ∧ o.cls = .type "list" ∧ o.dict = none ∧ o.data = .seq its n ∧ its.size ≤ sizeLine ∧ Vals xs its.toList
def SqT (K : PySem.W.Frag) (H : Hp) (a : Addr) (xs : List V) : Prop :=
 Rd H a (.tup xs) ∨
  ∃ (o : Obj) (its : Array Value) (n : Nat), K.lookup a = some o ∧ o.cls = .type "tuple" ∧ o.data = .seq its n ∧ its.size ≤ sizeLine ∧ Vals xs its.toList
def absV : Value → Option V
 | .none => some .non
 | .bool b => some (.bl b)
 | .int i _ => some (.int i)
 | .str x _ => some (.str x)
 | .bytes b _ => some (.byt b)
 | .float b _ => some (.flt b)
 | .ref a => some (.ref a)
 | .type n => some (.ty n)
 | _ => none
theorem RelV.abs {x : V} {u : Value} (r : RelV x u) : absV u = some x := by
 cases x with
 | non => cases r; rfl
 | bl _ => cases r; rfl
 | int _ => obtain ⟨t, rfl⟩ := r; rfl
 | str _ => obtain ⟨t, rfl⟩ := r; rfl
 | byt _ => obtain ⟨t, rfl⟩ := r; rfl
 | flt _ => obtain ⟨t, rfl⟩ := r; rfl
 | ref _ => cases r; rfl
 | ty _ => cases r; rfl
theorem RelV.inj {x y : V} {u : Value} (r : RelV x u) (q : RelV y u) : x = y := Option.some.inj (r.abs.symm.trans q.abs)
theorem Vals.inj : ∀ {xs ys : List V} {us : List Value}, Vals xs us → Vals ys us → xs = ys
 | _, _, _, .nil, .nil => rfl
 | _, _, _, .cons r t, .cons r' t' => by rw [r.inj r', Vals.inj t t']
section
variable {X : Cx} {pins : List (Addr × Obj)} {σ : St} {H : Hp} {s : Shared} {a : Addr} {xs ys : List V}
theorem SqL.of {K : PySem.W.Frag} (h : H a = some (.lst xs)) : SqL K H a xs := .inl (.inl h)
theorem SqT.of {K : PySem.W.Frag} (h : H a = some (.tup xs)) : SqT K H a xs := .inl (.inl h)
theorem Inv.list (I : Inv X pins σ H s) (h : SqL X.K H a xs) : ∃ its : List Value, Vals xs its ∧ PlainL s.heap a its.toArray ∧ xs.length ≤ sizeLine := by
 rcases h with h | ⟨o, its, n, hk, hc, hd, hs, hz, r⟩
 ·obtain ⟨z, its, n, r, e⟩ := h.ok I.hok
  exact ⟨its, r, ⟨_, n, e, rfl, rfl, rfl⟩, z⟩
 ·refine ⟨its.toList, r, ⟨o, n, I.kIn a o hk, hc, hd, by simpa using hs⟩, ?_⟩
  have e := r.length
  simp only [Array.length_toList] at e
  omega
theorem Inv.tuple (I : Inv X pins σ H s) (h : SqT X.K H a xs) : ∃ its : List Value, Vals xs its ∧ IsTup s.heap a its.toArray ∧ xs.length ≤ sizeLine := by
 rcases h with h | ⟨o, its, n, hk, hc, hs, hz, r⟩
 ·obtain ⟨z, its, r, p⟩ := h.ok I.hok
  exact ⟨its, r, p, z⟩
 ·refine ⟨its.toList, r, ⟨o, I.kIn a o hk, hc, n, by simpa using hs⟩, ?_⟩
  have e := r.length
  simp only [Array.length_toList] at e
  omega
theorem Inv.list_inj (I : Inv X pins σ H s) (h : SqL X.K H a xs) (h' : SqL X.K H a ys) : xs = ys := by
 obtain ⟨its, r, ⟨o, n, e, _, _, d⟩, _⟩ := I.list h
 obtain ⟨its', r', ⟨o', n', e', _, _, d'⟩, _⟩ := I.list h'
 rw [e] at e'; cases e'
 rw [d] at d'
 injection d' with d1 _
 have : its = its' := by simpa using congrArg Array.toList d1
 subst this
 exact r.inj r'
theorem Inv.tuple_inj (I : Inv X pins σ H s) (h : SqT X.K H a xs) (h' : SqT X.K H a ys) : xs = ys := by
 obtain ⟨its, r, ⟨o, e, _, n, d⟩, _⟩ := I.tuple h
 obtain ⟨its', r', ⟨o', e', _, n', d'⟩, _⟩ := I.tuple h'
 rw [e] at e'; cases e'
 rw [d] at d'
 injection d' with d1 _
 have : its = its' := by simpa using congrArg Array.toList d1
 subst this
 exact r.inj r'
end
abbrev Cx.wish (X : Cx) (E : Value → Shared → Prop) : Cx := { X with xe := E }
abbrev Cx.nox (X : Cx) : Cx := X.wish fun _ _ => False
theorem Cx.Ok.wish {X : Cx} (ok : X.Ok) (E : Value → Shared → Prop) : (X.wish E).Ok :=
 ⟨ok.mod, ok.kind, ok.glob, ok.blt, ok.above, ok.inj, ok.has, ok.cab, ok.hd, ok.frames, ok.stk, ok.exf, ok.bs, ok.bsz, ok.noex, ok.exfs, ok.funs, ok.frf⟩
theorem Cx.Ok.unwish {X : Cx} {E : Value → Shared → Prop} (ok : (X.wish E).Ok) : X.Ok :=
 ⟨ok.mod, ok.kind, ok.glob, ok.blt, ok.above, ok.inj, ok.has, ok.cab, ok.hd, ok.frames, ok.stk, ok.exf, ok.bs, ok.bsz, ok.noex, ok.exfs, ok.funs, ok.frf⟩
section
variable {X : Cx} {pins : List (Addr × Obj)} {σ : St} {H : Hp} {s : Shared} {E : Value → Shared → Prop}
theorem Inv.wish (I : Inv X pins σ H s) (E : Value → Shared → Prop) : Inv (X.wish E) pins σ H s := ⟨I.ok.wish E, I.os, I.bare, I.base, I.loc, I.cell, I.free, I.freeC, I.pin, I.hok, I.len⟩
theorem Inv.unwish (I : Inv (X.wish E) pins σ H s) : Inv X pins σ H s := ⟨I.ok.unwish, I.os, I.bare, I.base, I.loc, I.cell, I.free, I.freeC, I.pin, I.hok, I.len⟩
theorem SP.unwish {D : Ends} {f : Flow} {s' : Shared} (h : SP (X.wish E) pins D f s') : SP X pins D f s' := by
 cases f with
 | next => obtain ⟨σ', H', I, q⟩ := h; exact ⟨σ', H', I.unwish, q⟩
 | brk => obtain ⟨σ', H', I, q⟩ := h; exact ⟨σ', H', I.unwish, q⟩
 | cont => obtain ⟨σ', H', I, q⟩ := h; exact ⟨σ', H', I.unwish, q⟩
 | ret u => obtain ⟨v, σ', H', I, r, q⟩ := h; exact ⟨v, σ', H', I.unwish, r, q⟩
theorem PE.nox {e : Expr} {t : TE} (h : PE X.nox e t) : PE X e t := .mk fun pins s σ H Q I hw =>
 wpAny_mono (h pins s σ H Q (I.wish _) hw) (fun _ _ ⟨v, H', I', r, q⟩ => ⟨v, H', I'.unwish, r, q⟩) fun _ _ z => False.elim z
theorem PT.nox {e : Expr} {t : TT} (h : PT X.nox e t) : PT X e t := .mk fun pins s σ H Q I hw =>
 wpAny_mono (h pins s σ H Q (I.wish _) hw) (fun _ _ ⟨H', I', q⟩ => ⟨H', I'.unwish, q⟩) fun _ _ z => False.elim z
theorem PSs.nox {st : List Stmt} {t : TS} (h : PSs X.nox st t) : PSs X st t := .mk fun pins s σ H D I hw =>
 wpAny_mono (h pins s σ H D (I.wish _) hw) (fun _ _ q => q.unwish) fun _ _ z => False.elim z
end
section
variable {X : Cx} {st : Stmt} {rest : List Stmt} {t u : TS} {e : Expr} {te : TE} {pos : Pos}
def tNext : TS := fun D σ H => D.nx σ H
def tSeq (t u : TS) : TS := fun D σ H => t { D with nx := u D } σ H
theorem pss_nil : PSs X [] tNext := .mk fun _ _ σ H _ I h => wpAny_execs_nil ⟨σ, H, I, h⟩
theorem pss_cons (h1 : PS X st t) (h2 : PSs X rest u) : PSs X (st :: rest) (tSeq t u) := by
 refine .mk ?_
 intro pins s σ H D I h
 refine wpAny_execs_cons (thn (h1 pins s σ H { D with nx := u D } I h) fun f s1 q => ?_)
 cases f with
 | next =>
  obtain ⟨σ', H', I', q⟩ := q
  exact h2 pins s1 σ' H' D I' q
 | ret v => exact q
 | brk => exact q
 | cont => exact q
theorem Inv.quiet {pins : List (Addr × Obj)} {σ : St} {H : Hp} {s : Shared} (I : Inv X pins σ H s) : interactive X.env = false := by simp [interactive, I.ok.kind]
def tDrop (te : TE) : TS := fun D σ H => te σ H fun _ H1 => D.nx σ H1
theorem ps_expr (he : PE X e te) (hs : swapsWith e none pos.line X.env = pure false := by rfl) : PS X (.Expr e pos) (tDrop te) := by
 refine .mk ?_
 intro pins s σ H D I h
 exact wpAny_Expr_any (thn (he pins s σ H _ I h) fun v s1 ⟨x, H1, I1, r1, q1⟩ => ⟨σ, H1, I1, q1⟩) I.quiet hs
def tRet (te : TE) : TS := fun D σ H => te σ H D.rt
theorem ps_ret (he : PE X e te) : PS X (.Return (some e) pos) (tRet te) := by
 refine .mk ?_
 intro pins s σ H D I h
 exact wpAny_Return_some (thn (he pins s σ H _ I h) fun v s1 ⟨x, H1, I1, r1, q1⟩ => ⟨x, σ, H1, I1, r1, q1⟩)
def tIfS (c : TT) (t u : TS) : TS := fun D σ H => c σ H fun b H1 => if b = true then t D σ H1 else u D σ H1
theorem ps_if {c : Expr} {a b : List Stmt} {tc : TT} (hc : PT X c tc) (ha : PSs X a t) (hb : PSs X b u) : PS X (.If c a b pos) (tIfS tc t u) := by
 refine .mk ?_
 intro pins s σ H D I h
 refine wpAny_If (thn (hc pins s σ H _ I h) fun d s1 ⟨H1, I1, q1⟩ => ?_)
 cases d with
 | true => exact ha pins s1 σ H1 D I1 q1
 | false => exact hb pins s1 σ H1 D I1 q1
end
abbrev TG := V → St → Hp → (St → Hp → Prop) → Prop
abbrev TGs := List V → St → Hp → (St → Hp → Prop) → Prop
structure PG (X : Cx) (target : Expr) (t : TG) : Prop where
 run : ∀ (pins : List (Addr × Obj)) (s : Shared) (σ : St) (H : Hp) (v : V) (u : Value) (Q : St → Hp → Prop), Inv X pins σ H s → RelV v u → t v σ H Q →
  wpAny (model X.prog X.w) X.A (assign target X.env u) (fun _ s' => ∃ σ' H', Inv X pins σ' H' s' ∧ Q σ' H') X.xe s
instance {X : Cx} {target : Expr} {t : TG} : CoeFun (PG X target t) fun _ => ∀ (pins : List (Addr × Obj)) (s : Shared) (σ : St) (H : Hp) (v : V) (u : Value) (Q : St → Hp → Prop), Inv X pins σ H s → RelV v u → t v σ H Q → wpAny (model X.prog X.w) X.A (assign target X.env u) (fun _ s' => ∃ σ' H', Inv X pins σ' H' s' ∧ Q σ' H') X.xe s := ⟨PG.run⟩
structure PGs (X : Cx) (ts : List Expr) (t : TGs) : Prop where
 run : ∀ (pins : List (Addr × Obj)) (s : Shared) (σ : St) (H : Hp) (vs : List V) (us : List Value) (Q : St → Hp → Prop), Inv X pins σ H s → Vals vs us → t vs σ H Q →
  wpAny (model X.prog X.w) X.A (assignInOrder ((assignEach ts X.env).map (·.2)) us) (fun _ s' => ∃ σ' H', Inv X pins σ' H' s' ∧ Q σ' H') X.xe s
instance {X : Cx} {ts : List Expr} {t : TGs} : CoeFun (PGs X ts t) fun _ => ∀ (pins : List (Addr × Obj)) (s : Shared) (σ : St) (H : Hp) (vs : List V) (us : List Value) (Q : St → Hp → Prop), Inv X pins σ H s → Vals vs us → t vs σ H Q → wpAny (model X.prog X.w) X.A (assignInOrder ((assignEach ts X.env).map (·.2)) us) (fun _ s' => ∃ σ' H', Inv X pins σ' H' s' ∧ Q σ' H') X.xe s := ⟨PGs.run⟩
abbrev TSet := V → V → V → Hp → (Hp → Prop) → Prop
def PSet (X : Cx) (t : TSet) : Prop :=
 ∀ (pins : List (Addr × Obj)) (s : Shared) (σ : St) (H : Hp) (o i v : V) (ov iv u : Value) (Q : Hp → Prop), Inv X pins σ H s → RelV o ov → RelV i iv → RelV v u → t o i v H Q →
  wpAny (model X.prog X.w) X.A (setItem ov iv u) (fun _ s' => ∃ H', Inv X pins σ H' s' ∧ Q H') X.xe s
section
variable {X : Cx} {pos : Pos}
def gName (i : Nat) : TG := fun v σ H Q => Q (σ.set i (some v)) H
theorem pg_name {i : Nat} {x : Str} (hN : X.N.Nodup) (hi : X.N[i]? = some x) (hx : Loc X.env.scope x) (hf : X.fn x = true ∨ X.env.scope.names.lookup x = some .local := by first | exact .inl rfl | exact .inr rfl | assumption) : PG X (.Name x pos) (gName i) := by
 refine .mk ?_
 intro pins s σ H v u Q I r h
 exact wpAny_assign_Name (store_ok I hN hi hx r (fun s' I' => ⟨_, H, I', h⟩) hf)
def gNil : TGs := fun vs σ H Q => vs = [] ∧ Q σ H
def gCons (t : TG) (u : TGs) : TGs := fun vs σ H Q => ∃ v r, vs = v :: r ∧ t v σ H fun σ' H' => u r σ' H' Q
theorem pgs_nil : PGs X [] gNil := by
 refine .mk ?_
 intro pins s σ H vs us Q I r h
 obtain ⟨e, h⟩ := h
 subst e
 cases r
 exact assignInOrder_nil ⟨σ, H, I, h⟩
theorem pgs_cons {e : Expr} {es : List Expr} {t : TG} {u : TGs} (h1 : PG X e t) (h2 : PGs X es u)
  (hs : (assignEach (e :: es) X.env).map (·.2) = assign e X.env :: (assignEach es X.env).map (·.2) := by rfl) : PGs X (e :: es) (gCons t u) := by
 refine .mk ?_
 intro pins s σ H vs us Q I r h
 obtain ⟨v, vr, e1, h⟩ := h
 subst e1
 cases r with
 | cons r rr =>
  rw [hs]
  refine assignInOrder_cons (thn (h1 pins s σ H _ _ _ I r h) fun _ s1 ⟨σ1, H1, I1, q1⟩ => ?_)
  exact h2 pins s1 σ1 H1 _ _ Q I1 rr q1
def gTup (K : PySem.W.Frag) (n : Nat) (t : TGs) : TG := fun v σ H Q => ∃ a xs, v = .ref a ∧ SqT K H a xs ∧ xs.length = n ∧ t xs σ H Q
theorem pg_tup {es : List Expr} {k : Nat} {t : TGs} {n : Nat} (hc : X.calm = true) (h : PGs X es t)
  (hn : (assignEach es X.env).length = n := by rfl) (hst : (assignEach es X.env).findIdx? (·.1) = none := by rfl) : PG X (.Tuple es k pos) (gTup X.K n t) := by
 refine .mk ?_
 intro pins s σ H v u Q I r hw
 obtain ⟨a, xs, e1, hq, hl, hw⟩ := hw
 subst e1
 cases r
 obtain ⟨its, rv, ht, hz⟩ := I.tuple hq
 refine assign_Tuple_tuple (I.ok.hd hc) ht (by simp [hn, ← hl, rv.length]) hst fun h' hx => ?_
 have I1 : Inv X pins σ H { s with heap := h' } := I.kept (t' := s.toks) fun b o e => hx b o (Nat.ne_of_lt (Heap.lt_size e)) e
 exact h pins _ σ H xs _ Q I1 (by simpa using rv) hw
def gSub (to ti : TE) (t : TSet) : TG := fun v σ H Q => to σ H fun o H1 => ti σ H1 fun i H2 => t o i v H2 fun H3 => Q σ H3
theorem pg_sub {o i : Expr} {to ti : TE} {t : TSet} (ho : PE X o to) (hi : PE X i ti) (hs : PSet X t)
  (ha : ∀ v, assign (.Subscript o i pos) X.env v = (do
   let ov ← holding [v] (eval o X.env)
   let iv ← holding [v, ov] (eval i X.env)
   standAt pos
   holding [v, ov, iv] (setItem ov iv v)
   release [v, ov, iv] []) := by intro _; rfl) : PG X (.Subscript o i pos) (gSub to ti t) := by
 refine .mk ?_
 intro pins s σ H v u Q I r h
 rw [ha]
 refine wpAny_bind (wpAny_holding (thn (ho pins s σ H _ I h) fun ov s1 ⟨x, H1, I1, r1, q1⟩ => ?_))
 refine wpAny_bind (wpAny_holding (thn (hi pins s1 σ H1 _ I1 q1) fun iv s2 ⟨y, H2, I2, r2, q2⟩ => ?_))
 refine wpAny_bind (wpAny_standAt (wpAny_bind (wpAny_holding (thn (hs pins s2 σ H2 x y v ov iv u _ I2 r1 r2 r q2) fun _ s3 ⟨H3, I3, q3⟩ => ?_))))
 exact wpAny_release ⟨σ, H3, I3, q3⟩
def tAsg (te : TE) (g : TG) : TS := fun D σ H => te σ H fun x H1 => g x σ H1 D.nx
theorem ps_asg {tg e : Expr} {te : TE} {g : TG} (he : PE X e te) (hg : PG X tg g) (hs : swapsWithSole [tg] e pos.line X.env = pure false := by rfl) (hw : swappedStores [tg] e X.env = pure none := by rfl)
  (h1 : (assignEach [tg] X.env).map (·.2) = [assign tg X.env] := by rfl) : PS X (.Assign [tg] e pos) (tAsg te g) := by
 refine .mk ?_
 intro pins s σ H D I h
 refine wpAny_Assign_stores (thn (he pins s σ H _ I h) fun v s1 ⟨x, H1, I1, r1, q1⟩ => ?_) hs hw
 rw [h1]
 exact thn (hg pins s1 σ H1 x v _ I1 r1 q1) fun _ s2 q => q
theorem ps_set {i : Nat} {x : Str} {e : Expr} {te : TE} {pos' : Pos} (hN : X.N.Nodup) (hi : X.N[i]? = some x) (hx : Loc X.env.scope x) (he : PE X e te) (hs : swapsWith e (some (.Name x pos')) pos.line X.env = pure false := by rfl) (hf : X.fn x = true ∨ X.env.scope.names.lookup x = some .local := by first | exact .inl rfl | exact .inr rfl | assumption) :
  PS X (.Assign [.Name x pos'] e pos) (tAsg te (gName i)) := by
 refine .mk ?_
 intro pins s σ H D I h
 refine wpAny_Assign_Name (thn (he pins s σ H _ I h) fun v s1 ⟨y, H1, I1, r1, q1⟩ => ?_) hs
 exact store_ok I1 hN hi hx r1 (fun s2 I2 => ⟨_, H1, I2, q1⟩) hf
end
section
variable {X : Cx} {pos : Pos}
def tWhile (c : TT) (tb : TS) : TS := fun D σ H => ∃ W : Nat → St → Hp → Prop, (∃ m, W m σ H) ∧ ∀ m σ H, W m σ H →
 c σ H fun b H1 => if b = true then ∃ N : St → Hp → Prop, (∀ σ' H', N σ' H' → ∃ m', m' < m ∧ W m' σ' H') ∧ tb { D with nx := N, ct := N, bk := D.nx } σ H1 else D.nx σ H1
theorem ps_while {c : Expr} {body : List Stmt} {tc : TT} {tb : TS} (hp : PassesOwn (model X.prog X.w) X.A X.env X.xe) (hc : PT X c tc) (hb : PSs X body tb) : PS X (.While c body [] pos) (tWhile tc tb) := by
 refine .mk ?_
 intro pins s σ H D I h
 obtain ⟨W, ⟨m0, w0⟩, turn⟩ := h
 refine wpAny_While (codeAny_whileLoop (fun n s' => ∃ σ' H', Inv X pins σ' H' s' ∧ W n σ' H') ?_ m0 ⟨σ, H, I, w0⟩)
 rintro n s1 ⟨σ1, H1, I1, w1⟩
 refine wpAny_passesOwn hp (thn (hc pins s1 σ1 H1 _ I1 (turn n σ1 H1 w1)) fun b s2 ⟨H2, I2, q2⟩ => ?_)
 cases b with
 | true =>
  obtain ⟨N, hN, q2⟩ := q2
  rw [if_pos rfl]
  refine wpAny_passesOwn hp (thn (hb pins s2 σ1 H2 _ I2 q2) fun f s3 q3 => ?_)
  cases f with
  | next =>
   obtain ⟨σ3, H3, I3, n3⟩ := q3
   obtain ⟨m', hm, w3⟩ := hN σ3 H3 n3
   exact ⟨m', hm, σ3, H3, I3, w3⟩
  | cont =>
   obtain ⟨σ3, H3, I3, n3⟩ := q3
   obtain ⟨m', hm, w3⟩ := hN σ3 H3 n3
   exact ⟨m', hm, σ3, H3, I3, w3⟩
  | brk => exact q3
  | ret v => exact q3
 | false =>
  rw [if_neg Bool.false_ne_true]
  exact wpAny_execs_nil ⟨σ1, H2, I2, q2⟩
end
structure It where
 go : Nat → Hp → Prop
 yld : Nat → Hp → V → Hp → Prop
 stop : Nat → Hp → Prop
def FpOk (X : Cx) (pins : List (Addr × Obj)) (H : Hp) (b : Addr) : Prop :=
 H b = none ∧ b ≠ X.env.locals ∧ b ∉ X.fs ∧ (b ∈ X.ex ∨ X.s₀.heap.objs.size ≤ b) ∧ (∀ x c, X.env.cells.lookup x = some c → c ≠ b) ∧ ∀ p ∈ X.pn ++ pins, p.1 ≠ b
theorem Inv.fpOk {X : Cx} {pins : List (Addr × Obj)} {σ : St} {H H' : Hp} {s : Shared} {b : Addr} (I : Inv X pins σ H s) (hb : s.heap.objs.size ≤ b) (hn : H' b = none) : FpOk X pins H' b := by
 refine ⟨hn, Nat.ne_of_gt (Nat.lt_of_lt_of_le I.lt hb), I.nofs hb, .inr (Nat.le_trans I.sz hb), fun x c e z => ?_, fun p hp z => ?_⟩
 ·obtain ⟨v, q⟩ := I.cell x c e
  exact absurd (Nat.lt_of_lt_of_le q.lt (by rw [z]; exact hb)) (Nat.lt_irrefl _)
 ·exact absurd (Nat.lt_of_lt_of_le (Heap.lt_size (I.pin p hp).1) (by rw [z]; exact hb)) (Nat.lt_irrefl _)
structure Turn (P : Program) (w : World) (K : PySem.W.Frag) (tg : Expr) (J : It) (fp : List Addr) (it : Addr) (tn : Nat → Heap → Prop) : Prop where
 mem : it ∈ fp
 obj : ∀ i h, tn i h → ∀ b ∈ fp, ∃ o, h.get? b = some o ∧ ∀ v, o.data ≠ .cell v
 keep : ∀ i h h', tn i h → (∀ b ∈ fp, ∀ o, h.get? b = some o → h'.get? b = some o) → tn i h'
 item : ∀ (X : Cx), X.prog = P → X.w = w → X.K = K → X.calm = true → ∀ (i : Nat) (pins : List (Addr × Obj)) (s : Shared) (σ : St) (H : Hp) (E : Value → Shared → Prop), Inv X pins σ H s → (∀ b ∈ fp, FpOk X pins H b) → tn i s.heap → J.go i H →
  wpAny (model P w) X.A (pyNext (.ref it)) (fun r s1 => ∃ u, r = some u ∧
   wpAny (model P w) X.A (letOwnedTupleGo tg (.ref it) u) (fun _ s2 => ∃ x H', Inv X pins σ H' s2 ∧ RelV x u ∧ J.yld i H x H' ∧ tn (i + 1) s2.heap ∧ ∀ b ∈ fp, H' b = none) E s1) E s
 done : ∀ (X : Cx), X.prog = P → X.w = w → X.K = K → X.calm = true → ∀ (i : Nat) (pins : List (Addr × Obj)) (s : Shared) (σ : St) (H : Hp) (E : Value → Shared → Prop), Inv X pins σ H s → (∀ b ∈ fp, FpOk X pins H b) → tn i s.heap → J.stop i H →
  wpAny (model P w) X.A (pyNext (.ref it)) (fun r s1 => r = none ∧ Inv X pins σ H s1) E s
 self : ∀ (A : Around) (i : Nat) (s : Shared) (Q : Value → Shared → Prop) (E : Value → Shared → Prop), tn i s.heap → Q (.ref it) s → wpAny (model P w) A (pyIter (.ref it)) Q E s
abbrev TI := St → Hp → (It → Hp → Prop) → Prop
def PIE (X : Cx) (pins : List (Addr × Obj)) (σ : St) (tg : Expr) (R : It → Hp → Prop) (itv : Value) (s2 : Shared) : Prop :=
 ∃ (it : Addr) (fp : List Addr) (tn : Nat → Heap → Prop) (J : It) (H' : Hp), itv = .ref it ∧ Inv X pins σ H' s2 ∧ Turn X.prog X.w X.K tg J fp it tn ∧ tn 0 s2.heap ∧ (∀ b ∈ fp, FpOk X pins H' b) ∧ R J H'
structure PI (X : Cx) (tg iter : Expr) (wi : TI) : Prop where
 run : ∀ (pins : List (Addr × Obj)) (s : Shared) (σ : St) (H : Hp) (R : It → Hp → Prop), Inv X pins σ H s → wi σ H R →
  wpAny (model X.prog X.w) X.A (eval iter X.env) (fun v s1 => wpAny (model X.prog X.w) X.A (pyIter v) (PIE X pins σ tg R) X.xe s1) X.xe s
instance {X : Cx} {tg iter : Expr} {wi : TI} : CoeFun (PI X tg iter wi) fun _ => ∀ (pins : List (Addr × Obj)) (s : Shared) (σ : St) (H : Hp) (R : It → Hp → Prop), Inv X pins σ H s → wi σ H R → wpAny (model X.prog X.w) X.A (eval iter X.env) (fun v s1 => wpAny (model X.prog X.w) X.A (pyIter v) (PIE X pins σ tg R) X.xe s1) X.xe s := ⟨PI.run⟩
theorem go_of {M : Model} {A : Around} {E : Value → Shared → Prop} {s : Shared} {tg : Expr} {it : Addr} {u : Value} {o : Obj} {n : String} {vs : Array Value} {Q : Unit → Shared → Prop} (ho : s.heap.get? it = some o) (hc : o.cls = .type n) (hd : o.data = .fields vs)
    (hn : ["enumerate", "zip", "dict_itemiterator", "dict_reverseitemiterator", "odict_iterator", "itertools.zip_longest", "itertools.pairwise"].contains n = false) (hQ : Q () s) : wpAny M A (letOwnedTupleGo tg (.ref it) u) Q E s := by
  unfold letOwnedTupleGo
  cases tg <;> first
    | exact wpAny_pure hQ
    | (cases u <;> first
        | exact wpAny_pure hQ
        | (refine wpAny_bind (wpAny_load ho ?_)
           rw [hc, hd]
           show wpAny M A (if (["enumerate", "zip", "dict_itemiterator", "dict_reverseitemiterator", "odict_iterator", "itertools.zip_longest", "itertools.pairwise"].contains n && vs[0]? == some (rawInt _)) = true then _ else _) Q E s
           rw [if_neg (by intro h; rw [hn, Bool.false_and] at h; cases h)]
           exact wpAny_pure hQ))
def Itl (K : PySem.W.Frag) (a : Addr) : It :=
 ⟨fun i H => ∃ xs x, SqL K H a xs ∧ xs[i]? = some x, fun i H x H' => H' = H ∧ ∀ xs, SqL K H a xs → xs[i]? = some x, fun i H => ∃ xs, SqL K H a xs ∧ xs.length ≤ i⟩
def Itt (K : PySem.W.Frag) (a : Addr) : It :=
 ⟨fun i H => ∃ xs x, SqT K H a xs ∧ xs[i]? = some x, fun i H x H' => H' = H ∧ ∀ xs, SqT K H a xs → xs[i]? = some x, fun i H => ∃ xs, SqT K H a xs ∧ xs.length ≤ i⟩
def Itr (lo : Int) (n : Nat) : It := ⟨fun i _ => i < n, fun i H x H' => H' = H ∧ x = .int (lo + i), fun i _ => n ≤ i⟩
theorem turn_list {P : Program} {w : World} {K : PySem.W.Frag} {tg : Expr} (a it : Addr) : Turn P w K tg (Itl K a) [it] it (fun i h => h.IsListIter it a i) where
 mem := by simp
 obj := fun i h st b hb => by
  have e : b = it := by simpa using hb
  subst e
  obtain ⟨o, e, c, d⟩ := st
  exact ⟨o, e, fun v z => by rw [d] at z; cases z⟩
 keep := fun i h h' st k => st.at fun o e => k it (by simp) o e
 item := by
  intro X hP hw hK hc i pins s σ H E I hf st hg
  subst hP hw hK
  obtain ⟨xs, x, hq, hx⟩ := hg
  obtain ⟨its, rv, p, hz⟩ := I.list hq
  obtain ⟨u, hu, ru⟩ := rv.get hx
  obtain ⟨f0, f1, f2, f3, f4, f5⟩ := hf it (by simp)
  refine wpAny_pyNext_list_item st p.isList (x := u) (by simpa using hu) fun h' st' sb => ?_
  have I1 : Inv X pins σ H { s with heap := h' } := I.turned (t' := s.toks) (fun b o hb e => (sb.2 b hb).trans e) f0 f1 f3 f4 f5
  obtain ⟨o, e, c, d⟩ := id st'
  exact ⟨u, rfl, go_of (s := { s with heap := h' }) e c d (by decide) ⟨x, H, I1, ru, ⟨rfl, fun ys hy => by rw [I.list_inj hy hq]; exact hx⟩, st', fun b hb => (hf b hb).1⟩⟩
 done := by
  intro X hP hw hK hc i pins s σ H E I hf st hg
  subst hP hw hK
  obtain ⟨xs, hq, hx⟩ := hg
  obtain ⟨its, rv, p, hz⟩ := I.list hq
  obtain ⟨f0, f1, f2, f3, f4, f5⟩ := hf it (by simp)
  have hl := rv.length
  exact wpAny_pyNext_list_end (I.ok.hd hc) st p.isList (by simp; omega) fun h' eb => ⟨rfl, I.turned (t' := s.toks) (fun b o hb e => eb b o hb e) f0 f1 f3 f4 f5⟩
 self := fun _ _ _ _ _ st h => wpAny_pyIter_listiter st h
theorem turn_tuple {P : Program} {w : World} {K : PySem.W.Frag} {tg : Expr} (a it : Addr) : Turn P w K tg (Itt K a) [it] it (fun i h => h.IsTupleIter it a i) where
 mem := by simp
 obj := fun i h st b hb => by
  have e : b = it := by simpa using hb
  subst e
  obtain ⟨o, e, c, d⟩ := st
  exact ⟨o, e, fun v z => by rw [d] at z; cases z⟩
 keep := fun i h h' st k => st.at fun o e => k it (by simp) o e
 item := by
  intro X hP hw hK hc i pins s σ H E I hf st hg
  subst hP hw hK
  obtain ⟨xs, x, hq, hx⟩ := hg
  obtain ⟨its, rv, p, hz⟩ := I.tuple hq
  obtain ⟨u, hu, ru⟩ := rv.get hx
  obtain ⟨f0, f1, f2, f3, f4, f5⟩ := hf it (by simp)
  refine wpAny_pyNext_tuple_item st (show s.heap.IsTuple a its.toArray from p) (x := u) (by simpa using hu) fun h' st' sb => ?_
  have I1 : Inv X pins σ H { s with heap := h' } := I.turned (t' := s.toks) (fun b o hb e => (sb.2 b hb).trans e) f0 f1 f3 f4 f5
  obtain ⟨o, e, c, d⟩ := id st'
  exact ⟨u, rfl, go_of (s := { s with heap := h' }) e c d (by decide) ⟨x, H, I1, ru, ⟨rfl, fun ys hy => by rw [I.tuple_inj hy hq]; exact hx⟩, st', fun b hb => (hf b hb).1⟩⟩
 done := by
  intro X hP hw hK hc i pins s σ H E I hf st hg
  subst hP hw hK
  obtain ⟨xs, hq, hx⟩ := hg
  obtain ⟨its, rv, p, hz⟩ := I.tuple hq
  obtain ⟨f0, f1, f2, f3, f4, f5⟩ := hf it (by simp)
  have hl := rv.length
  exact wpAny_pyNext_tuple_end (I.ok.hd hc) st (show s.heap.IsTuple a its.toArray from p) (by simp; omega) fun h' eb => ⟨rfl, I.turned (t' := s.toks) (fun b o hb e => eb b o hb e) f0 f1 f3 f4 f5⟩
 self := fun _ _ _ _ _ st h => wpAny_pyIter_tupleiter st h
theorem turn_range {P : Program} {w : World} {K : PySem.W.Frag} {tg : Expr} (it : Addr) (lo : Int) (n : Nat) : Turn P w K tg (Itr lo n) [it] it (fun i h => IsRangeIter h it (lo + (i : Nat) * 1) ((n : Int) - (i : Nat)) 1) where
 mem := by simp
 obj := fun i h st b hb => by
  have e : b = it := by simpa using hb
  subst e
  exact ⟨_, st, fun v z => by
   have z' : Data.fields _ = Data.cell v := z
   cases z'⟩
 keep := fun i h h' st k => k it (by simp) _ st
 item := by
  intro X hP hw hK hc i pins s σ H E I hf st hg
  subst hP hw hK
  obtain ⟨f0, f1, f2, f3, f4, f5⟩ := hf it (by simp)
  have W := Walks.range (prog := X.prog) (w := X.w) (I.ok.hd hc) it lo 1 n
  refine W.item i s _ _ hg st fun v h' tk hv st' kk => ?_
  obtain ⟨t, rfl⟩ := hv
  have I1 : Inv X pins σ H { s with heap := h', toks := tk } := I.turned (fun b o hb e => kk b o (by simpa using hb) e) f0 f1 f3 f4 f5
  refine ⟨_, rfl, go_of (s := { s with heap := h', toks := tk }) (n := "range_iterator") st' rfl rfl (by decide) ⟨.int (lo + i), H, I1, ⟨t, ?_⟩, ⟨rfl, rfl⟩, st', fun b hb => (hf b hb).1⟩⟩
  rw [Int.mul_one]
 done := by
  intro X hP hw hK hc i pins s σ H E I hf st hg
  subst hP hw hK
  obtain ⟨f0, f1, f2, f3, f4, f5⟩ := hf it (by simp)
  exact wpAny_pyNext_range_end (I.ok.hd hc) st (by have : n ≤ i := hg; omega) fun h' eb => ⟨rfl, I.turned (t' := s.toks) (fun b o hb e => eb b o hb e) f0 f1 f3 f4 f5⟩
 self := fun _ _ _ _ _ st h => wpAny_pyIter_rangeiter st h
end L2
namespace L2
open PySem PySem.Spec PyProof.Rows
section
variable {X : Cx} {tg : Expr}
def iList (K : PySem.W.Frag) (tl : TE) : TI := fun σ H R => tl σ H fun x H1 => ∃ a, x = .ref a ∧ (∃ xs, SqL K H1 a xs) ∧ R (Itl K a) H1
def iTup (K : PySem.W.Frag) (tl : TE) : TI := fun σ H R => tl σ H fun x H1 => ∃ a, x = .ref a ∧ (∃ xs, SqT K H1 a xs) ∧ R (Itt K a) H1
theorem pi_list {l : Expr} {tl : TE} (hl : PE X l tl) : PI X tg l (iList X.K tl) := by
 refine .mk ?_
 intro pins s σ H R I h
 refine thn (hl pins s σ H _ I h) fun v s1 ⟨x, H1, I1, r1, q1⟩ => ?_
 obtain ⟨a, e, ⟨xs, hq⟩, q⟩ := q1
 subst e
 cases r1
 obtain ⟨its, rv, p, hz⟩ := I1.list hq
 refine wpAny_pyIter_list p.isList ?_
 refine ⟨s1.heap.objs.size, [s1.heap.objs.size], _, _, H1, rfl, I1.kept (t' := s1.toks) fun b o e => Heap.get?_push_of_some _ e, turn_list a _, ⟨_, Heap.get?_push_size _ rfl, rfl, rfl⟩, fun b hb => ?_, q⟩
 have e : b = s1.heap.objs.size := by simpa using hb
 subst e
 exact I1.fpOk (Nat.le_refl _) (I1.hok.fresh (Nat.le_refl _))
theorem pi_tup {l : Expr} {tl : TE} (hl : PE X l tl) : PI X tg l (iTup X.K tl) := by
 refine .mk ?_
 intro pins s σ H R I h
 refine thn (hl pins s σ H _ I h) fun v s1 ⟨x, H1, I1, r1, q1⟩ => ?_
 obtain ⟨a, e, ⟨xs, hq⟩, q⟩ := q1
 subst e
 cases r1
 obtain ⟨its, rv, p, hz⟩ := I1.tuple hq
 refine wpAny_pyIter_tuple (show s1.heap.IsTuple a its.toArray from p) ?_
 refine ⟨s1.heap.objs.size, [s1.heap.objs.size], _, _, H1, rfl, I1.kept (t' := s1.toks) fun b o e => Heap.get?_push_of_some _ e, turn_tuple a _, ⟨_, Heap.get?_push_size _ rfl, rfl, rfl⟩, fun b hb => ?_, q⟩
 have e : b = s1.heap.objs.size := by simpa using hb
 subst e
 exact I1.fpOk (Nat.le_refl _) (I1.hok.fresh (Nat.le_refl _))
theorem range_it {pins : List (Addr × Obj)} {σ : St} {H : Hp} {s : Shared} {R : It → Hp → Prop} {E : Value → Shared → Prop} {lo hi : Int} {t u v : Tok} {tk : Nat} (I : Inv X pins σ H s) (h1 : -(2 ^ 62) ≤ lo) (h2 : lo < 2 ^ 62) (h3 : -(2 ^ 62) ≤ hi) (h4 : hi < 2 ^ 62)
  (q : R (Itr lo (hi - lo).toNat) H) : wpAny (model X.prog X.w) X.A (pyIter (.ref s.heap.objs.size)) (PIE X pins σ tg R) E { s with heap := s.heap.push { cls := .type "range", data := .fields #[.int lo t, .int hi u, .int 1 v] }, toks := tk } := by
 refine wpAny_pyIter_range (IsRange.new ..) (small_one h1 h2 h3 h4) ?_
 have I1 : Inv X pins σ H { s with heap := s.heap.push { cls := .type "range", data := .fields #[.int lo t, .int hi u, .int 1 v] }, toks := tk } := I.kept fun b o e => Heap.get?_push_of_some _ e
 refine ⟨(s.heap.push { cls := .type "range", data := .fields #[.int lo t, .int hi u, .int 1 v] }).objs.size, [(s.heap.push { cls := .type "range", data := .fields #[.int lo t, .int hi u, .int 1 v] }).objs.size], _, _, H, rfl,
  I1.kept (t' := tk) fun b o e => Heap.get?_push_of_some _ e, turn_range _ lo (hi - lo).toNat, ?_, fun b hb => ?_, q⟩
 ·have e1 : lo + ((0 : Nat) : Int) * 1 = lo := by simp
  have e2 : (((hi - lo).toNat : Nat) : Int) - ((0 : Nat) : Int) = Builtin.Range.rangeSize lo hi 1 := by rw [rangeSize_one]; split <;> omega
  show IsRangeIter _ _ (lo + ((0 : Nat) : Int) * 1) ((((hi - lo).toNat : Nat) : Int) - ((0 : Nat) : Int)) 1
  rw [e1, e2]
  exact Heap.get?_push_size _ rfl
 ·have e : b = (s.heap.push { cls := .type "range", data := .fields #[.int lo t, .int hi u, .int 1 v] }).objs.size := by simpa using hb
  subst e
  exact I1.fpOk (Nat.le_refl _) (I1.hok.fresh (Nat.le_refl _))
def iRng1 (ta : TA) : TI := fun σ H R => ta σ H fun vs H1 => ∃ j : Int, vs = [.int j] ∧ -(2 ^ 62) ≤ j ∧ j < 2 ^ 62 ∧ R (Itr 0 j.toNat) H1
theorem pi_range1 {a : Expr} {ta : TA} {p pos : Pos} (hg : Gl X "range") (hm : X.mg "range" = none) (ha : PA X [a] ta) (hs : starEach [a] X.env = [(false, eval a X.env)] := by rfl) : PI X tg (.Call (.Name "range" p) [a] [] pos) (iRng1 ta) := by
 refine .mk ?_
 intro pins s σ H R I h
 refine Call_ (ld_blt I hg hm boot_range (PyProof.Rows.callWith_type1 (thn (ha pos pins s σ H _ I h) fun us s1 ⟨vs, H1, I1, r1, q1⟩ => ?_) hs rfl))
 obtain ⟨j, e, q1, q2, q⟩ := q1
 subst e
 cases r1 with
 | cons r rr =>
  cases rr
  obtain ⟨t, rfl⟩ := r
  exact call_range_1 (range_it I1 (by omega) (by omega) q1 q2 (by simpa using q))
def tFor (wi : TI) (g : TG) (tb : TS) : TS := fun D σ H => wi σ H fun J H1 => ∃ W : Nat → Nat → St → Hp → Prop, (∃ m, W 0 m σ H1) ∧ ∀ i m σ H, W i m σ H →
 (J.stop i H ∧ D.nx σ H) ∨ (J.go i H ∧ ∃ N : St → Hp → Prop, (∀ σ' H', N σ' H' → ∃ m', m' < m ∧ W (i + 1) m' σ' H') ∧ ∀ x H', J.yld i H x H' → g x σ H' fun σ2 H2 => tb { D with nx := N, ct := N, bk := D.nx } σ2 H2)
def pinsAt (fp : List Addr) (h : Heap) : List (Addr × Obj) := fp.filterMap fun b => (h.get? b).map fun o => (b, o)
theorem mem_pinsAt {fp : List Addr} {h : Heap} {b : Addr} {o : Obj} (hb : b ∈ fp) (e : h.get? b = some o) : (b, o) ∈ pinsAt fp h := List.mem_filterMap.mpr ⟨b, hb, by rw [e]; rfl⟩
theorem of_pinsAt {fp : List Addr} {h : Heap} {p : Addr × Obj} (hp : p ∈ pinsAt fp h) : p.1 ∈ fp ∧ h.get? p.1 = some p.2 := by
 obtain ⟨b, hb, e⟩ := List.mem_filterMap.mp hp
 cases q : h.get? b with
 | none => rw [q] at e; cases e
 | some o =>
  rw [q] at e
  have e' : (b, o) = p := Option.some.inj e
  subst e'
  exact ⟨hb, q⟩
theorem Inv.pinned {pins : List (Addr × Obj)} {σ : St} {H : Hp} {s : Shared} {fp : List Addr} (I : Inv X pins σ H s) (hf : ∀ b ∈ fp, FpOk X pins H b) (ho : ∀ b ∈ fp, ∃ o, s.heap.get? b = some o ∧ ∀ v, o.data ≠ .cell v) : Inv X (pins ++ pinsAt fp s.heap) σ H s :=
 I.pins_of fun p hp => (List.mem_append.mp hp).elim (fun z => I.pin p (List.mem_append_right _ z)) fun z => by
  obtain ⟨hb, e⟩ := of_pinsAt z
  obtain ⟨f0, f1, f2, _⟩ := hf p.1 hb
  obtain ⟨o, e', d⟩ := ho p.1 hb
  rw [e] at e'; cases e'
  exact ⟨e, f0, f1, f2, d⟩
theorem Inv.unpinned {pins pl : List (Addr × Obj)} {σ : St} {H : Hp} {s : Shared} (I : Inv X (pins ++ pl) σ H s) : Inv X pins σ H s := I.pins_of fun p hp => I.pin p (List.mem_append_right _ (List.mem_append_left _ hp))
theorem ps_for {iter : Expr} {body : List Stmt} {wi : TI} {g : TG} {tb : TS} {pos : Pos} (hp : PassesOwn (model X.prog X.w) X.A X.env X.xe) (hc : X.calm = true) (hi : PI X tg iter wi) (hg : PG X tg g) (hb : PSs X body tb)
  (hs : ∀ x, foldedSetIterable iter X.env x = pure x := by intro _; rfl) : PS X (.For tg iter body [] pos) (tFor wi g tb) := by
 refine .mk ?_
 intro pins s σ H D I h
 refine wpAny_For (thn (hi pins s σ H _ I h) fun v s1 h1 => thn h1 fun itv s2 h2 => ?_) hs
 obtain ⟨it, fp, tn, J, H2, e, I2, T, st2, f2, W, ⟨m0, w0⟩, turn⟩ := h2
 subst e
 -- what stays true of the iterator's objects through the loop
 have stat : ∀ {H' : Hp}, (∀ b ∈ fp, H' b = none) → ∀ b ∈ fp, FpOk X pins H' b := fun hn b hb => ⟨hn b hb, (f2 b hb).2⟩
 refine codeAny_forLoop_any (fun n s' => ∃ i σ' H', Inv X pins σ' H' s' ∧ tn i s'.heap ∧ (∀ b ∈ fp, H' b = none) ∧ W i n σ' H') ?_ m0 ⟨0, σ, H2, I2, st2, fun b hb => (f2 b hb).1, w0⟩
 rintro n s3 ⟨i, σ3, H3, I3, st3, fr3, w3⟩
 rcases turn i n σ3 H3 w3 with ⟨stop, qn⟩ | ⟨go, N, hN, step⟩
 ·refine wpAny_passesOwn hp (thn (T.done X rfl rfl rfl hc i pins s3 σ3 H3 X.xe I3 (stat fr3) st3 stop) fun r s4 ⟨hr, I4⟩ => ?_)
  subst hr
  exact wpAny_execs_nil ⟨σ3, H3, I4, qn⟩
 ·refine wpAny_passesOwn hp (thn (T.item X rfl rfl rfl hc i pins s3 σ3 H3 X.xe I3 (stat fr3) st3 go) fun r s4 ⟨u, hr, h4⟩ => ?_)
  subst hr
  refine wpAny_passesOwn hp (thn h4 fun _ s5 ⟨x, H5, I5, r5, y5, st5, fr5⟩ => ?_)
  have I5' := I5.pinned (stat fr5) (T.obj _ _ st5)
  refine wpAny_passesOwn hp (thn (hg _ s5 σ3 H5 x u _ I5' r5 (step x H5 y5)) fun _ s6 ⟨σ6, H6, I6, q6⟩ => ?_)
  refine wpAny_passesOwn hp (thn (hb _ s6 σ6 H6 _ I6 q6) fun f s7 q7 => ?_)
  have again : ∀ {σ7 : St} {H7 : Hp}, Inv X (pins ++ pinsAt fp s5.heap) σ7 H7 s7 → N σ7 H7 → ∃ m, m < n ∧ ∃ i σ' H', Inv X pins σ' H' s7 ∧ tn i s7.heap ∧ (∀ b ∈ fp, H' b = none) ∧ W i m σ' H' := fun {σ7 H7} I7 n7 => by
   obtain ⟨m', hm, w7⟩ := hN σ7 H7 n7
   refine ⟨m', hm, i + 1, σ7, H7, I7.unpinned, T.keep _ _ _ st5 fun b hb o e => (I7.pin (b, o) (List.mem_append_right _ (List.mem_append_right _ (mem_pinsAt hb e)))).1, fun b hb => ?_, w7⟩
   obtain ⟨o, e, d⟩ := T.obj _ _ st5 b hb
   exact (I7.pin (b, o) (List.mem_append_right _ (List.mem_append_right _ (mem_pinsAt hb e)))).2.1
  cases f with
  | next => obtain ⟨σ7, H7, I7, n7⟩ := q7; exact again I7 n7
  | cont => obtain ⟨σ7, H7, I7, n7⟩ := q7; exact again I7 n7
  | brk => obtain ⟨σ7, H7, I7, q7⟩ := q7; exact ⟨σ7, H7, I7.unpinned, q7⟩
  | ret v => obtain ⟨x7, σ7, H7, I7, r7, q7⟩ := q7; exact ⟨x7, σ7, H7, I7.unpinned, r7, q7⟩
end
theorem for_range {lo : Int} {n : Nat} {g : TG} {tb : TS} {D : Ends} {σ : St} {H : Hp} (Pv : Nat → St → Hp → Prop) (h0 : Pv 0 σ H)
  (hs : ∀ i σ H, i < n → Pv i σ H → g (.int (lo + i)) σ H fun σ2 H2 => tb { D with nx := Pv (i + 1), ct := Pv (i + 1), bk := D.nx } σ2 H2) (hd : ∀ σ H, Pv n σ H → D.nx σ H) :
  ∃ W : Nat → Nat → St → Hp → Prop, (∃ m, W 0 m σ H) ∧ ∀ i m σ H, W i m σ H →
   ((Itr lo n).stop i H ∧ D.nx σ H) ∨ ((Itr lo n).go i H ∧ ∃ N : St → Hp → Prop, (∀ σ' H', N σ' H' → ∃ m', m' < m ∧ W (i + 1) m' σ' H') ∧ ∀ x H', (Itr lo n).yld i H x H' → g x σ H' fun σ2 H2 => tb { D with nx := N, ct := N, bk := D.nx } σ2 H2) := by
 refine ⟨fun i m σ H => m = n - i ∧ i ≤ n ∧ Pv i σ H, ⟨n, by simp, Nat.zero_le _, h0⟩, ?_⟩
 rintro i m σ H ⟨rfl, hi, p⟩
 by_cases hlt : i < n
 ·refine .inr ⟨hlt, Pv (i + 1), fun σ' H' p' => ⟨n - (i + 1), by omega, rfl, hlt, p'⟩, fun x H' y => ?_⟩
  obtain ⟨e, y⟩ := y
  subst e y
  exact hs i σ _ hlt p
 ·have e : i = n := by omega
  subst e
  exact .inl ⟨Nat.le_refl _, hd σ H p⟩
end L2
namespace L2
open PySem PySem.Spec PyProof.Rows
abbrev R2 := V → V → Hp → VK → Prop
def OpR (X : Cx) (f : Value → Value → Sem Value) (r : R2) : Prop :=
 ∀ (pins : List (Addr × Obj)) (s : Shared) (σ : St) (H : Hp) (x y : V) (v u : Value) (Q : VK), Inv X pins σ H s → RelV x v → RelV y u → r x y H Q →
  wpAny (model X.prog X.w) X.A (f v u) (EP X pins σ Q) X.xe s
def UnR (X : Cx) (f : Value → Sem Value) (r : V → Hp → VK → Prop) : Prop :=
 ∀ (pins : List (Addr × Obj)) (s : Shared) (σ : St) (H : Hp) (x : V) (v : Value) (Q : VK), Inv X pins σ H s → RelV x v → r x H Q →
  wpAny (model X.prog X.w) X.A (f v) (EP X pins σ Q) X.xe s
def CallR (X : Cx) (f : Value) (r : List V → Hp → VK → Prop) : Prop :=
 ∀ (pins : List (Addr × Obj)) (s : Shared) (σ : St) (H : Hp) (xs : List V) (us : List Value) (Q : VK), Inv X pins σ H s → Vals xs us → r xs H Q →
  wpAny (model X.prog X.w) X.A (call f us) (EP X pins σ Q) X.xe s
def TruR (X : Cx) (r : V → Hp → (Bool → Hp → Prop) → Prop) : Prop :=
 ∀ (pins : List (Addr × Obj)) (s : Shared) (σ : St) (H : Hp) (x : V) (v : Value) (Q : Bool → Hp → Prop), Inv X pins σ H s → RelV x v → r x H Q →
  wpAny (model X.prog X.w) X.A (truthy v) (TP X pins σ Q) X.xe s
def tOp (r : R2) (ta tb : TE) : TE := fun σ H Q => ta σ H fun x H1 => tb σ H1 fun y H2 => r x y H2 Q
def tUn (r : V → Hp → VK → Prop) (ta : TE) : TE := fun σ H Q => ta σ H fun x H1 => r x H1 Q
def rI (C : Int → Int → Prop) (g : Int → Int → V) : R2 := fun x y H Q => ∃ i j, x = .int i ∧ y = .int j ∧ C i j ∧ Q (g i j) H
def rI0 (g : Int → Int → V) : R2 := fun x y H Q => ∃ i j, x = .int i ∧ y = .int j ∧ Q (g i j) H
def rU (g : Int → V) : V → Hp → VK → Prop := fun x H Q => ∃ i, x = .int i ∧ Q (g i) H
section
variable {X : Cx} {a b c : Expr} {ta tb tc : TE} {pos : Pos}
theorem binT (ha : PE X a ta) (hb : PE X b tb) {pins : List (Addr × Obj)} {s : Shared} {σ : St} {H : Hp} {R : V → V → Hp → Prop} (I : Inv X pins σ H s)
  (h : ta σ H fun x H1 => tb σ H1 fun y H2 => R x y H2) {Q : Value → Shared → Prop} {f : Value → Value → Sem Value}
  (hf : ∀ v u s2 x y H2, Inv X pins σ H2 s2 → RelV x v → RelV y u → R x y H2 → wpAny (model X.prog X.w) X.A (f v u) Q X.xe s2) :
  wpAny (model X.prog X.w) X.A (eval a X.env) (fun v s₁ => wpAny (model X.prog X.w) X.A (eval b X.env) (fun u s₂ => wpAny (model X.prog X.w) X.A (f v u) Q X.xe s₂) X.xe s₁) X.xe s := by
 refine thn (ha pins s σ H _ I h) fun v s1 ⟨x, H1, I1, r1, q1⟩ => ?_
 refine thn (hb pins s1 σ H1 _ I1 q1) fun u s2 ⟨y, H2, I2, r2, q2⟩ => ?_
 exact hf v u s2 x y H2 I2 r1 r2 q2
theorem pe_op {op : Operator} {r : R2} (ho : OpR X (binaryOp op) r) (ha : PE X a ta) (hb : PE X b tb) : PE X (.BinOp a op b pos) (tOp r ta tb) := by
 refine .mk ?_
 intro pins s σ H Q I h
 exact wpAny_BinOp (binT ha hb I h fun v u s2 x y H2 I2 rx ry q => ho pins s2 σ H2 x y v u Q I2 rx ry q)
theorem pe_un {op : UnaryOp} {r : V → Hp → VK → Prop} (ho : UnR X (unaryOp op) r) (ha : PE X a ta) : PE X (.UnaryOp op a pos) (tUn r ta) := by
 refine .mk ?_
 intro pins s σ H Q I h
 exact UnaryOp_ (thn (ha pins s σ H _ I h) fun v s1 ⟨x, H1, I1, r1, q1⟩ => ho pins s1 σ H1 x v Q I1 r1 q1)
theorem opI {f : Value → Value → Sem Value} {C : Int → Int → Prop} {g : Int → Int → Int}
  (rule : ∀ (i j : Int) (t u : Tok) (s : Shared) (Q : Value → Shared → Prop) (E : Value → Shared → Prop), C i j → Q (.int (g i j) s.toks) { s with toks := s.toks + 1 } → wpAny (model X.prog X.w) X.A (f (.int i t) (.int j u)) Q E s) :
  OpR X f (rI C fun i j => .int (g i j)) := by
 intro pins s σ H x y v u Q I rx ry h
 obtain ⟨i, j, rfl, rfl, hc, q⟩ := h
 obtain ⟨t, rfl⟩ := rx
 obtain ⟨t', rfl⟩ := ry
 exact rule i j t t' s _ _ hc ⟨.int (g i j), H, I.tok _, ⟨_, rfl⟩, q⟩
theorem opI0 {f : Value → Value → Sem Value} {g : Int → Int → Int}
  (rule : ∀ (i j : Int) (t u : Tok) (s : Shared) (Q : Value → Shared → Prop) (E : Value → Shared → Prop), Q (.int (g i j) s.toks) { s with toks := s.toks + 1 } → wpAny (model X.prog X.w) X.A (f (.int i t) (.int j u)) Q E s) :
  OpR X f (rI0 fun i j => .int (g i j)) := by
 intro pins s σ H x y v u Q I rx ry h
 obtain ⟨i, j, rfl, rfl, q⟩ := h
 obtain ⟨t, rfl⟩ := rx
 obtain ⟨t', rfl⟩ := ry
 exact rule i j t t' s _ _ ⟨.int (g i j), H, I.tok _, ⟨_, rfl⟩, q⟩
theorem opB0 {f : Value → Value → Sem Value} {g : Int → Int → Bool}
  (rule : ∀ (i j : Int) (t u : Tok) (s : Shared) (Q : Value → Shared → Prop) (E : Value → Shared → Prop), Q (.bool (g i j)) s → wpAny (model X.prog X.w) X.A (f (.int i t) (.int j u)) Q E s) :
  OpR X f (rI0 fun i j => .bl (g i j)) := by
 intro pins s σ H x y v u Q I rx ry h
 obtain ⟨i, j, rfl, rfl, q⟩ := h
 obtain ⟨t, rfl⟩ := rx
 obtain ⟨t', rfl⟩ := ry
 exact rule i j t t' s _ _ ⟨.bl (g i j), H, I, rfl, q⟩
def CPow (i j : Int) : Prop := 0 ≤ j ∧ j ≤ 1000000 ∧ i.natAbs < 2 ^ 64
def CMul (i j : Int) : Prop := (-(2 ^ 64) < i ∧ i < 2 ^ 64) ∨ (-(2 ^ 64) < j ∧ j < 2 ^ 64)
theorem CMul.ok {i j : Int} (h : CMul i j) : IntMulOk i j := by
 rcases h with ⟨h1, h2⟩ | ⟨h1, h2⟩
 ·exact .of_left (intBits_le_64 h1 h2)
 ·exact .of_right (intBits_le_64 h1 h2)
theorem op_add : OpR X (binaryOp .Add) (rI0 fun i j => .int (i + j)) := opI0 fun _ _ _ _ _ _ _ q => add_int q
theorem op_sub : OpR X (binaryOp .Sub) (rI0 fun i j => .int (i - j)) := opI0 fun _ _ _ _ _ _ _ q => sub_int q
theorem op_mul : OpR X (binaryOp .Mult) (rI CMul fun i j => .int (i * j)) := opI fun _ _ _ _ _ _ _ hc q => mul_int q hc.ok
theorem op_mod : OpR X (binaryOp .Mod) (rI (fun _ j => 0 < j) fun i j => .int (i % j)) := opI fun i j _ _ _ _ _ hc q => by
 have h1 : (0 : Int) < j := hc
 exact mod_int' (by omega) (by rw [Int.fmod_eq_emod_of_nonneg i (by omega)]; exact q)
theorem op_pow : OpR X (binaryOp .Pow) (rI CPow fun i j => .int (i ^ j.toNat)) := opI fun _ _ _ _ _ _ _ hc q => pow_int_small hc.1 hc.2.1 hc.2.2 q
theorem unI {f : Value → Sem Value} {g : Int → Int}
  (rule : ∀ (i : Int) (t : Tok) (s : Shared) (Q : Value → Shared → Prop) (E : Value → Shared → Prop), Q (.int (g i) s.toks) { s with toks := s.toks + 1 } → wpAny (model X.prog X.w) X.A (f (.int i t)) Q E s) :
  UnR X f (rU fun i => .int (g i)) := by
 intro pins s σ H x v Q I rx h
 obtain ⟨i, rfl, q⟩ := h
 obtain ⟨t, rfl⟩ := rx
 exact rule i t s _ _ ⟨.int (g i), H, I.tok _, ⟨_, rfl⟩, q⟩
theorem un_neg : UnR X (unaryOp .USub) (rU fun i => .int (-i)) := unI fun _ _ _ _ _ q => neg_int q
end
def scal : V → V → Bool
 | .non, .non => true | .non, .int _ => true | .int _, .non => true | .non, .bl _ => true | .bl _, .non => true | .non, .str _ => true | .str _, .non => true
 | .int _, .int _ => true | .bl _, .bl _ => true | .str _, .str _ => true | .byt _, .byt _ => true
 | .int _, .str _ => true | .str _, .int _ => true | .bl _, .str _ => true | .str _, .bl _ => true
 | _, _ => false
def rEq : R2 := fun x y H Q => scal x y = true ∧ Q (.bl (decide (x = y))) H
def rNe : R2 := fun x y H Q => scal x y = true ∧ Q (.bl (!decide (x = y))) H
theorem dec_int {i j : Int} : decide (V.int i = V.int j) = (i == j) := by
 rw [Bool.eq_iff_iff]
 simp
theorem dec_bl {i j : Bool} : decide (V.bl i = V.bl j) = (i == j) := by
 rw [Bool.eq_iff_iff]
 simp
theorem dec_str {i j : Str} : decide (V.str i = V.str j) = (i == j) := by
 rw [Bool.eq_iff_iff]
 simp
theorem dec_byt {i j : Array UInt8} : decide (V.byt i = V.byt j) = (i.toList == j.toList) := by
 rw [Bool.eq_iff_iff]
 cases i
 cases j
 simp
section
variable {X : Cx} {a b c : Expr} {ta tb tc : TE} {pos : Pos}
theorem fin_bl {pins : List (Addr × Obj)} {σ : St} {H : Hp} {s : Shared} {Q : VK} {k k' : Bool} (I : Inv X pins σ H s) (q : Q (.bl k) H) (e : k = k') : EP X pins σ Q (.bool k') s := by
 subst e
 exact ⟨.bl k, H, I, rfl, q⟩
theorem op_eq : OpR X (compareOp .Eq) rEq := by
 intro pins s σ H x y v u Q I rx ry h
 obtain ⟨hs, q⟩ := h
 cases x with
 | non =>
  cases rx
  cases y with
  | non => cases ry; exact PySem.EqNone.eq_none_none (fin_bl I q (by simp))
  | bl j => cases ry; exact PySem.EqNone.eq_none_bool (fin_bl I q (by simp))
  | int j => obtain ⟨t', rfl⟩ := ry; exact PySem.EqNone.eq_none_int (fin_bl I q (by simp))
  | str j => obtain ⟨t', rfl⟩ := ry; exact PySem.EqNone.eq_none_str (fin_bl I q (by simp))
  | _ => exact absurd (show false = true from hs) Bool.false_ne_true
 | bl i =>
  cases rx
  cases y with
  | non => cases ry; exact PySem.EqNone.eq_bool_none (fin_bl I q (by simp))
  | bl j => cases ry; exact eq_bool (fin_bl I q dec_bl)
  | str j => obtain ⟨t', rfl⟩ := ry; exact PySem.EqMixed.eq_bool_str (fin_bl I q (by simp))
  | _ => exact absurd (show false = true from hs) Bool.false_ne_true
 | int i =>
  obtain ⟨t, rfl⟩ := rx
  cases y with
  | non => cases ry; exact PySem.EqNone.eq_int_none (fin_bl I q (by simp))
  | int j => obtain ⟨t', rfl⟩ := ry; exact eq_int (fin_bl I q dec_int)
  | str j => obtain ⟨t', rfl⟩ := ry; exact PySem.EqMixed.eq_int_str (fin_bl I q (by simp))
  | _ => exact absurd (show false = true from hs) Bool.false_ne_true
 | str i =>
  obtain ⟨t, rfl⟩ := rx
  cases y with
  | non => cases ry; exact PySem.EqNone.eq_str_none (fin_bl I q (by simp))
  | bl j => cases ry; exact PySem.EqMixed.eq_str_bool (fin_bl I q (by simp))
  | int j => obtain ⟨t', rfl⟩ := ry; exact PySem.EqMixed.eq_str_int (fin_bl I q (by simp))
  | str j => obtain ⟨t', rfl⟩ := ry; exact eq_str (fin_bl I q dec_str)
  | _ => exact absurd (show false = true from hs) Bool.false_ne_true
 | byt i =>
  obtain ⟨t, rfl⟩ := rx
  cases y with
  | byt j => obtain ⟨t', rfl⟩ := ry; exact PySem.W.eq_bytes (fin_bl I q dec_byt)
  | _ => exact absurd (show false = true from hs) Bool.false_ne_true
 | _ => cases y <;> exact absurd (show false = true from hs) Bool.false_ne_true
theorem op_ne : OpR X (compareOp .NotEq) rNe := by
 intro pins s σ H x y v u Q I rx ry h
 obtain ⟨hs, q⟩ := h
 cases x with
 | non =>
  cases rx
  cases y with
  | non => cases ry; exact PySem.EqNone.ne_none_none (fin_bl I q (by simp))
  | bl j => cases ry; exact PySem.EqNone.ne_none_bool (fin_bl I q (by simp))
  | int j => obtain ⟨t', rfl⟩ := ry; exact PySem.EqNone.ne_none_int (fin_bl I q (by simp))
  | str j => obtain ⟨t', rfl⟩ := ry; exact PySem.EqNone.ne_none_str (fin_bl I q (by simp))
  | _ => exact absurd (show false = true from hs) Bool.false_ne_true
 | bl i =>
  cases rx
  cases y with
  | non => cases ry; exact PySem.EqNone.ne_bool_none (fin_bl I q (by simp))
  | bl j => cases ry; exact ne_bool (fin_bl I q (congrArg not dec_bl))
  | str j => obtain ⟨t', rfl⟩ := ry; exact PySem.EqMixed.ne_bool_str (fin_bl I q (by simp))
  | _ => exact absurd (show false = true from hs) Bool.false_ne_true
 | int i =>
  obtain ⟨t, rfl⟩ := rx
  cases y with
  | non => cases ry; exact PySem.EqNone.ne_int_none (fin_bl I q (by simp))
  | int j => obtain ⟨t', rfl⟩ := ry; exact ne_int (fin_bl I q (congrArg not dec_int))
  | str j => obtain ⟨t', rfl⟩ := ry; exact PySem.EqMixed.ne_int_str (fin_bl I q (by simp))
  | _ => exact absurd (show false = true from hs) Bool.false_ne_true
 | str i =>
  obtain ⟨t, rfl⟩ := rx
  cases y with
  | non => cases ry; exact PySem.EqNone.ne_str_none (fin_bl I q (by simp))
  | bl j => cases ry; exact PySem.EqMixed.ne_str_bool (fin_bl I q (by simp))
  | int j => obtain ⟨t', rfl⟩ := ry; exact PySem.EqMixed.ne_str_int (fin_bl I q (by simp))
  | str j => obtain ⟨t', rfl⟩ := ry; exact ne_str (fin_bl I q (congrArg not dec_str))
  | _ => exact absurd (show false = true from hs) Bool.false_ne_true
 | byt i =>
  obtain ⟨t, rfl⟩ := rx
  cases y with
  | byt j => obtain ⟨t', rfl⟩ := ry; exact PySem.W.ne_bytes (fin_bl I q (congrArg not dec_byt))
  | _ => exact absurd (show false = true from hs) Bool.false_ne_true
 | _ => cases y <;> exact absurd (show false = true from hs) Bool.false_ne_true
theorem op_lt : OpR X (compareOp .Lt) (rI0 fun i j => .bl (decide (i < j))) := opB0 fun _ _ _ _ _ _ _ q => lt_int q
theorem op_le : OpR X (compareOp .LtE) (rI0 fun i j => .bl (decide (i ≤ j))) := opB0 fun _ _ _ _ _ _ _ q => le_int q
theorem op_gt : OpR X (compareOp .Gt) (rI0 fun i j => .bl (decide (j < i))) := opB0 fun _ _ _ _ _ _ _ q => gt_int q
theorem op_ge : OpR X (compareOp .GtE) (rI0 fun i j => .bl (decide (j ≤ i))) := opB0 fun _ _ _ _ _ _ _ q => ge_int q
theorem op_in_str : OpR X (compareOp .In) (fun x y H Q => ∃ i j, x = .str i ∧ y = .str j ∧ Q (.bl (!(Builtin.Str.occurrences j i 0 j.length 1).isEmpty)) H) := by
 intro pins s σ H x y v u Q I rx ry h
 obtain ⟨i, j, rfl, rfl, q⟩ := h
 obtain ⟨t, rfl⟩ := rx
 obtain ⟨t', rfl⟩ := ry
 exact in_str (fin_bl I q rfl)
theorem op_isN : OpR X (compareOp .Is) (fun x y H Q => y = .non ∧ Q (.bl (decide (x = .non))) H) := by
 intro pins s σ H x y v u Q I rx ry h
 obtain ⟨rfl, q⟩ := h
 cases ry
 refine is_none_gen (fin_bl I q ?_)
 cases x <;> first
  | (cases rx; rfl)
  | (obtain ⟨t, rfl⟩ := rx; rfl)
theorem op_notN : OpR X (compareOp .IsNot) (fun x y H Q => y = .non ∧ Q (.bl (!decide (x = .non))) H) := by
 intro pins s σ H x y v u Q I rx ry h
 obtain ⟨rfl, q⟩ := h
 cases ry
 refine isnot_none_gen (fin_bl I q ?_)
 cases x <;> first
  | (cases rx; rfl)
  | (obtain ⟨t, rfl⟩ := rx; rfl)
theorem OpR.or {f : Value → Value → Sem Value} {r r' : R2} (h : OpR X f r) (h' : OpR X f r') : OpR X f (fun x y H Q => r x y H Q ∨ r' x y H Q) := by
 intro pins s σ H x y v u Q I rx ry q
 rcases q with q | q
 ·exact h pins s σ H x y v u Q I rx ry q
 ·exact h' pins s σ H x y v u Q I rx ry q
theorem nomark (b : Expr) {op : CmpOp} (h : op ≠ .In := by decide) (h2 : op ≠ .NotIn := by decide) : behindInMarks op b = false := by
 have e1 : (op == CmpOp.In) = false := by cases op <;> first | rfl | exact absurd rfl h
 have e2 : (op == CmpOp.NotIn) = false := by cases op <;> first | rfl | exact absurd rfl h2
 cases b <;> simp [behindInMarks, e1, e2]
theorem pe_cmpR {op : CmpOp} {r : R2} (ho : OpR X (compareOp op) r) (ha : PE X a ta) (hb : PE X b tb) (hm : behindInMarks op b = false) : PE X (.Compare a [op] [b] pos) (tOp r ta tb) := by
 refine .mk ?_
 intro pins s σ H Q I h
 exact wpAny_Compare1 (binT ha hb I h fun v u s2 x y H2 I2 rx ry q => ho pins s2 σ H2 x y v u Q I2 rx ry q) hm
def tTest (t : TE) : TT := fun σ H Q => t σ H fun x H' => ∃ k, x = .bl k ∧ Q k H'
theorem pt_cmpR {op : CmpOp} {r : R2} (ho : OpR X (compareOp op) r) (ha : PE X a ta) (hb : PE X b tb) (hm : behindInMarks op b = false) : PT X (.Compare a [op] [b] pos) (tTest (tOp r ta tb)) := by
 refine .mk ?_
 intro pins s σ H Q I h
 refine wpAny_isTrue_Compare1 (thn (ha pins s σ H _ I h) fun v s1 ⟨x, H1, I1, r1, q1⟩ => thn (hb pins s1 σ H1 _ I1 q1) fun u s2 ⟨y, H2, I2, r2, q2⟩ =>
  thn (ho pins s2 σ H2 x y v u _ I2 r1 r2 q2) fun c s3 ⟨z, H3, I3, r3, k, e, q3⟩ => ?_) hm
 subst e
 cases r3
 exact wpAny_truthy_bool ⟨H3, I3, q3⟩
def tChain (r r' : R2) (ta tb tc : TE) : TE := fun σ H Q => ta σ H fun x H1 => tb σ H1 fun y H2 => r x y H2 fun z H3 => ∃ k, z = .bl k ∧
 (if k = true then tc σ H3 fun w' H4 => r' y w' H4 Q else Q (.bl false) H3)
theorem pt_chain {op op' : CmpOp} {r r' : R2} (ho : OpR X (compareOp op) r) (ho' : OpR X (compareOp op') r') (ha : PE X a ta) (hb : PE X b tb) (hc : PE X c tc)
  (hm : lastMarks [op, op'] [b, c] = false := by with_unfolding_all rfl) : PT X (.Compare a [op, op'] [b, c] pos) (tTest (tChain r r' ta tb tc)) := by
 refine .mk ?_
 intro pins s σ H Q I h
 refine isTrue_chain (thn (ha pins s σ H _ I h) fun v s1 ⟨x, H1, I1, r1, q1⟩ => test_link (thn (hb pins s1 σ H1 _ I1 q1) fun u s2 ⟨y, H2, I2, r2, q2⟩ =>
  thn (ho pins s2 σ H2 x y v u _ I2 r1 r2 q2) fun d s3 ⟨z, H3, I3, r3, k, e, q3⟩ => ?_)) hm
 subst e
 cases r3
 refine wpAny_truthy_bool ?_
 cases k with
 | false =>
  obtain ⟨k', e', q'⟩ := q3
  cases e'
  exact ite_ff ⟨H3, I3, q'⟩
 | true =>
  refine ite_tt (test_last (thn (hc pins s3 σ H3 _ I3 q3) fun w' s4 ⟨z', H4, I4, r4, q4⟩ => thn (ho' pins s4 σ H4 y z' u w' _ I4 r2 r4 q4) fun d' s5 ⟨z2, H5, I5, r5, k2, e2, q5⟩ => ?_))
  subst e2
  cases r5
  exact wpAny_truthy_bool ⟨H5, I5, q5⟩
def TruV (K : PySem.W.Frag) (x : V) (H : Hp) (k : Bool) : Prop :=
 match x with
 | .non => k = false
 | .bl b => k = b
 | .int i => k = (i != 0)
 | .str y => y.length ≤ sizeLine ∧ k = ((y.length : Int) != 0)
 | .byt y => y.size ≤ sizeLine ∧ k = ((y.size : Int) != 0)
 | .ref p => (∃ xs, SqL K H p xs ∧ k = !xs.isEmpty) ∨ (∃ xs, SqT K H p xs ∧ k = !xs.isEmpty) ∨ ∃ kvs, H p = some (.dK kvs) ∧ k = !kvs.isEmpty
 | _ => False
theorem isEmpty_kv {κ : Type} {kvs : List (κ × V)} {vs : List (κ × Value)} (r : KV kvs vs) : (!vs.isEmpty) = !kvs.isEmpty := by
 cases r <;> rfl
theorem isEmpty_of {xs : List V} {its : List Value} (r : Vals xs its) : (!its.toArray.isEmpty) = !xs.isEmpty := by
 cases r <;> simp
theorem line63 : (sizeLine : Nat) < 2 ^ 63 := by rw [sizeLine_eq]; decide
theorem tru_ok : TruR X (fun x H Q => ∃ k, TruV X.K x H k ∧ Q k H) := by
 intro pins s σ H x v Q I rx h
 obtain ⟨k, e, q⟩ := h
 have hl := line63
 have hs : sizeLine = 16777216 := sizeLine_eq
 cases x with
 | non =>
  cases rx
  have e' : k = false := e
  subst e'
  exact truthy_none ⟨H, I, q⟩
 | bl b =>
  cases rx
  have e' : k = b := e
  subst e'
  exact wpAny_truthy_bool ⟨H, I, q⟩
 | int i =>
  obtain ⟨t, rfl⟩ := rx
  have e' : k = (i != 0) := e
  subst e'
  exact PySem.P.truthy_int ⟨H, I, q⟩
 | str y =>
  obtain ⟨t, rfl⟩ := rx
  obtain ⟨hy, e'⟩ : y.length ≤ sizeLine ∧ k = ((y.length : Int) != 0) := e
  subst e'
  exact PySem.P.truthy_str (by omega) ⟨H, I.tok _, q⟩
 | byt y =>
  obtain ⟨t, rfl⟩ := rx
  obtain ⟨hy, e'⟩ : y.size ≤ sizeLine ∧ k = ((y.size : Int) != 0) := e
  subst e'
  exact PySem.W.truthy_bytes (by omega) ⟨H, I.tok _, q⟩
 | ref p =>
  cases rx
  have e' : (∃ xs, SqL X.K H p xs ∧ k = !xs.isEmpty) ∨ (∃ xs, SqT X.K H p xs ∧ k = !xs.isEmpty) ∨ ∃ kvs, H p = some (.dK kvs) ∧ k = !kvs.isEmpty := e
  rcases e' with ⟨xs, hx, e'⟩ | ⟨xs, hx, e'⟩ | ⟨kvs, hx, e'⟩
  ·subst e'
   obtain ⟨its, r, pl, hz⟩ := I.list hx
   have hlen := r.length
   exact wpAny_truthy_list pl.isList (by simp only [List.size_toArray]; omega) ⟨H, I.tok _, by rw [isEmpty_of r]; exact q⟩
  ·subst e'
   obtain ⟨its, r, pl, hz⟩ := I.tuple hx
   have hlen := r.length
   exact truthy_tuple pl (by simp only [List.size_toArray]; omega) ⟨H, I.tok _, by rw [isEmpty_of r]; exact q⟩
  ·subst e'
   obtain ⟨hz, hS, vs, r, m⟩ : kvs.length ≤ sizeLine ∧ (p == sysModules) = false ∧ ∃ vs, KV kvs vs ∧ s.heap.DictOf (mixKind X.prog X.w) p vs := I.hok p _ hx
   have hlen : kvs.length = vs.length := Paired.length r
   exact wpAny_truthy_dict hS m (by omega) ⟨H, I.tok _, by rw [isEmpty_kv r]; exact q⟩
 | _ => exact (show False from e).elim
theorem pt_truth (ha : PE X a ta) (he : ∀ whole, isTrue a X.env whole = (do let v ← whole; standAt a.pos; holding [v] (truthy v))) :
  PT X a (fun σ H Q => ta σ H fun x H' => ∃ k, TruV X.K x H' k ∧ Q k H') := by
 refine .mk ?_
 intro pins s σ H Q I h
 exact isTrue_plain (thn (ha pins s σ H _ I h) fun v s1 ⟨x, H1, I1, r1, q1⟩ => tru_ok pins s1 σ H1 x v Q I1 r1 q1) (he _)
theorem op_add_str : OpR X (binaryOp .Add) (fun x y H Q => ∃ i j, x = .str i ∧ y = .str j ∧ i.length + j.length ≤ sizeLine ∧ Q (.str (i ++ j)) H) := by
 intro pins s σ H x y v u Q I rx ry h
 obtain ⟨i, j, rfl, rfl, hz, q⟩ := h
 obtain ⟨t, rfl⟩ := rx
 obtain ⟨t', rfl⟩ := ry
 exact add_str (fun t' tk => ⟨.str (i ++ j), H, I.tok _, ⟨_, rfl⟩, q⟩) hz
theorem vals1 {x : V} {us : List Value} (r : Vals [x] us) : ∃ u, us = [u] ∧ RelV x u := by
 cases r with
 | cons r1 r2 => cases r2; exact ⟨_, rfl, r1⟩
theorem vals2 {x y : V} {us : List Value} (r : Vals [x, y] us) : ∃ u w', us = [u, w'] ∧ RelV x u ∧ RelV y w' := by
 cases r with
 | cons r1 r2 =>
  cases r2 with
  | cons r3 r4 => cases r4; exact ⟨_, _, rfl, r1, r3⟩
theorem call_max2 (hc : X.calm = true) : CallR X (.builtin "max") (fun xs H Q => ∃ i j, xs = [.int i, .int j] ∧ Q (.int (if j > i then j else i)) H) := by
 intro pins s σ H xs us Q I r h
 obtain ⟨i, j, rfl, q⟩ := h
 obtain ⟨u, w', rfl, ⟨t, rfl⟩, ⟨t', rfl⟩⟩ := vals2 r
 refine max_two_ints (I.ok.hd hc) fun h' tk k => ⟨_, H, I.kept k, ?_, q⟩
 by_cases hj : j > i
 ·rw [if_pos hj, if_pos hj]; exact ⟨_, rfl⟩
 ·rw [if_neg hj, if_neg hj]; exact ⟨_, rfl⟩
theorem call_min2 (hc : X.calm = true) : CallR X (.builtin "min") (fun xs H Q => ∃ i j, xs = [.int i, .int j] ∧ Q (.int (if j < i then j else i)) H) := by
 intro pins s σ H xs us Q I r h
 obtain ⟨i, j, rfl, q⟩ := h
 obtain ⟨u, w', rfl, ⟨t, rfl⟩, ⟨t', rfl⟩⟩ := vals2 r
 refine min_two_ints (I.ok.hd hc) fun h' tk k => ⟨_, H, I.kept k, ?_, q⟩
 by_cases hj : j < i
 ·rw [if_pos hj, if_pos hj]; exact ⟨_, rfl⟩
 ·rw [if_neg hj, if_neg hj]; exact ⟨_, rfl⟩
theorem call_str_int : CallR X (.type "str") (fun xs H Q => ∃ i, xs = [.int i] ∧ i.natAbs.log2 < 1920 ∧ Q (.str (toString i)) H) := by
 intro pins s σ H xs us Q I r h
 obtain ⟨i, rfl, hz, q⟩ := h
 obtain ⟨u, rfl, t, rfl⟩ := vals1 r
 exact PySem.P.str_of_int hz ⟨.str _, H, I.tok _, ⟨_, rfl⟩, q⟩
end
end L2
namespace L2
open PySem PySem.Spec PyProof.Rows
structure ObjM (h : Heap) (x dx C : Addr) (mA : Str → Option Value) : Prop where
 obj : h.get? x = some (PySem.W.instObj C dx)
 ns : h.Ns1 dx mA
 ne : dx ≠ x
theorem lookIn_ns {h : Heap} {dx : Addr} {mA : Str → Option Value} (n : h.Ns1 dx mA) : ∃ od, h.get? dx = some od ∧ ∀ name, PySem.W.lookIn name od = some (mA name) := by
 obtain ⟨o, es, ep, ho, hd, hk, _, hm⟩ := n
 refine ⟨o, ho, fun name => ?_⟩
 have e := hm name
 unfold nsFind findBy at e
 rw [← Array.find?_toList] at e
 unfold PySem.W.lookIn
 rw [hd]
 dsimp only
 split
 ·rename_i y q
  rw [q] at e
  exact congrArg some e
 ·rename_i q
  rw [q] at e
  have a : es.toList.any (·.refKey) = false := by
   rw [List.any_eq_false]
   intro y hy
   obtain ⟨z, t, hkey⟩ := hk y (Array.mem_toList_iff.mp hy)
   simp [DictEntry.refKey, hkey]
  have a' : ¬ es.toList.any (·.refKey) = true := by rw [a]; exact Bool.false_ne_true
  rw [if_neg a']
  exact congrArg some e
theorem ObjM.look {h : Heap} {x dx C : Addr} {mA : Str → Option Value} (I : ObjM h x dx C mA) : ∃ od, PySem.W.InstAt h x (PySem.W.instObj C dx) C (some od) ∧ ∀ name, PySem.W.lookIn name od = some (mA name) :=
 let ⟨od, ho, hl⟩ := lookIn_ns I.ns
 ⟨od, ⟨I.obj, rfl, rfl, ho⟩, hl⟩
section
variable {prog : Program} {w : World} {A : Around} {E : Value → Shared → Prop} {s : Shared} {K : PySem.W.Frag} {x dx C f : Addr} {mA : Str → Option Value} {name : Str} {v : Value}
end
section
variable {P : Program} {w : World} {H H' : Hp} {h h' : Heap} {a C dx : Addr} {fs fs' : List (Str × V)}
theorem ins_get (hok : HOk P w H h) (e : H a = some (.ins C dx fs)) : ∃ mA, ObjM h a dx C mA ∧ (∀ f, RelO (fs.lookup f) (mA f)) ∧ PySem.Within mA (fs.map (·.1)) ∧ fs.length ≤ 1000 ∧ H dx = some (.own a) := by
 obtain ⟨d, z, ne, ob, mA, n, r, q⟩ := (show ObjOk P w H h a (.ins C dx fs) from hok a _ e)
 exact ⟨mA, ⟨ob, n, ne⟩, r, q, z, d⟩
end
structure Cls (K : PySem.W.Frag) (C : Addr) : Prop where
 pg : PySem.W.plainGet K C Str.empty = true
 hd : PySem.W.hasDictIn K C = true
 po : PySem.W.plainOver K C = true
 sa : PySem.W.findIn K (.ref C) "__setattr__" = some (some (.builtin "object.__setattr__"))
theorem Cls.get {K : PySem.W.Frag} {C : Addr} (c : Cls K C) (f : Str) : PySem.W.plainGet K C f = true := c.pg
section
variable {X : Cx} {pins : List (Addr × Obj)} {σ : St} {H : Hp} {s : Shared} {a C dx : Addr} {fs : List (Str × V)} {f : Str} {v : V} {A : Around} {E : Value → Shared → Prop}
end
section
variable {X : Cx} {o e value : Expr} {f : Str} {pos pos' tpos : Pos} {ta tv : TE}
end
section
variable {X : Cx} {pins : List (Addr × Obj)} {σ : St} {H : Hp} {s : Shared} {A : Around} {E : Value → Shared → Prop} {Q : Value → Shared → Prop} {c : Value} {b : Bool}
inductive TyOf (K : PySem.W.Frag) (H : Hp) : V → Value → Prop where
 | non : TyOf K H .non (.type "NoneType")
 | bl (x : Bool) : TyOf K H (.bl x) (.type "bool")
 | int (i : Int) : TyOf K H (.int i) (.type "int")
 | str (x : Str) : TyOf K H (.str x) (.type "str")
 | flt (x : UInt64) : TyOf K H (.flt x) (.type "float")
 | lst {a : Addr} {xs : List V} (e : H a = some (.lst xs)) : TyOf K H (.ref a) (.type "list")
 | frz {a : Addr} {o : Obj} {xs : List V} (e : H a = some (.frz o (.lst xs))) : TyOf K H (.ref a) (.type "list")
 | tup {a : Addr} {xs : List V} (e : H a = some (.tup xs)) : TyOf K H (.ref a) (.type "tuple")
 | dK {a : Addr} {kvs : List (Key × V)} (e : H a = some (.dK kvs)) : TyOf K H (.ref a) (.type "dict")
 | dT {a : Addr} {kvs : List (List Key × V)} (e : H a = some (.dT kvs)) : TyOf K H (.ref a) (.type "dict")
 | ins {a C dx : Addr} {fs : List (Str × V)} (e : H a = some (.ins C dx fs)) (cl : Cls K C) (ha : PySem.W.findIn K (.ref C) "__class__" = some (some (.builtin "object.__class__")))
   (hn : PySem.W.specialIn K (.builtin "object.__class__") "__get__" = some (some (.builtin "getset_descriptor.__get__"))) (htk : PySem.W.takesIn K (.builtin "object.__class__") = some true)
   (hm : PySem.W.mroIn K C (.type "object") = some true) : TyOf K H (.ref a) (.ref C)
theorem isinst_ok {x : V} {u t : Value} (I : Inv X pins σ H s) (rx : RelV x u) (ty : TyOf X.K H x t) (e : PySem.W.kitOne X.K t c = some b) (h : ∀ tk, Q (.bool b) { s with toks := tk }) :
  wpAny (model X.prog X.w) A (call (.builtin "isinstance") [u, c]) Q E s := by
 cases ty with
 | non => cases (show u = Value.none from rx); exact PySem.W.kia_one PySem.W.kitx_none I.kIn True.intro e (fun z => nomatch z) h
 | bl y => cases (show u = Value.bool y from rx); exact PySem.W.kia_one PySem.W.kitx_bool I.kIn True.intro e (fun z => nomatch z) h
 | int i => obtain ⟨t, q⟩ := (show ∃ t, u = Value.int i t from rx); cases q; exact PySem.W.kia_one PySem.W.kitx_int I.kIn True.intro e (fun z => nomatch z) h
 | str y => obtain ⟨t, q⟩ := (show ∃ t, u = Value.str y t from rx); cases q; exact PySem.W.kia_one PySem.W.kitx_str I.kIn True.intro e (fun z => nomatch z) h
 | flt y => obtain ⟨t, q⟩ := (show ∃ t, u = Value.float y t from rx); cases q; exact PySem.W.kia_one PySem.W.kitx_float I.kIn True.intro e (fun z => nomatch z) h
 | @lst a xs ea =>
  cases (show u = Value.ref a from rx)
  obtain ⟨_, _, n, _, h1⟩ := (show ObjOk X.prog X.w H s.heap a (.lst xs) from I.hok a _ ea)
  exact PySem.W.kia_one PySem.W.kitx_list I.kIn ⟨_, h1, rfl⟩ e (fun z => nomatch z) h
 | @frz a ob xs ea =>
  cases (show u = Value.ref a from rx)
  obtain ⟨_, _, _, n, _, h1⟩ := (show ObjOk X.prog X.w H s.heap a (.frz ob (.lst xs)) from I.hok a _ ea)
  exact PySem.W.kia_one PySem.W.kitx_list I.kIn ⟨_, h1, rfl⟩ e (fun z => nomatch z) h
 | @tup a xs ea =>
  cases (show u = Value.ref a from rx)
  obtain ⟨_, _, _, p⟩ := (show ObjOk X.prog X.w H s.heap a (.tup xs) from I.hok a _ ea)
  obtain ⟨o, h1, h2, _⟩ := p
  exact PySem.W.kia_one PySem.W.kitx_tuple I.kIn ⟨o, h1, h2⟩ e (fun z => nomatch z) h
 | @dK a kvs ea =>
  cases (show u = Value.ref a from rx)
  obtain ⟨_, _, vs, _, p⟩ := (show ObjOk X.prog X.w H s.heap a (.dK kvs) from I.hok a _ ea)
  obtain ⟨o, es, ep, h1, h2, _⟩ := p
  exact PySem.W.kia_one PySem.W.kitx_dict I.kIn ⟨o, h1, h2.1⟩ e (fun z => nomatch z) h
 | @dT a kvs ea =>
  cases (show u = Value.ref a from rx)
  obtain ⟨_, _, xs, _, o, es, ep, h1, h2, _⟩ := (show ObjOk X.prog X.w H s.heap a (.dT kvs) from I.hok a _ ea)
  exact PySem.W.kia_one PySem.W.kitx_dict I.kIn ⟨o, h1, h2.1⟩ e (fun z => nomatch z) h
 | @ins a C dx fs ea cl ha hn htk hm =>
  cases (show u = Value.ref a from rx)
  obtain ⟨mA, O, _⟩ := ins_get I.hok ea
  obtain ⟨od, J, _⟩ := O.look
  exact PySem.W.kia_one (PySem.W.kitx_own (cl.get _) cl.hd ha hn htk hm) I.kIn J e (fun z => nomatch z) h
end
end L2
namespace L2
open PySem PySem.Spec PyProof.Rows
structure Room (k : Nat) (A : Around) : Prop where
 hd : A.handled = none
 dp : A.depth + 3 * k + 5 < recursionLimit
 un : A.units + 16 * k + 200 < cLine
theorem Room.mono {j k : Nat} {A : Around} (r : Room k A) (h : j ≤ k) : Room j A := ⟨r.hd, by have := r.dp; omega, by have := r.un; omega⟩
theorem Room.deeper {k : Nat} {A : Around} (r : Room (k + 1) A) (env : Env) : Room k (A.deeper env) :=
 ⟨r.hd, by have := r.dp; show A.depth + 1 + 3 * k + 5 < _; omega, by have := r.un; show A.units + 3 + 16 * k + 200 < _; omega⟩
theorem Room.in1 {k : Nat} {A : Around} (r : Room (k + 1) A) : Room k A.in1 :=
 ⟨r.hd, by have := r.dp; show A.depth + 3 * k + 5 < _; omega, by have := r.un; show A.units + 1 + 16 * k + 200 < _; omega⟩
theorem make_depth {A : Around} {C : Addr} {us : List Value} {kw : List (Str × Value)} : (A.under (.builtin "type.__call__" ⟨.ref C :: us, kw⟩)).depth = A.depth + 1 := by
 first | rfl | simp [Around.under, Code.weight, Code.isCreation, Code.isGuard, Code.isCaller, Code.frames, Code.isFrame, guardIds]
theorem make_units {A : Around} {C : Addr} {us : List Value} {kw : List (Str × Value)} : (A.under (.builtin "type.__call__" ⟨.ref C :: us, kw⟩)).units = A.units + 1 := by
 first | rfl | simp [Around.under, Code.cUnits, Code.frames, Code.isFrame]
theorem Room.make {k : Nat} {A : Around} (r : Room (k + 1) A) (C : Addr) (us : List Value) (kw : List (Str × Value)) : Room k (A.under (.builtin "type.__call__" ⟨.ref C :: us, kw⟩)) :=
 ⟨r.hd, by have := r.dp; rw [make_depth]; omega, by have := r.un; rw [make_units]; omega⟩
theorem Room.depth {k : Nat} {A : Around} (r : Room k A) : A.depth < recursionLimit := by have := r.dp; omega
theorem Room.units {k : Nat} {A : Around} (r : Room k A) : A.units + 64 < cLine := by have := r.un; omega
theorem Room.units0 {k : Nat} {A : Around} (r : Room k A) : A.units < cLine := by have := r.un; omega
def tNil : TA := fun _ H Q => Q [] H
def tCons (ta : TE) (tr : TA) : TA := fun σ H Q => ta σ H fun x H1 => tr σ H1 fun xs H2 => Q (x :: xs) H2
section
variable {X : Cx} {e : Expr} {es : List Expr} {te : TE} {t : TA} {pos : Pos}
theorem pa_nil : PA X [] tNil := .mk fun _ _ _ _ H Q I h => Calls.spliced_nil ⟨[], H, I, .nil, h⟩
theorem pa_cons (ha : PE X e te) (hr : PA X es t) (hs : starEach (e :: es) X.env = (false, eval e X.env) :: starEach es X.env := by rfl) : PA X (e :: es) (tCons te t) := by
 refine .mk ?_
 intro pos pins s σ H Q I h
 rw [hs]
 show wpAny _ _ (spliced ((false, eval e X.env) :: backTo pos (starEach es X.env))) _ _ s
 refine Calls.spliced_cons (thn (ha pins s σ H _ I h) fun u s1 ⟨x, H1, I1, r1, q1⟩ => ?_)
 exact thn (hr pos pins s1 σ H1 _ I1 q1) fun us s2 ⟨xs, H2, I2, r2, q2⟩ => ⟨x :: xs, H2, I2, .cons r1 r2, q2⟩
def tTup (t : TA) : TE := fun σ H Q => t σ H fun xs H1 => xs.length ≤ sizeLine ∧ ∀ p, H1 p = none → Q (.ref p) (upd H1 p (.tup xs))
def tLst (t : TA) : TE := fun σ H Q => t σ H fun xs H1 => xs.length ≤ sizeLine ∧ ∀ p, H1 p = none → Q (.ref p) (upd H1 p (.lst xs))
theorem pe_tup {x1} (h : PA X es t) : PE X (.Tuple es x1 pos) (tTup t) := by
 refine .mk ?_
 intro pins s σ H Q I hq
 refine wpAny_Tuple_spliced (thn (h pos pins s σ H _ I hq) fun us s1 ⟨xs, H1, I1, r, z, q⟩ => ⟨by rw [← r.length]; exact z, ?_⟩)
 have hf : H1 s1.heap.objs.size = none := I1.hok.fresh (Nat.le_refl _)
 refine ⟨.ref s1.heap.objs.size, upd H1 s1.heap.objs.size (.tup xs), I1.laid (t' := s1.toks) (fun b u e => Heap.get?_push_of_some _ e) (Nat.le_refl _) ?_, rfl, q _ hf⟩
 exact ⟨z, us, r, ⟨_, Heap.get?_push_size _ rfl, rfl, _, rfl⟩⟩
theorem pe_lst (h : PA X es t) : PE X (.List es pos) (tLst t) := by
 refine .mk ?_
 intro pins s σ H Q I hq
 refine wpAny_List_spliced (thn (h pos pins s σ H _ I hq) fun us s1 ⟨xs, H1, I1, r, z, q⟩ => ⟨by rw [← r.length]; exact z, ?_⟩)
 have hf : H1 s1.heap.objs.size = none := I1.hok.fresh (Nat.le_refl _)
 refine ⟨.ref s1.heap.objs.size, upd H1 s1.heap.objs.size (.lst xs), I1.laid (t' := s1.toks) (fun b u e => Heap.get?_push_of_some _ e) (Nat.le_refl _) ?_, rfl, q _ hf⟩
 exact ⟨z, us, 0, r, Heap.get?_push_size _ rfl⟩
end
abbrev Sp := List V → Hp → VK → XK → Prop
abbrev CXT := List Env → Hp → Shared → XK → Value → Shared → Prop
structure Env0 (P : Program) (w : World) (K : PySem.W.Frag) (mg : Str → Option Value) (base : Heap) (A : Around) (outer : List Env) (s : Shared) (H : Hp) : Prop where
 frames : A.frames = some outer
 mod : Mod K mg base
 bs : ∀ b o, base.get? b = some o → s.heap.get? b = some o ∧ H b = none
 bsz : base.objs.size ≤ s.heap.objs.size
 funs : s.heap.FunFrames base outer
 frf : ∀ b ∈ frs outer, H b = none
 hok : HOk P w H s.heap
 bare : AllBare s.gens
def CE (outer : List Env) (P : Program) (w : World) (H : Hp) (s : Shared) (Q : VK) (u : Value) (s' : Shared) : Prop :=
 ∃ v H', s'.os = s.os ∧ AllBare s'.gens ∧ Un (frs outer) [] H H' s.heap s'.heap ∧ HOk P w H' s'.heap ∧ RelV v u ∧ Q v H'
def CR (CX : CXT) (outer : List Env) (P : Program) (w : World) (H : Hp) (s : Shared) (Q : VK) (E : XK) (r : Result) (s' : Shared) : Prop :=
 match r with
 | .ok (.ret u) => CE outer P w H s Q u s'
 | .ok _ => False
 | .error e => CX outer H s E e s'
structure FnOk (P : Program) (w : World) (K : PySem.W.Frag) (mg : Str → Option Value) (base : Heap) (CX : CXT) (k : Nat) (f : Addr) (fd : FuncData) (ps : List Str) (sp : Sp) : Prop where
 len : ∀ vs H Q E, sp vs H Q E → vs.length = ps.length
 run : ∀ (A : Around) (outer : List Env) (s : Shared) (H : Hp) (args : Args) (us : List Value) (vs : List V) (Q : VK) (E : XK), Room k A → Env0 P w K mg base A outer s H → BindsTo s fd args (ps.zip us) → Vals vs us → sp vs H Q E →
  codeAny (model P w) A (.call (.ref f) args) (CR CX outer P w H s Q E) s
theorem FnOk.mono {P : Program} {w : World} {K : PySem.W.Frag} {mg : Str → Option Value} {base : Heap} {CX : CXT} {j k : Nat} {f : Addr} {fd : FuncData} {ps : List Str} {sp : Sp} (F : FnOk P w K mg base CX j f fd ps sp) (h : j ≤ k) :
  FnOk P w K mg base CX k f fd ps sp := ⟨F.len, fun A outer s H args us vs Q E hr => F.run A outer s H args us vs Q E (hr.mono h)⟩
theorem FnOk.imp {P : Program} {w : World} {K : PySem.W.Frag} {mg : Str → Option Value} {base : Heap} {CX : CXT} {k : Nat} {f : Addr} {fd : FuncData} {ps : List Str} {sp sp' : Sp} (F : FnOk P w K mg base CX k f fd ps sp)
  (h : ∀ vs H Q E, sp' vs H Q E → sp vs H Q E) : FnOk P w K mg base CX k f fd ps sp' :=
 ⟨fun vs H Q E q => F.len vs H Q E (h _ _ _ _ q), fun A outer s H args us vs Q E hr he hb hv hs => F.run A outer s H args us vs Q E hr he hb hv (h _ _ _ _ hs)⟩
theorem Env0.make {P : Program} {w : World} {K : PySem.W.Frag} {mg : Str → Option Value} {base : Heap} {A : Around} {outer : List Env} {s : Shared} {H : Hp} (e : Env0 P w K mg base A outer s H) (C : Addr) (us : List Value) (kw : List (Str × Value)) :
  Env0 P w K mg base (A.under (.builtin "type.__call__" ⟨.ref C :: us, kw⟩)) outer s H := ⟨by first | exact e.frames | (simpa [Around.under, Code.envs, Code.isFrame, pushEnvs] using e.frames), e.mod, e.bs, e.bsz, e.funs, e.frf, e.hok, e.bare⟩
theorem Env0.in1 {P : Program} {w : World} {K : PySem.W.Frag} {mg : Str → Option Value} {base : Heap} {A : Around} {outer : List Env} {s : Shared} {H : Hp} (e : Env0 P w K mg base A outer s H) :
  Env0 P w K mg base A.in1 outer s H := ⟨e.frames, e.mod, e.bs, e.bsz, e.funs, e.frf, e.hok, e.bare⟩
section
variable {X : Cx} {pins : List (Addr × Obj)} {σ : St} {H : Hp} {s s' : Shared}
theorem Inv.env0 (I : Inv X pins σ H s) : Env0 X.prog X.w X.K X.mg X.base X.A X.stack s H :=
 ⟨I.ok.frames, I.ok.mod, I.bs, Nat.le_trans I.ok.bsz I.sz, I.stack, I.stkFree, I.hok, I.bare⟩
theorem Inv.after {Q : VK} {u : Value} (I : Inv X pins σ H s) (h : CE X.stack X.prog X.w H s Q u s') : EP X pins σ Q u s' := by
 obtain ⟨v, H', os, bare, un, hok, r, q⟩ := h
 obtain ⟨hh, g, d, t, os'⟩ := s'
 obtain rfl : os' = s.os := os
 exact ⟨v, H', I.call (h' := hh) (g' := g) (d' := d) (t' := t) (ch := []) un hok bare (fun b z => absurd z (by simp)), r, q⟩
end
def tCall (sp : Sp) (dvs : List V) (E : XK) (t : TA) : TE := fun σ H Q => t σ H fun vs H1 => sp (vs ++ dvs) H1 Q E
def Binds (K : PySem.W.Frag) (fd : FuncData) (ps : List Str) (ds : List Value) : Prop :=
 ∀ (s : Shared) (us : List Value), K.In s.heap → (us ++ ds).length = ps.length → BindsTo s fd ⟨us, []⟩ (ps.zip (us ++ ds))
theorem Binds.all {K : PySem.W.Frag} {fd : FuncData} {ps : List Str} (h : ∀ us : List Value, us.length = ps.length → bindArgs fd ⟨us, []⟩ = pure (ps.zip us)) : Binds K fd ps [] := fun s us _ hl => by
 rw [List.append_nil] at hl ⊢
 exact .of_eq (h us hl)
def Passes (CX : CXT) (X : Cx) (E : XK) : Prop := ∀ (pins : List (Addr × Obj)) (σ : St) (H : Hp) (s : Shared) (e : Value) (s' : Shared), Inv X pins σ H s → CX X.stack H s E e s' → X.xe e s'
section
variable {X : Cx} {CX : CXT} {k : Nat} {f C : Addr} {fd : FuncData} {ps : List Str} {sp : Sp} {dvs : List V} {ds : List Value} {E : XK} {x m : Str} {p pos apos : Pos} {e o : Expr} {es : List Expr} {ta : TE} {t : TA}
theorem run_fn {pins : List (Addr × Obj)} {σ : St} {H : Hp} {s : Shared} {Q : VK} {us : List Value} {vs : List V} (F : FnOk X.prog X.w X.K X.mg X.base CX k f fd ps sp) (hr : Room k X.A) (hb : Binds X.K fd ps ds) (hd : Vals dvs ds) (hx : Passes CX X E)
  (I : Inv X pins σ H s) (r : Vals vs us) (h : sp (vs ++ dvs) H Q E) : wpAny (model X.prog X.w) X.A (call (.ref f) us) (EP X pins σ Q) X.xe s := by
 have r2 : Vals (vs ++ dvs) (us ++ ds) := r.append hd
 have hl : (us ++ ds).length = ps.length := by rw [← r2.length]; exact F.len _ _ _ _ h
 refine wpAny_call (codeAny_mono (F.run X.A X.stack s H ⟨us, []⟩ (us ++ ds) (vs ++ dvs) Q E hr I.env0 (hb s us I.kIn hl) r2 h) fun r s' hq => ?_)
 cases r with
 | error e => exact hx pins σ H s e s' I hq
 | ok fl =>
  cases fl with
  | ret u => exact I.after hq
  | next => exact False.elim hq
  | brk => exact False.elim hq
  | cont => exact False.elim hq
theorem pe_call (F : FnOk X.prog X.w X.K X.mg X.base CX k f fd ps sp) (hr : Room k X.A) (hg : Gl X x) (hm : X.mg x = some (.ref f)) (hk : PySem.W.keepIn X.K (.ref f) = true) (hb : Binds X.K fd ps ds) (hd : Vals dvs ds) (hx : Passes CX X E)
  (ha : PA X (e :: es) t) (hdb : (x == ("__debug__" : Str)) = false := by decide) (he : starEach (e :: es) X.env = (false, eval e X.env) :: starEach es X.env := by rfl) (hpl : (backTo pos (starEach es X.env)).any (·.1) = false := by rfl) :
  PE X (.Call (.Name x p) (e :: es) [] pos) (tCall sp dvs E t) := by
 refine .mk ?_
 intro pins s σ H Q I h
 refine wpAny_Call_Name_kw (ld_glob I hg hm ?_ hdb)
 refine PySem.W.callWith_K (h₀ := X.base) I.ok.mod.kin hk (thn (ha pos pins s σ H _ I h) fun us s1 ⟨vs, H1, I1, r, q⟩ => ⟨I1.kIn, ?_⟩) he hpl
 exact run_fn F hr hb hd hx I1 r q
end
structure PK (X : Cx) (kws : List Keyword) (t : TA) : Prop where
 run : ∀ (pos : Pos) (pins : List (Addr × Obj)) (s : Shared) (σ : St) (H : Hp) (Q : List V → Hp → Prop), Inv X pins σ H s → t σ H Q → wpAny (model X.prog X.w) X.A (evalAll ((backToKw pos (keywordEach kws X.env)).map (·.2))) (AP X pins σ Q) X.xe s
instance {X : Cx} {kws : List Keyword} {t : TA} : CoeFun (PK X kws t) fun _ => ∀ (pos : Pos) (pins : List (Addr × Obj)) (s : Shared) (σ : St) (H : Hp) (Q : List V → Hp → Prop), Inv X pins σ H s → t σ H Q → wpAny (model X.prog X.w) X.A (evalAll ((backToKw pos (keywordEach kws X.env)).map (·.2))) (AP X pins σ Q) X.xe s := ⟨PK.run⟩
section
variable {X : Cx} {CX : CXT} {k : Nat} {f C : Addr} {fd : FuncData} {ps ks : List Str} {sp : Sp} {E : XK} {x m : Str} {p pos apos kpos : Pos} {e o : Expr} {es : List Expr} {kws : List Keyword} {te ta : TE} {t tk : TA} {nm : Option Str}
variable {g : List Value → List Value → List Value} {gV : List V → List V → List V}
end
structure FnScope (N P : List Str) (sc : Scope) : Prop where
 kind : sc.kind = .function
 co : sc.isCoroutine = false
 gen : sc.isGenerator = false
 nd : N.Nodup
 pre : N.take P.length = P
 par : ∀ x ∈ P, sc.names.lookup x = some .local ∨ sc.names.lookup x = some .cell
 nofree : ∀ y ∈ sc.names, y.2 ≠ .free
theorem bindL_out {kindOf : Str → Option NameKind} {x : Str} : ∀ {binds : List (Str × Value)} {m : Str → Option Value}, (∀ v, (x, v) ∉ binds) → bindL kindOf binds m x = m x
 | [], _, _ => rfl
 | (n, v) :: r, m, h => by
  unfold bindL
  rw [bindL_out fun w hw => h w (List.mem_cons_of_mem _ hw)]
  split
  ·have : x ≠ n := by rintro rfl; exact h v List.mem_cons_self
   simp [this]
  ·rfl
theorem bindC_out {kindOf : Str → Option NameKind} {x : Str} : ∀ {binds : List (Str × Value)} {m : Str → Option Value}, (∀ v, (x, v) ∉ binds) → bindC kindOf binds m x = m x
 | [], _, _ => rfl
 | (n, v) :: r, m, h => by
  unfold bindC
  rw [bindC_out fun w hw => h w (List.mem_cons_of_mem _ hw)]
  split
  ·rfl
  ·have : x ≠ n := by rintro rfl; exact h v List.mem_cons_self
   simp [this]
theorem bindL_get {kindOf : Str → Option NameKind} {x : Str} {v : Value} : ∀ {P : List Str} {vs : List Value} {i : Nat} {m : Str → Option Value}, P.Nodup → P[i]? = some x → vs[i]? = some v → kindOf x = some .local →
  bindL kindOf (P.zip vs) m x = some v
 | [], _, _, _, _, h, _, _ => by simp at h
 | _ :: _, [], _, _, _, _, h, _ => by simp at h
 | p :: P, w :: vs, 0, m, nd, h1, h2, hk => by
  simp at h1 h2; subst h1; subst h2
  show bindL kindOf ((p, w) :: P.zip vs) m p = _
  unfold bindL
  rw [bindL_out fun v hv => (List.nodup_cons.mp nd).1 (List.of_mem_zip hv).1, if_pos hk]
  simp
 | p :: P, w :: vs, i + 1, m, nd, h1, h2, hk => by
  show bindL kindOf ((p, w) :: P.zip vs) m x = _
  unfold bindL
  exact bindL_get (i := i) (List.nodup_cons.mp nd).2 (by simpa using h1) (by simpa using h2) hk
theorem bindC_get {kindOf : Str → Option NameKind} {x : Str} {v : Value} : ∀ {P : List Str} {vs : List Value} {i : Nat} {m : Str → Option Value}, P.Nodup → P[i]? = some x → vs[i]? = some v → kindOf x ≠ some .local →
  bindC kindOf (P.zip vs) m x = some v
 | [], _, _, _, _, h, _, _ => by simp at h
 | _ :: _, [], _, _, _, _, h, _ => by simp at h
 | p :: P, w :: vs, 0, m, nd, h1, h2, hk => by
  simp at h1 h2; subst h1; subst h2
  show bindC kindOf ((p, w) :: P.zip vs) m p = _
  unfold bindC
  rw [bindC_out fun v hv => (List.nodup_cons.mp nd).1 (List.of_mem_zip hv).1, if_neg hk]
  simp
 | p :: P, w :: vs, i + 1, m, nd, h1, h2, hk => by
  show bindC kindOf ((p, w) :: P.zip vs) m x = _
  unfold bindC
  exact bindC_get (i := i) (List.nodup_cons.mp nd).2 (by simpa using h1) (by simpa using h2) hk
def start (N : List Str) (vs : List V) : St := vs.map some ++ List.replicate (N.length - vs.length) none
def cxOf (CX : CXT) (P : Program) (w : World) (K : PySem.W.Frag) (mg : Str → Option Value) (base : Heap) (N : List Str) (qual : Str) (scope : Scope) (f : Addr) (cd : Value) (A : Around) (outer : List Env) (s : Shared) (H : Hp) (E : XK) : Cx where
 prog := P
 w := w
 K := K
 mg := mg
 base := base
 A := A.deeper (envOfC qual scope s.heap.objs.size f cd)
 N := N
 s₀ := s
 H₀ := H
 env := envOfC qual scope s.heap.objs.size f cd
 outer := outer
 stack := envOfC qual scope s.heap.objs.size f cd :: outer
 ex := []
 calm := true
 fn := fun _ => true
 pn := []
 xe := fun e s' => wpAny (model P w) (A.deeper (envOfC qual scope s.heap.objs.size f cd)) (leaving (envOfC qual scope s.heap.objs.size f cd) e) (fun _ s'' => CX outer H s E e s'') (fun e' s'' => CX outer H s E e' s'') s'
theorem cell_has {sc : Scope} {n : Nat} {x : Str} (h : sc.names.lookup x = some .cell) : ∃ c, (cellsFrom n sc.names []).lookup x = some c := by
 have q := PySem.W.cellsFrom_some sc.names n [] (.inl h)
 exact Option.isSome_iff_exists.mp q
theorem inv_start {CX : CXT} {P : Program} {w : World} {K : PySem.W.Frag} {mg : Str → Option Value} {base : Heap} {N ps : List Str} {qual : Str} {scope : Scope} {f : Addr} {cd : Value} {A : Around} {outer : List Env} {s s1 : Shared} {H : Hp} {E : XK} {us : List Value} {vs : List V}
  (S : FnScope N ps scope) (hd : A.handled = none) (e0 : Env0 P w K mg base A outer s H) (hl : vs.length = ps.length) (r : Vals vs us)
  (x : InCallC s s.heap.objs.size (bindL (envOfC qual scope s.heap.objs.size f cd).kindOf (ps.zip us) fun _ => none) (cellsFrom (s.heap.objs.size + 1) scope.names []) (bindC (envOfC qual scope s.heap.objs.size f cd).kindOf (ps.zip us) fun _ => none) s1) :
  Inv (cxOf CX P w K mg base N qual scope f cd A outer s H E) [] (start N vs) H s1 := by
 have hpl : ps.length ≤ N.length := by have := congrArg List.length S.pre; rw [List.length_take] at this; omega
 obtain ⟨h1, tk, rfl, hk⟩ := x.done
 have noA : ∀ b : Addr, b ∉ (cxOf CX P w K mg base N qual scope f cd A outer s H E).ex := fun b z => absurd (show b ∈ ([] : List Addr) from z) (by simp)
 refine ⟨⟨e0.mod, S.kind, rfl, rfl, Nat.le_refl _, fun y z c h1 h2 => ?_, fun y hy => ?_, fun y c _ h => ?_, fun _ => hd, Around.frames_deeper e0.frames, .inr ⟨rfl, rfl⟩, fun b z => absurd z (noA b), e0.bs, e0.bsz, fun b _ _ => noA b, fun b z => absurd z (noA b), e0.funs, e0.frf⟩,
  rfl, e0.bare, Un.kept hk, ⟨_, x.toInCall.ns, fun i y v h1 h2 h3 => ?_⟩, fun y c h => ⟨_, x.cell y c h⟩, e0.hok.fresh (Nat.le_refl _), fun y c h => ?_, fun p hp => absurd (show p ∈ ([] : List (Addr × Obj)) from hp) (by simp), e0.hok.kept hk, ?_⟩
 ·exact name_of_addr x.apart (PySem.mem_of_lookup h1) (PySem.mem_of_lookup h2)
 ·have hy : scope.names.lookup y = some .cell ∨ scope.names.lookup y = some .free := hy
  rcases hy with hy | hy
  ·exact cell_has hy
  ·exact absurd rfl (S.nofree _ (PySem.mem_of_lookup hy))
 ·exact Nat.le_of_lt (x.above y c (PySem.mem_of_lookup h))
 ·have hi : i < vs.length := by
   unfold start at h2
   by_cases hi : i < vs.length
   ·exact hi
   ·rw [List.getElem?_append_right (by simpa using hi)] at h2
    rw [List.getElem?_replicate] at h2
    split at h2 <;> cases h2
  have ha : vs[i]? = some v := by
   unfold start at h2
   rw [List.getElem?_append_left (by simpa using hi), List.getElem?_map] at h2
   cases e : vs[i]? with
   | none => rw [e] at h2; cases h2
   | some a => rw [e] at h2; cases h2; rfl
  obtain ⟨u, hu, rv⟩ := r.get ha
  have hp : ps[i]? = some y := by
   rw [← S.pre, List.getElem?_take_of_lt (by omega)]; exact h1
  have ndP : ps.Nodup := by rw [← S.pre]; exact S.nd.sublist (List.take_sublist _ _)
  refine ⟨u, rv, ?_⟩
  rcases S.par y (List.mem_of_getElem? hp) with k | k
  ·exact .inl ⟨k, bindL_get ndP hp hu k⟩
  ·obtain ⟨c, e⟩ := cell_has (n := s.heap.objs.size + 1) k
   refine .inr ⟨.inl k, c, e, ?_⟩
   have q := x.cell y c e
   rw [bindC_get ndP hp hu (by show scope.names.lookup y ≠ _; rw [k]; decide)] at q
   exact q
 ·exact e0.hok.fresh (Nat.le_of_lt (x.above y c (PySem.mem_of_lookup h)))
 ·unfold start
  show _ = N.length
  rw [List.length_append, List.length_map, List.length_replicate]
  omega
theorem fn_of {CX : CXT} {P : Program} {w : World} {K : PySem.W.Frag} {mg : Str → Option Value} {base : Heap} {k : Nat} {f : Addr} {name qual : Str} {params : Arguments} {body : List Stmt} {scope : Scope} {dV kV doc pm cdv ct oc : Value} {an od : Option Addr}
  {osl : Array (Option Value)} {N ps : List Str} {sp : Sp} (lk : K.lookup f = some ⟨oc, od, .func (PySem.W.fnOf name qual params body scope dV kV doc pm an cdv ct), osl⟩) (hcd : PySem.W.codeIn K cdv qual = true) (S : FnScope N ps scope)
  (len : ∀ vs H Q E, sp vs H Q E → vs.length = ps.length)
  (hbody : ∀ (A : Around) (outer : List Env) (s : Shared) (H : Hp) (vs : List V) (Q : VK) (E : XK), Room k (A.deeper (envOfC qual scope s.heap.objs.size f cdv)) → sp vs H Q E →
   ∃ t, PSs (cxOf CX P w K mg base N qual scope f cdv A outer s H E) body t ∧ t { nx := fun _ H' => Q .non H', rt := Q } (start N vs) H) :
  FnOk P w K mg base CX (k + 1) f (PySem.W.fnOf name qual params body scope dV kV doc pm an cdv ct) ps sp := by
 refine ⟨len, fun A outer s H args us vs Q E hr e0 hb r hsp => ?_⟩
 have hl := len _ _ _ _ hsp
 have KX : K.In s.heap := e0.mod.kin.keeps fun b o e => (e0.bs b o e).1
 have lim : s.heap.NoLimit := e0.mod.nolimit.keeps fun b o e => (e0.bs b o e).1
 have hkind : ∀ y ∈ ps.zip us, scope.names.lookup y.1 = some .local ∨ (scope.names.lookup y.1 = some .cell ∧ ((cellsFrom (s.heap.objs.size + 1) scope.names []).lookup y.1).isSome = true) := fun ⟨n, v⟩ hy => by
  rcases S.par n (List.of_mem_zip hy).1 with q | q
  ·exact .inl q
  ·exact .inr ⟨q, PySem.W.cellsFrom_some _ _ _ (.inl q)⟩
 refine codeAny_call_function hr.depth (KX _ _ lk) rfl S.co S.gen rfl (PySem.W.codeRec_of KX hcd) (hb _ _ _ _ ?_)
 refine wpAny_newFunctionEnv_cells S.kind hkind fun env he s1 x => ?_
 subst he
 refine ⟨lim.keeps x.toInCall.keep, codeAny_func ?_⟩
 obtain ⟨t, ht, hq⟩ := hbody A outer s H vs Q E (hr.deeper _) hsp
 have I : Inv (cxOf CX P w K mg base N qual scope f cdv A outer s H E) [] (start N vs) H s1 := inv_start S hr.hd e0 hl r x
 refine wpAny_mono (ht [] s1 (start N vs) H _ I hq) (fun fl s' hs => ?_) fun e s' hs => hs
 have fin : ∀ {σ' : St} {H' : Hp} {v : V} {u : Value}, Inv (cxOf CX P w K mg base N qual scope f cdv A outer s H E) [] σ' H' s' → RelV v u → Q v H' → CE outer P w H s Q u s' :=
  fun {σ' H' v u} J rv q => ⟨v, H', J.os, J.bare, J.base, J.hok, rv, q⟩
 cases fl with
 | ret u =>
  obtain ⟨v, σ', H', J, rv, q⟩ := hs
  exact fin J rv q
 | next =>
  obtain ⟨σ', H', J, q⟩ := hs
  exact fin (v := V.non) (u := Value.none) J rfl q
 | brk =>
  obtain ⟨_, _, _, q⟩ := hs
  exact False.elim q
 | cont =>
  obtain ⟨_, _, _, q⟩ := hs
  exact False.elim q
end L2
namespace L2
open PySem PySem.Spec PyProof.Rows
section
variable {X : Cx} {x : Str} {p pos : Pos} {e : Expr} {es : List Expr} {t : TA} {id T : String} {r : List V → Hp → VK → Prop}
def tCB (r : List V → Hp → VK → Prop) (t : TA) : TE := fun σ H Q => t σ H fun vs H1 => r vs H1 Q
theorem pe_callB (hc : CallR X (.builtin id) r) (hg : Gl X x) (hm : X.mg x = none) (hv : bootBuiltins x = some (.builtin id)) (ha : PA X (e :: es) t) (hn : x ≠ "__name__" := by decide) (hdb : (x == ("__debug__" : Str)) = false := by decide)
  (he : starEach (e :: es) X.env = (false, eval e X.env) :: starEach es X.env := by rfl) (hpl : (backTo pos (starEach es X.env)).any (·.1) = false := by rfl) : PE X (.Call (.Name x p) (e :: es) [] pos) (tCB r t) := by
 refine .mk ?_
 intro pins s σ H Q I h
 refine wpAny_Call_Name_kw (ld_blt I hg hm hv ?_ hn hdb)
 exact PyProof.Rows.callWith_builtin1 (thn (ha pos pins s σ H _ I h) fun us s1 ⟨vs, H1, I1, r1, q1⟩ => hc pins s1 σ H1 vs us Q I1 r1 q1) he hpl
theorem pe_callTy (hc : CallR X (.type T) r) (hg : Gl X x) (hm : X.mg x = none) (hv : bootBuiltins x = some (.type T)) (ha : PA X (e :: es) t) (hn : x ≠ "__name__" := by decide) (hdb : (x == ("__debug__" : Str)) = false := by decide)
  (he : starEach (e :: es) X.env = (false, eval e X.env) :: starEach es X.env := by rfl) (hpl : (backTo pos (starEach es X.env)).any (·.1) = false := by rfl) : PE X (.Call (.Name x p) (e :: es) [] pos) (tCB r t) := by
 refine .mk ?_
 intro pins s σ H Q I h
 refine wpAny_Call_Name_kw (ld_blt I hg hm hv ?_ hn hdb)
 exact PyProof.Rows.callWith_type1 (thn (ha pos pins s σ H _ I h) fun us s1 ⟨vs, H1, I1, r1, q1⟩ => hc pins s1 σ H1 vs us Q I1 r1 q1) he hpl
end
end L2
namespace HT
open PySem PyProof.Rows
section
open PySem.SeqAt
open PySem.AutoSeq1 (wpAny_loadPart')
open PySem.MeetsSeq PySem.MeetsSeq2 PySem.MeetsSeq3
end
section
variable {prog : Program} {w : World} {A : Around} {E : Value → Shared → Prop} {s : Shared}
theorem cat_tup {t b : Addr} {vs ws : List Value} {Q : Value → Shared → Prop} (ht : IsTup s.heap t vs.toArray) (hb : IsTup s.heap b ws.toArray) (hv : vs ≠ [])
  (h1 : ws = [] → Q (.ref t) s) (h2 : ws ≠ [] → Q (.ref s.heap.objs.size) { s with heap := s.heap.push { cls := .type "tuple", data := .seq (vs ++ ws).toArray } })
  (hsz : vs.length + ws.length ≤ sizeLine) : wpAny (model prog w) A (binaryOp .Add (.ref t) (.ref b)) Q E s := by
 obtain ⟨⟨cls, dd, data, sl⟩, ho, hc, n, hd⟩ := id ht
 obtain ⟨⟨cls2, dd2, data2, sl2⟩, ho2, hc2, n2, hd2⟩ := id hb
 simp only at hc hd hc2 hd2
 subst hc hd hc2 hd2
 have e : vs.toArray ++ ws.toArray = (vs ++ ws).toArray := by simp
 by_cases hw : ws = []
 ·exact concat_meets ⟨_, ho, rfl⟩ ⟨_, ho2, rfl⟩ noFill_tuple_add seq_tuple_add PySem.F.slot_tuple_add PySem.F.entry_tuple_add (PySem.F.args_tuple_add_2 _ _)
   (tuple_addW1 t b vs.toArray ws.toArray n n2 dd dd2 sl sl2 (by simpa using hv) (by simp [hw])) ⟨ho, ho2, h1 hw⟩
 ·refine concat_meets ⟨_, ho, rfl⟩ ⟨_, ho2, rfl⟩ noFill_tuple_add seq_tuple_add PySem.F.slot_tuple_add PySem.F.entry_tuple_add (PySem.F.args_tuple_add_2 _ _)
   (tuple_addW2 t b vs.toArray ws.toArray n n2 dd dd2 sl sl2 (by simpa using hv) (by simpa using hw) (by rw [List.size_toArray, List.size_toArray]; exact hsz)) ⟨ho, ho2, ?_⟩
  rw [e]
  exact h2 hw
def sIx (n d : Nat) : Option Int → Nat
 | none => d
 | some v => if v < 0 then (v + (n : Int)).toNat else min v.toNat n
theorem sIx_none (n d : Nat) : sIx n d none = d := rfl
theorem sIx_le (n d : Nat) (hd : d ≤ n) (o : Option Int) : sIx n d o ≤ n := by
 cases o with
 | none => exact hd
 | some v =>
  show (if v < 0 then (v + (n : Int)).toNat else min v.toNat n) ≤ n
  by_cases hv : v < 0
  ·rw [if_pos hv]; omega
  ·rw [if_neg hv]; exact Nat.min_le_right _ _
theorem clip_eq (v : Int) (n d : Nat) : (if v < 0 then max (v + (n : Int)) 0 else min v (n : Int)) = ((sIx n d (some v) : Nat) : Int) := by
 show (if v < 0 then max (v + (n : Int)) 0 else min v (n : Int)) = (((if v < 0 then (v + (n : Int)).toNat else min v.toNat n) : Nat) : Int)
 by_cases hv : v < 0
 ·simp only [if_pos hv]; omega
 ·simp only [if_neg hv]; omega
theorem adjust_gen (lo hi : Option Int) (n : Nat) : Builtin.Slice.sliceAdjust lo hi 1 (n : Int) = (((sIx n 0 lo : Nat) : Int), ((sIx n n hi : Nat) : Int)) := by
 have h1 : ¬ ((1 : Int) < 0) := by omega
 unfold Builtin.Slice.sliceAdjust
 simp only [h1, if_false]
 refine Prod.ext ?_ ?_
 ·cases lo with
  | none => rfl
  | some v => exact clip_eq v n 0
 ·cases hi with
  | none => rfl
  | some v => exact clip_eq v n n
theorem places_gen (i j : Nat) : Builtin.Slice.slicePlaces (i : Int) (j : Int) 1 = j - i := by
 unfold Builtin.Slice.slicePlaces
 have h1 : (1 : Int) > 0 := by omega
 simp only [h1, if_true, Int.ediv_one]
 split <;> omega
theorem slicePart_ {v : Value} {o : Option Int} {Q : Option Int → Shared → Prop} (p : IsPart v o) (h : Q o s) : wpAny (model prog w) A (Builtin.Slice.slicePartIndex v) Q E s := by
 cases p with
 | none => exact slicePart_none h
 | int i t => exact slicePart_int h
theorem sliceApplied_gen {sl : Addr} {vl vu : Value} {lo hi : Option Int} {n : Nat} {Q : Int × Int × Nat → Shared → Prop} (hs : s.heap.IsSliceOf sl vl vu .none) (pl : IsPart vl lo) (pu : IsPart vu hi)
  (h : Q (((sIx n 0 lo : Nat) : Int), 1, sIx n n hi - sIx n 0 lo) s) : wpAny (model prog w) A (Builtin.Slice.sliceApplied (.ref sl) (pure (n : Int))) Q E s := by
 obtain ⟨os, hos, hcs, hds⟩ := id hs
 unfold Builtin.Slice.sliceApplied Builtin.Slice.sliceFields
 refine wpAny_bind (wpAny_bind (wpAny_field hos hds (x := vl) rfl (wpAny_bind (wpAny_field hos hds (x := vu) rfl (wpAny_bind (wpAny_field hos hds (x := .none) rfl (wpAny_pure ?_)))))))
 refine wpAny_bind (slicePart_none ?_)
 show wpAny _ _ (if ((1 : Int) == 0) = true then _ else _) _ _ s
 rw [if_neg (by decide)]
 refine wpAny_bind (slicePart_ pl (wpAny_bind (slicePart_ pu (wpAny_bind (wpAny_pure ?_)))))
 show wpAny _ _ (match Builtin.Slice.sliceAdjust lo hi 1 (n : Int) with | (lo, hi) => pure (lo, (1 : Int), Builtin.Slice.slicePlaces lo hi 1)) _ _ s
 rw [adjust_gen lo hi n]
 show wpAny _ _ (pure (((sIx n 0 lo : Nat) : Int), (1 : Int), Builtin.Slice.slicePlaces ((sIx n 0 lo : Nat) : Int) ((sIx n n hi : Nat) : Int) 1)) _ _ s
 rw [places_gen]
 exact wpAny_pure h
theorem pick_gen (xs : Array Value) (i k : Nat) : ((List.range k).filterMap fun (m : Nat) => xs[((i : Int) + (m : Int) * 1).toNat]?).toArray = ((xs.toList.drop i).take k).toArray := by
 have e : (fun (m : Nat) => xs[((i : Int) + (m : Int) * 1).toNat]?) = fun m => xs[i + m]? := by
  funext m
  have : ((i : Int) + (m : Int) * 1).toNat = i + m := by omega
  rw [this]
 rw [e]
 have := pick_run xs i k
 rw [List.filterMap_map] at this
 have e2 : ((fun x => xs[x]?) ∘ fun x => i + x) = fun m => xs[i + m]? := rfl
 rw [e2] at this
 rw [this]
theorem getItem_tuple_cut {t sl : Addr} {items : Array Value} {vl vu : Value} {lo hi : Option Int} {Q : Value → Shared → Prop} (ht : IsTup s.heap t items) (hs : s.heap.IsSliceOf sl vl vu .none) (pl : IsPart vl lo) (pu : IsPart vu hi)
  (hw : ¬ (sIx items.size 0 lo = 0 ∧ sIx items.size items.size hi = items.size))
  (h : Q (.ref s.heap.objs.size) { s with heap := s.heap.push { cls := .type "tuple", data := .seq ((items.toList.drop (sIx items.size 0 lo)).take (sIx items.size items.size hi - sIx items.size 0 lo)).toArray } })
  (hsz : items.size ≤ sizeLine) : wpAny (model prog w) A (getItem (.ref t) (.ref sl)) Q E s := by
 have htake : sizeOk (.seq ((items.toList.drop (sIx items.size 0 lo)).take (sIx items.size items.size hi - sIx items.size 0 lo)).toArray) := by
  show ((items.toList.drop (sIx items.size 0 lo)).take (sIx items.size items.size hi - sIx items.size 0 lo)).toArray.size ≤ sizeLine
  rw [List.size_toArray, List.length_take, List.length_drop, Array.length_toList]
  omega
 have hj : sIx items.size items.size hi ≤ items.size := sIx_le _ _ (Nat.le_refl _) hi
 obtain ⟨os, hos, hcs, hds⟩ := id hs
 have hTs : s.TypeIs (.ref sl) "slice" := ⟨os, hos, hcs⟩
 unfold getItem
 try with_reducible refine wpAny_holding ?_
 first | refine wpAny_bind (wpAny_pure ?_) | skip
 refine wpAny_bind (wpAny_sequenceKey ht.typeIs (by decide) ?_)
 refine wpAny_bind (wpAny_callSpecial?_slot (name := Str.ofString "__getitem__") ht.typeIs PyProof.Rows.slot_tuple_getitem
  (wpAny_call_entry PyProof.Rows.slot_tuple_getitem ht.typeIs entry_tuple_getitem ?_ (args_tuple_getitem _ _)))
 show wpAny _ _ (Builtin.Tuple.tupleItemsOf (.ref t) >>= _) _ _ s
 refine wpAny_bind (tupleItemsOf_ ht ?_)
 refine wpAny_bind (wpAny_typeOf hTs ?_)
 rw [if_pos (by decide)]
 refine wpAny_bind (sliceApplied_gen hs pl pu ?_)
 have hno : ¬ ((((sIx items.size 0 lo : Nat) : Int) == 0 && (1 : Int) == 1 && (sIx items.size items.size hi - sIx items.size 0 lo) == items.size) = true) := by
  intro q
  rw [Bool.and_eq_true, Bool.and_eq_true] at q
  have q1 : ((sIx items.size 0 lo : Nat) : Int) = 0 := eq_of_beq q.1.1
  have q2 : sIx items.size items.size hi - sIx items.size 0 lo = items.size := eq_of_beq q.2
  exact hw ⟨by omega, by omega⟩
 show wpAny _ _ (if (((sIx items.size 0 lo : Nat) : Int) == 0 && (1 : Int) == 1 && (sIx items.size items.size hi - sIx items.size 0 lo) == items.size) = true then _ else _) _ _ s
 rw [if_neg hno, pick_gen]
 first
  | exact wpAny_bind (m := Builtin.Tuple.tupleExact _) (wpAny_newObj_type (wpAny_pure ⟨_, rfl, wpAny_pure h⟩) htake)
  | exact wpAny_bind (m := Builtin.Tuple.tupleExact _) (wpAny_newObj_type (wpAny_bind (wpAny_pure (wpAny_pure ⟨_, rfl, wpAny_pure h⟩))) htake)
  | exact wpAny_bind (wpAny_bind (m := Builtin.Tuple.tupleExact _) (wpAny_newObj_type (wpAny_pure (wpAny_pure ⟨_, rfl, wpAny_pure h⟩)) htake))
  | exact wpAny_bind (wpAny_bind (m := Builtin.Tuple.tupleExact _) (wpAny_newObj_type (wpAny_pure ⟨_, rfl, wpAny_pure h⟩) htake))
end
end HT
namespace L2
open PySem PySem.Spec PyProof.Rows
abbrev TO := St → Hp → (Option Int → Hp → Prop) → Prop
structure PO (X : Cx) (e : Option Expr) (t : TO) : Prop where
 run : ∀ (pins : List (Addr × Obj)) (s : Shared) (σ : St) (H : Hp) (Q : Option Int → Hp → Prop), Inv X pins σ H s → t σ H Q →
  wpAny (model X.prog X.w) X.A (evalPart e X.env) (fun u s' => ∃ o H', Inv X pins σ H' s' ∧ IsPart u o ∧ Q o H') X.xe s
instance {X : Cx} {e : Option Expr} {t : TO} : CoeFun (PO X e t) fun _ => ∀ (pins : List (Addr × Obj)) (s : Shared) (σ : St) (H : Hp) (Q : Option Int → Hp → Prop), Inv X pins σ H s → t σ H Q → wpAny (model X.prog X.w) X.A (evalPart e X.env) (fun u s' => ∃ o H', Inv X pins σ H' s' ∧ IsPart u o ∧ Q o H') X.xe s := ⟨PO.run⟩
def tNoPart : TO := fun _ H Q => Q none H
def tPart (t : TE) : TO := fun σ H Q => t σ H fun x H1 => ∃ i, x = .int i ∧ Q (some i) H1
theorem intsAre_of {ns : List Int} : ∀ {us : List Value}, Vals (ns.map V.int) us → IntsAre us ns := by
 induction ns with
 | nil => intro us r; rw [List.map_nil] at r; cases r; exact .nil
 | cons n ns ih =>
  intro us r
  rw [List.map_cons] at r
  cases r with
  | cons r1 r2 =>
   obtain ⟨t, e⟩ := r1
   subst e
   exact .cons n t (ih r2)
section
variable {X : Cx} {e : Expr} {te : TE} {lo hi : Option Expr} {tl th : TO} {pos p2 : Pos}
theorem po_none : PO X none tNoPart := by
 refine .mk ?_
 intro pins s σ H Q I h
 rw [evalPart_none]
 exact wpAny_pure ⟨none, H, I, .none, h⟩
theorem po_some (h : PE X e te) : PO X (some e) (tPart te) := by
 refine .mk ?_
 intro pins s σ H Q I hw
 rw [evalPart_some]
 refine thn (h pins s σ H _ I hw) fun u s1 ⟨x, H1, I1, r1, q1⟩ => ?_
 obtain ⟨i, rfl, q⟩ := q1
 obtain ⟨t, rfl⟩ := r1
 exact ⟨some i, H1, I1, .int i t, q⟩
def SlR (X : Cx) (r : V → Option Int → Option Int → Hp → VK → Prop) : Prop :=
 ∀ (pins : List (Addr × Obj)) (s : Shared) (σ : St) (H : Hp) (x : V) (v vl vu : Value) (lo hi : Option Int) (sl : Addr) (Q : VK), Inv X pins σ H s → RelV x v → s.heap.IsSliceOf sl vl vu .none → IsPart vl lo → IsPart vu hi → r x lo hi H Q →
  ∃ T id, typeLookup (.type T) "__getitem__" = pure (some (.builtin id)) ∧ s.TypeIs v T ∧ wpAny (model X.prog X.w) X.A (getItem v (.ref sl)) (EP X pins σ Q) X.xe s
theorem SlR.or {r r' : V → Option Int → Option Int → Hp → VK → Prop} (h : SlR X r) (h' : SlR X r') : SlR X (fun x lo hi H Q => r x lo hi H Q ∨ r' x lo hi H Q) := by
 intro pins s σ H x v vl vu lo hi sl Q I rx hs pl pu q
 rcases q with q | q
 ·exact h pins s σ H x v vl vu lo hi sl Q I rx hs pl pu q
 ·exact h' pins s σ H x v vl vu lo hi sl Q I rx hs pl pu q
def tSl (r : V → Option Int → Option Int → Hp → VK → Prop) (te : TE) (tl th : TO) : TE := fun σ H Q => te σ H fun x H1 => tl σ H1 fun l H2 => th σ H2 fun u H3 => r x l u H3 Q
theorem pe_slice {r : V → Option Int → Option Int → Hp → VK → Prop} (hr : SlR X r) (he : PE X e te) (hl : PO X lo tl) (hu : PO X hi th) : PE X (.Subscript e (.Slice lo hi none p2) pos) (tSl r te tl th) := by
 refine .mk ?_
 intro pins s σ H Q I h
 refine Subscript_ (thn (he pins s σ H _ I h) fun v s1 ⟨x, H1, I1, r1, q1⟩ => ?_)
 refine wpAny_Slice (thn (hl pins s1 σ H1 _ I1 q1) fun vl s2 ⟨l, H2, I2, pl, q2⟩ => thn (hu pins s2 σ H2 _ I2 q2) fun vu s3 ⟨u, H3, I3, pu, q3⟩ => ?_)
 rw [evalPart_none]
 refine wpAny_pure ?_
 have I4 : Inv X pins σ H3 { s3 with heap := s3.heap.push { cls := .type "slice", data := .fields #[vl, vu, .none] } } := I3.kept (t' := s3.toks) fun b ob q => Heap.get?_push_of_some _ q
 obtain ⟨T, id, hT, ht, hg⟩ := hr pins { s3 with heap := s3.heap.push { cls := .type "slice", data := .fields #[vl, vu, .none] } } σ H3 x v vl vu l u s3.heap.objs.size Q I4 r1 (Heap.IsSliceOf.new ..) pl pu q3
 show wpAny (model X.prog X.w) X.A (subscriptTail e (.Slice lo hi none p2) v (.ref s3.heap.objs.size)) (EP X pins σ Q) X.xe { s3 with heap := s3.heap.push { cls := .type "slice", data := .fields #[vl, vu, .none] } }
 exact tail_any (ops := [.ref s3.heap.objs.size, v]) ht hT hg (by with_unfolding_all rfl)
def cutV (xs : List V) (lo hi : Option Int) : List V := (xs.drop (HT.sIx xs.length 0 lo)).take (HT.sIx xs.length xs.length hi - HT.sIx xs.length 0 lo)
theorem cutV_length (xs : List V) (lo hi : Option Int) : (cutV xs lo hi).length ≤ xs.length := by
 unfold cutV
 rw [List.length_take, List.length_drop]
 omega
def rSlT (K : PySem.W.Frag) : V → Option Int → Option Int → Hp → VK → Prop := fun x lo hi H Q => ∃ a xs, x = .ref a ∧ SqT K H a xs ∧
 ¬ (HT.sIx xs.length 0 lo = 0 ∧ HT.sIx xs.length xs.length hi = xs.length) ∧ ∀ p, H p = none → Q (.ref p) (upd H p (.tup (cutV xs lo hi)))
theorem sl_tup : SlR X (rSlT X.K) := by
 intro pins s σ H x v vl vu lo hi sl Q I rx hs pl pu h
 obtain ⟨a, xs, rfl, hx, hw, q⟩ := h
 cases rx
 obtain ⟨its, r, ht, hz⟩ := I.tuple hx
 have hlen : its.toArray.size = xs.length := by rw [List.size_toArray]; exact r.length.symm
 refine ⟨"tuple", _, PyProof.Rows.slot_tuple_getitem.lookup, ht.typeIs, ?_⟩
 refine HT.getItem_tuple_cut ht hs pl pu (by rw [hlen]; exact hw) ?_ (by rw [hlen]; exact hz)
 rw [hlen]
 refine ⟨.ref s.heap.objs.size, _, I.laid (t' := s.toks) (o := .tup (cutV xs lo hi)) (fun b ob q => Heap.get?_push_of_some _ q) (Nat.le_refl _) ?_, rfl, q _ (I.hok.fresh (Nat.le_refl _))⟩
 exact ⟨Nat.le_trans (cutV_length xs lo hi) hz, _, (r.drop (HT.sIx xs.length 0 lo)).take (HT.sIx xs.length xs.length hi - HT.sIx xs.length 0 lo), IsTup.new _ _⟩
def rCatT (K : PySem.W.Frag) : R2 := fun x y H Q => ∃ a b xs ys, x = .ref a ∧ y = .ref b ∧ SqT K H a xs ∧ SqT K H b ys ∧ xs ≠ [] ∧ xs.length + ys.length ≤ sizeLine ∧
 (ys = [] → Q (.ref a) H) ∧ (ys ≠ [] → ∀ p, H p = none → Q (.ref p) (upd H p (.tup (xs ++ ys))))
theorem Vals.nil_iff {xs : List V} {us : List Value} (r : Vals xs us) : us = [] ↔ xs = [] := by
 cases r with
 | nil => simp
 | cons _ _ => simp
theorem op_catT : OpR X (binaryOp .Add) (rCatT X.K) := by
 intro pins s σ H x y v u Q I rx ry h
 obtain ⟨a, b, xs, ys, rfl, rfl, ha, hb, hx, hz, q1, q2⟩ := h
 cases rx
 cases ry
 obtain ⟨its, r1, p1, _⟩ := I.tuple ha
 obtain ⟨its2, r2, p2, _⟩ := I.tuple hb
 refine HT.cat_tup p1 p2 (fun z => hx (r1.nil_iff.mp z)) (fun z => ⟨.ref a, H, I, rfl, q1 (r2.nil_iff.mp z)⟩) (fun z => ?_) (by rw [← r1.length, ← r2.length]; exact hz)
 refine ⟨.ref s.heap.objs.size, _, I.laid (t' := s.toks) (o := .tup (xs ++ ys)) (fun b ob q => Heap.get?_push_of_some _ q) (Nat.le_refl _) ?_, rfl, q2 (fun w => z (r2.nil_iff.mpr w)) _ (I.hok.fresh (Nat.le_refl _))⟩
 exact ⟨by rw [List.length_append]; exact hz, _, r1.append r2, IsTup.new _ _⟩
end
end L2
namespace L2
open PySem PySem.Spec PyProof.Rows
def ixN (n : Nat) (i : Int) : Option Nat := if 0 ≤ i then (if i < n then some i.toNat else none) else if -(n : Int) ≤ i then some (i + n).toNat else none
def atI {α : Type} (xs : List α) (i : Int) : Option α := (ixN xs.length i).bind fun j => xs[j]?
theorem ixN_seq {n : Nat} {i : Int} {j : Nat} (h : ixN n i = some j) : seqIndex? i n = some j ∧ j < n ∧ -(n : Int) ≤ i ∧ i < n := by
 unfold ixN at h
 by_cases h0 : 0 ≤ i
 ·rw [if_pos h0] at h
  by_cases h1 : i < n
  ·rw [if_pos h1] at h
   have e : i.toNat = j := Option.some.inj h
   exact ⟨by rw [seqIndex_of h0 h1, e], by omega, by omega, h1⟩
  ·rw [if_neg h1] at h; cases h
 ·rw [if_neg h0] at h
  by_cases h1 : -(n : Int) ≤ i
  ·rw [if_pos h1] at h
   have e : (i + n).toNat = j := Option.some.inj h
   exact ⟨by rw [seqIndex_neg (by omega) h1, e], by omega, h1, by omega⟩
  ·rw [if_neg h1] at h; cases h
theorem atI_get {α : Type} {xs : List α} {i : Int} {v : α} (h : atI xs i = some v) : ∃ j, seqIndex? i xs.length = some j ∧ xs[j]? = some v ∧ j < xs.length ∧ -(xs.length : Int) ≤ i ∧ i < xs.length := by
 unfold atI at h
 cases e : ixN xs.length i with
 | none => rw [e] at h; cases h
 | some j =>
  rw [e] at h
  obtain ⟨h1, h2, h3, h4⟩ := ixN_seq e
  exact ⟨j, h1, h, h2, h3, h4⟩
theorem atI_nat {α : Type} {xs : List α} {j : Nat} {v : α} (h : xs[j]? = some v) : atI xs (j : Int) = some v := by
 have hj : j < xs.length := (List.getElem?_eq_some_iff.mp h).1
 have e : ixN xs.length (j : Int) = some j := by
  unfold ixN
  rw [if_pos (by omega), if_pos (by omega)]; simp
 unfold atI; rw [e]; exact h
def PlainIx (b : Expr) : Prop := ∀ o i, subscripted b false o i = operate [o, i] (getItem o i)
def IxR (X : Cx) (r : R2) : Prop :=
 ∀ (value slice : Expr) (pins : List (Addr × Obj)) (s : Shared) (σ : St) (H : Hp) (x y : V) (v u : Value) (Q : VK), Inv X pins σ H s → RelV x v → RelV y u → r x y H Q →
  subscripted slice false v u = operate [v, u] (getItem v u) → wpAny (model X.prog X.w) X.A (subscriptTail value slice v u) (EP X pins σ Q) X.xe s
def MtR (X : Cx) (id : String) (r : V → List V → Hp → VK → Prop) : Prop :=
 ∀ (pins : List (Addr × Obj)) (s : Shared) (σ : St) (H : Hp) (x : V) (xs : List V) (v : Value) (us : List Value) (Q : VK), Inv X pins σ H s → RelV x v → Vals xs us → r x xs H Q →
  wpAny (model X.prog X.w) X.A (call (.builtin id) (v :: us)) (EP X pins σ Q) X.xe s
section
variable {X : Cx} {a b : Expr} {ta tb : TE} {pos : Pos}
theorem IxR.or {r r' : R2} (h : IxR X r) (h' : IxR X r') : IxR X (fun x y H Q => r x y H Q ∨ r' x y H Q) := by
 intro value slice pins s σ H x y v u Q I rx ry q hs
 rcases q with q | q
 ·exact h value slice pins s σ H x y v u Q I rx ry q hs
 ·exact h' value slice pins s σ H x y v u Q I rx ry q hs
theorem MtR.or {id : String} {r r' : V → List V → Hp → VK → Prop} (h : MtR X id r) (h' : MtR X id r') : MtR X id (fun x xs H Q => r x xs H Q ∨ r' x xs H Q) := by
 intro pins s σ H x xs v us Q I rx rs q
 rcases q with q | q
 ·exact h pins s σ H x xs v us Q I rx rs q
 ·exact h' pins s σ H x xs v us Q I rx rs q
theorem pe_ix {r : R2} (hr : IxR X r) (ha : PE X a ta) (hb : PE X b tb) (hs : PlainIx b) : PE X (.Subscript a b pos) (tOp r ta tb) := by
 refine .mk ?_
 intro pins s σ H Q I h
 exact Subscript_ (binT ha hb I h fun v u s2 x y H2 I2 rx ry q => hr a b pins s2 σ H2 x y v u Q I2 rx ry q (hs _ _))
def rIxL (K : PySem.W.Frag) : R2 := fun x y H Q => ∃ p xs i v, x = .ref p ∧ y = .int i ∧ SqL K H p xs ∧ atI xs i = some v ∧ Q v H
def rIxT (K : PySem.W.Frag) : R2 := fun x y H Q => ∃ p xs i v, x = .ref p ∧ y = .int i ∧ SqT K H p xs ∧ atI xs i = some v ∧ Q v H
def rIxS : R2 := fun x y H Q => ∃ z i c, x = .str z ∧ y = .int i ∧ z.length ≤ sizeLine ∧ atI z.cps.toList i = some c ∧ Q (.str ⟨#[c]⟩) H
theorem ix_list : IxR X (rIxL X.K) := by
 intro value slice pins s σ H x y v u Q I rx ry h hs
 obtain ⟨p, xs, i, z, rfl, rfl, hq, he, q⟩ := h
 cases rx
 obtain ⟨t, rfl⟩ := ry
 obtain ⟨its, r, pl, hz⟩ := I.list hq
 obtain ⟨j, h1, h2, h3, h4, h5⟩ := atI_get he
 obtain ⟨w, ew, rw'⟩ := r.get h2
 have hl := r.length
 have hn := line63
 have fin : EP X pins σ Q w s := ⟨z, H, I, rw', q⟩
 by_cases h0 : 0 ≤ i
 ·have hj : i.toNat = j := by
   rw [seqIndex_of h0 h5] at h1
   exact Option.some.inj h1
  exact item_listR pl.isList h0 (by omega) (by rw [hj]; simpa using ew) fin hs
 ·have hj : (i + (its.toArray.size : Int)).toNat = j := by
   rw [seqIndex_neg (by omega) h4] at h1
   rw [List.size_toArray, ← hl]
   exact Option.some.inj h1
  exact subscriptTail_builtinR (x := w) pl.isList.typeIs slot_list_getitem.lookup
   (wpAny_getItem_list_neg (Q := fun r s' => r = w ∧ EP X pins σ Q r s') pl.isList (by omega) (by rw [List.size_toArray] <;> omega) (by omega) (by rw [hj]; simpa using ew) ⟨rfl, fin⟩) hs
theorem ix_tup : IxR X (rIxT X.K) := by
 intro value slice pins s σ H x y v u Q I rx ry h hs
 obtain ⟨p, xs, i, z, rfl, rfl, hq, he, q⟩ := h
 cases rx
 obtain ⟨t, rfl⟩ := ry
 obtain ⟨its, r, pl, hz⟩ := I.tuple hq
 obtain ⟨j, h1, h2, h3, h4, h5⟩ := atI_get he
 obtain ⟨w, ew, rw'⟩ := r.get h2
 have hl := r.length
 have hn := line63
 have fin : EP X pins σ Q w s := ⟨z, H, I, rw', q⟩
 exact subscriptTail_builtinR (x := w) pl.typeIs slot_tuple_getitem.lookup
  (getItem_tuple (j := j) (Q := fun r s' => r = w ∧ EP X pins σ Q r s') pl (by omega) (by omega) (by rw [List.size_toArray, ← hl]; exact h1) (by simpa using ew) ⟨rfl, fin⟩) hs
theorem ix_str : IxR X rIxS := by
 intro value slice pins s σ H x y v u Q I rx ry h hs
 obtain ⟨z, i, c, rfl, rfl, hz, he, q⟩ := h
 obtain ⟨t, rfl⟩ := rx
 obtain ⟨t', rfl⟩ := ry
 obtain ⟨j, h1, h2, h3, h4, h5⟩ := atI_get he
 have hl : z.cps.toList.length = z.length := by simp [Str.length]
 rw [hl] at h1 h4 h5
 have hn := line63
 exact tail_any (typeIs_str s z t) slot_str_getitem.lookup (getItem_str (c := c) (by
  have e1 : decide (i < -(2 ^ 63 : Int)) = false := decide_eq_false (by omega)
  have e2 : decide (i ≥ 2 ^ 63) = false := decide_eq_false (by omega)
  rw [e1, e2, Bool.or_false]) (by rw [h1]; simpa using h2) ⟨.str ⟨#[c]⟩, H, I.tok _, ⟨_, rfl⟩, q⟩) hs
def rIx (K : PySem.W.Frag) : R2 := fun x y H Q => rIxL K x y H Q ∨ rIxT K x y H Q ∨ rIxS x y H Q
theorem ix_seq : IxR X (rIx X.K) := ix_list.or (ix_tup.or ix_str)
theorem mapSeq_set (its : List Value) (n j : Nat) (u : Value) : Obj.mapSeq (·.setIfInBounds j u) { cls := .type "list", data := .seq its.toArray n } = { cls := .type "list", data := .seq (its.set j u).toArray n } := by
 simp [Obj.mapSeq]
theorem Inv.lst {pins : List (Addr × Obj)} {σ : St} {H : Hp} {s : Shared} {p : Addr} {xs : List V} (I : Inv X pins σ H s) (h : H p = some (.lst xs)) :
  ∃ (its : List Value) (n : Nat), Vals xs its ∧ s.heap.get? p = some { cls := .type "list", data := .seq its.toArray n } ∧ xs.length ≤ sizeLine := by
 obtain ⟨z, its, n, r, e⟩ := I.hok p _ h
 exact ⟨its, n, r, e, z⟩
theorem Inv.lstUpd {pins : List (Addr × Obj)} {σ : St} {H : Hp} {s : Shared} {p : Addr} {xs ys : List V} {its its' : List Value} {n n' : Nat} {f : Obj → Obj} (I : Inv X pins σ H s) (h : H p = some (.lst xs))
  (ho : s.heap.get? p = some { cls := .type "list", data := .seq its.toArray n }) (hf : f { cls := .type "list", data := .seq its.toArray n } = { cls := .type "list", data := .seq its'.toArray n' }) (r : Vals ys its') (hz : ys.length ≤ sizeLine) (t : Nat) :
  Inv X pins σ (upd H p (.lst ys)) { s with heap := s.heap.update p f, toks := t } := by
 have e : (s.heap.update p f).get? p = some { cls := .type "list", data := .seq its'.toArray n' } := by
  rw [Heap.get?_update_self f ho (by rw [hf] <;> rfl), hf]
 refine I.write (x := p) (e := p) (by rw [h]; trivial) (.inl rfl) (fun b u hb q => (Heap.get?_update_other _ _ (Ne.symm hb)).trans q) ⟨_, e⟩ ?_
 exact ⟨hz, its', n', r, e⟩
def rSetL : V → V → V → Hp → (Hp → Prop) → Prop := fun o i v H Q => ∃ p xs k j, o = .ref p ∧ i = .int k ∧ H p = some (.lst xs) ∧ ixN xs.length k = some j ∧ Q (upd H p (.lst (xs.set j v)))
theorem set_list : PSet X rSetL := by
 intro pins s σ H o i v ov iv u Q I ro ri rv h
 obtain ⟨p, xs, k, j, rfl, rfl, hp, hj, q⟩ := h
 cases ro
 obtain ⟨t, rfl⟩ := ri
 obtain ⟨its, n, r, ho, hz⟩ := I.lst hp
 obtain ⟨h1, h2, h3, h4⟩ := ixN_seq hj
 have hl := r.length
 have hn := line63
 have I' : Inv X pins σ (upd H p (.lst (xs.set j v))) { s with heap := s.heap.update p (Obj.mapSeq (·.setIfInBounds j u)) } :=
  I.lstUpd hp ho (mapSeq_set its n j u) (r.set rv j) (by rw [List.length_set]; exact hz) s.toks
 by_cases h0 : 0 ≤ k
 ·have hk : k.toNat = j := by
   rw [seqIndex_of h0 h4] at h1
   exact Option.some.inj h1
  exact PySem.W.ki_setAt ho h0 (by omega) (by rw [List.size_toArray, ← hl]; exact h4) (by rw [hk]; exact ⟨_, I', q⟩)
 ·have hk : (k + (its.toArray.size : Int)).toNat = j := by
   rw [seqIndex_neg (by omega) h3] at h1
   rw [List.size_toArray, ← hl]
   exact Option.some.inj h1
  exact PySem.W.ki_setBack ho (by omega) (by rw [List.size_toArray, ← hl]; exact h3) (by omega) (by rw [hk]; exact ⟨_, I', q⟩)
def flatV : V → Bool
 | .non => true
 | .bl _ => true
 | .int _ => true
 | .str _ => true
 | _ => false
def eqV : V → V → Bool
 | .non, .non => true
 | .bl a, .bl b => a == b
 | .bl a, .int b => (if a then 1 else 0) == b
 | .int a, .bl b => a == (if b then 1 else 0)
 | .int a, .int b => a == b
 | .str a, .str b => a == b
 | _, _ => false
theorem eqAt_V {A : Around} {s : Shared} {y x : V} {u v : Value} (ry : RelV y u) (rx : RelV x v) (fy : flatV y = true) (fx : flatV x = true) : SeqAt.EqAt A s u v (eqV y x) := by
 cases y with
 | non =>
  cases ry
  cases x with
  | non => cases rx; exact SeqAt.EqAt.same _
  | bl b => cases rx; exact SeqAt.EqAt.none_bool b
  | int b => obtain ⟨t, rfl⟩ := rx; exact SeqAt.EqAt.none_int b t
  | str b => obtain ⟨t, rfl⟩ := rx; exact SeqAt.EqAt.none_str b t
  | _ => exact absurd (show false = true from fx) Bool.false_ne_true
 | bl a =>
  cases ry
  cases x with
  | non => cases rx; exact SeqAt.EqAt.bool_none a
  | bl b => cases rx; exact SeqAt.EqAt.bool_bool a b
  | int b => obtain ⟨t, rfl⟩ := rx; exact SeqAt.EqAt.bool_int a b t
  | str b => obtain ⟨t, rfl⟩ := rx; exact SeqAt.EqAt.bool_str a b t
  | _ => exact absurd (show false = true from fx) Bool.false_ne_true
 | int a =>
  obtain ⟨t', rfl⟩ := ry
  cases x with
  | non => cases rx; exact SeqAt.EqAt.int_none a t'
  | bl b => cases rx; exact SeqAt.EqAt.int_bool a t' b
  | int b => obtain ⟨t, rfl⟩ := rx; exact SeqAt.EqAt.int_int a t' b t
  | str b => obtain ⟨t, rfl⟩ := rx; exact SeqAt.EqAt.int_str a t' b t
  | _ => exact absurd (show false = true from fx) Bool.false_ne_true
 | str a =>
  obtain ⟨t', rfl⟩ := ry
  cases x with
  | non => cases rx; exact SeqAt.EqAt.str_none a t'
  | bl b => cases rx; exact SeqAt.EqAt.str_bool a t' b
  | int b => obtain ⟨t, rfl⟩ := rx; exact SeqAt.EqAt.str_int a t' b t
  | str b => obtain ⟨t, rfl⟩ := rx; exact SeqAt.EqAt.str_str a t' b t
  | _ => exact absurd (show false = true from fx) Bool.false_ne_true
 | _ => exact absurd (show false = true from fy) Bool.false_ne_true
def eqU (x : V) (u : Value) : Bool := match u with
 | .none => eqV .non x
 | .bool b => eqV (.bl b) x
 | .int i _ => eqV (.int i) x
 | .str z _ => eqV (.str z) x
 | _ => false
theorem eqU_of {x y : V} {u : Value} (r : RelV y u) (f : flatV y = true) : eqU x u = eqV y x := by
 cases y with
 | non => cases r; rfl
 | bl b => cases r; rfl
 | int i => obtain ⟨t, rfl⟩ := r; rfl
 | str z => obtain ⟨t, rfl⟩ := r; rfl
 | _ => exact absurd (show false = true from f) Bool.false_ne_true
theorem any_eqU {x : V} : ∀ {xs : List V} {us : List Value}, Vals xs us → xs.all flatV = true → us.any (eqU x) = xs.any fun y => eqV y x
 | _, _, .nil, _ => rfl
 | y :: xs, u :: us, .cons r t, f => by
  rw [List.all_cons, Bool.and_eq_true] at f
  rw [List.any_cons, List.any_cons, eqU_of r f.1, any_eqU t f.2]
theorem mem_eqAt {A : Around} {s : Shared} {x : V} {v : Value} (rx : RelV x v) (fx : flatV x = true) : ∀ {xs : List V} {us : List Value}, Vals xs us → xs.all flatV = true → ∀ u ∈ us, SeqAt.EqAt A s u v (eqU x u)
 | _, _, .nil, _ => fun u hu => by cases hu
 | y :: xs, u :: us, .cons r t, f => fun u' hu => by
  rw [List.all_cons, Bool.and_eq_true] at f
  rcases List.mem_cons.mp hu with rfl | hu
  ·rw [eqU_of r f.1]; exact eqAt_V r rx f.1 fx
  ·exact mem_eqAt rx fx t f.2 u' hu
def inV (x : V) (xs : List V) : Bool := xs.any fun y => eqV y x
def rIn (K : PySem.W.Frag) (neg : Bool) : R2 := fun x y H Q => ∃ p xs, y = .ref p ∧ (SqL K H p xs ∨ SqT K H p xs) ∧ flatV x = true ∧ xs.all flatV = true ∧ Q (.bl (if neg then !inV x xs else inV x xs)) H
theorem op_in_seq : OpR X (compareOp .In) (rIn X.K false) := by
 intro pins s σ H x y v u Q I rx ry h
 obtain ⟨p, xs, rfl, hq, fx, fs, q⟩ := h
 cases ry
 rcases hq with hq | hq
 ·obtain ⟨its, r, pl, hz⟩ := I.list hq
  refine SeqAt.in_listAt (eqU x) pl.isList (fun w hw => mem_eqAt rx fx r fs w (by simpa using hw)) ⟨.bl _, H, I, rfl, ?_⟩
  rw [show its.toArray.any (eqU x) = its.any (eqU x) by simp, any_eqU r fs]
  exact q
 ·obtain ⟨its, r, pl, hz⟩ := I.tuple hq
  refine SeqAt.in_tupleAt (eqU x) pl (fun w hw => mem_eqAt rx fx r fs w (by simpa using hw)) ⟨.bl _, H, I, rfl, ?_⟩
  rw [show its.toArray.any (eqU x) = its.any (eqU x) by simp, any_eqU r fs]
  exact q
theorem op_notIn_seq : OpR X (compareOp .NotIn) (rIn X.K true) := by
 intro pins s σ H x y v u Q I rx ry h
 obtain ⟨p, xs, rfl, hq, fx, fs, q⟩ := h
 cases ry
 rcases hq with hq | hq
 ·obtain ⟨its, r, pl, hz⟩ := I.list hq
  refine SeqAt.notIn_listAt (eqU x) pl.isList (fun w hw => mem_eqAt rx fx r fs w (by simpa using hw)) ⟨.bl _, H, I, rfl, ?_⟩
  rw [show its.toArray.any (eqU x) = its.any (eqU x) by simp, any_eqU r fs]
  exact q
 ·obtain ⟨its, r, pl, hz⟩ := I.tuple hq
  refine SeqAt.notIn_tupleAt (eqU x) pl (fun w hw => mem_eqAt rx fx r fs w (by simpa using hw)) ⟨.bl _, H, I, rfl, ?_⟩
  rw [show its.toArray.any (eqU x) = its.any (eqU x) by simp, any_eqU r fs]
  exact q
theorem call_len_seq : CallR X (.builtin "len") (fun xs H Q => ∃ p ys, xs = [.ref p] ∧ (SqL X.K H p ys ∨ SqT X.K H p ys) ∧ Q (.int ys.length) H) := by
 intro pins s σ H xs us Q I r h
 obtain ⟨p, ys, rfl, hq, q⟩ := h
 obtain ⟨u, rfl, rx⟩ := vals1 r
 cases rx
 have hn := line63
 rcases hq with hq | hq
 ·obtain ⟨its, r', pl, hz⟩ := I.list hq
  have hlen := r'.length
  exact Calls.call_len_list pl.isList (by simp only [List.size_toArray] <;> omega) ⟨.int ys.length, H, I.tok _, ⟨s.toks + 1, by rw [List.size_toArray, hlen]⟩, q⟩
 ·obtain ⟨its, r', pl, hz⟩ := I.tuple hq
  have hlen := r'.length
  exact len_tuple pl (by simp only [List.size_toArray] <;> omega) ⟨.int ys.length, H, I.tok _, ⟨s.toks + 1, by rw [List.size_toArray, hlen]⟩, q⟩
theorem call_len_str : CallR X (.builtin "len") (fun xs H Q => ∃ z, xs = [.str z] ∧ z.length ≤ sizeLine ∧ Q (.int z.length) H) := by
 intro pins s σ H xs us Q I r h
 obtain ⟨z, rfl, hz, q⟩ := h
 obtain ⟨u, rfl, t, rfl⟩ := vals1 r
 have hn := line63
 exact len_str (by omega) ⟨.int z.length, H, I.tok _, ⟨_, rfl⟩, q⟩
theorem CallR.or {f : Value} {r r' : List V → Hp → VK → Prop} (h : CallR X f r) (h' : CallR X f r') : CallR X f (fun xs H Q => r xs H Q ∨ r' xs H Q) := by
 intro pins s σ H xs us Q I rs q
 rcases q with q | q
 ·exact h pins s σ H xs us Q I rs q
 ·exact h' pins s σ H xs us Q I rs q
theorem call_list_of : CallR X (.type "list") (fun xs H Q => ∃ p ys, xs = [.ref p] ∧ (SqL X.K H p ys ∨ SqT X.K H p ys) ∧ ∀ l, H l = none → Q (.ref l) (upd H l (.lst ys))) := by
 intro pins s σ H xs us Q I r h
 obtain ⟨p, ys, rfl, hq, q⟩ := h
 obtain ⟨u, rfl, rx⟩ := vals1 r
 cases rx
 have fin : ∀ (its : List Value), Vals ys its → ys.length ≤ sizeLine → ∀ (h' : Heap) (c' : Nat), (∀ b o', s.heap.get? b = some o' → h'.get? b = some o') →
   h'.get? s.heap.objs.size = some { cls := .type "list", dict := none, data := .seq its.toArray c', slots := #[] } → EP X pins σ Q (.ref s.heap.objs.size) { s with heap := h' } := fun its r' hz h' c' kp e =>
  ⟨.ref s.heap.objs.size, _, I.laid (t' := s.toks) kp (Nat.le_refl _) (show ObjOk X.prog X.w _ h' _ (.lst ys) from ⟨hz, its, c', r', e⟩), rfl, q _ (I.hok.fresh (Nat.le_refl _))⟩
 rcases hq with hq | hq
 ·obtain ⟨its, r', pl, hz⟩ := I.list hq
  have hlen := r'.length
  obtain ⟨o, ho, hc, n, hd⟩ := pl.isList
  exact call_list_seq p (.inl rfl) ho hc hd (fun h' c' kp e => fin its r' hz h' c' kp e) (by simp only [List.size_toArray] <;> omega)
 ·obtain ⟨its, r', pl, hz⟩ := I.tuple hq
  have hlen := r'.length
  obtain ⟨o, ho, hc, n, hd⟩ := pl
  exact call_list_seq p (.inr rfl) ho hc hd (fun h' c' kp e => fin its r' hz h' c' kp e) (by simp only [List.size_toArray] <;> omega)
theorem call_tuple_of : CallR X (.type "tuple") (fun xs H Q => ∃ p ys, xs = [.ref p] ∧ ((SqL X.K H p ys ∧ ∀ l, H l = none → Q (.ref l) (upd H l (.tup ys))) ∨ (SqT X.K H p ys ∧ Q (.ref p) H))) := by
 intro pins s σ H xs us Q I r h
 obtain ⟨p, ys, rfl, h⟩ := h
 obtain ⟨u, rfl, rx⟩ := vals1 r
 cases rx
 rcases h with ⟨hq, q⟩ | ⟨hq, q⟩
 ·obtain ⟨its, r', pl, hz⟩ := I.list hq
  have hlen := r'.length
  refine call_tuple_list pl.isList (fun h' kp => ?_) (by simp only [List.size_toArray] <;> omega)
  have I1 : Inv X pins σ H { s with heap := h' } := I.kept (t' := s.toks) kp
  have I2 : Inv X pins σ (upd H h'.objs.size (.tup ys)) { s with heap := h'.push { cls := .type "tuple", data := .seq its.toArray } } :=
   I1.laid (t' := s.toks) (fun b o e => Heap.get?_push_of_some _ e) (Nat.le_refl _) (show ObjOk X.prog X.w _ _ _ (.tup ys) from ⟨hz, its, r', IsTup.new _ _⟩)
  exact ⟨.ref h'.objs.size, _, I2, rfl, q _ (I1.hok.fresh (Nat.le_refl _))⟩
 ·obtain ⟨its, r', pl, hz⟩ := I.tuple hq
  exact call_tuple_same pl ⟨.ref p, H, I, rfl, q⟩
def tyV (K : PySem.W.Frag) (T : String) (x : V) (H : Hp) : Prop := match x with
 | .str _ => T = "str"
 | .int _ => T = "int"
 | .ref p => (T = "list" ∧ ∃ xs, SqL K H p xs) ∨ (T = "tuple" ∧ ∃ o, K.lookup p = some o ∧ o.cls = .type "tuple" ∧ o.dict = none) ∨
   (T = "dict" ∧ ((∃ kvs, H p = some (.dK kvs)) ∨ ∃ kvs, H p = some (.dT kvs))) ∨ (T = "set" ∧ ∃ S n, H p = some (.set S n))
 | _ => False
theorem tyV_is {pins : List (Addr × Obj)} {σ : St} {H : Hp} {s : Shared} {T : String} {x : V} {v : Value} (I : Inv X pins σ H s) (r : RelV x v) (ty : tyV X.K T x H) :
  s.TypeIs v T ∧ ∀ a, v = .ref a → ∃ ob, s.heap.get? a = some ob ∧ ob.dict = none := by
 cases x with
 | str z =>
  obtain ⟨t, rfl⟩ := r
  cases (show T = "str" from ty)
  exact ⟨typeIs_str s z t, fun _ e => nomatch e⟩
 | int i =>
  obtain ⟨t, rfl⟩ := r
  cases (show T = "int" from ty)
  exact ⟨typeIs_int s i t, fun _ e => nomatch e⟩
 | ref p =>
  cases r
  rcases ty with ⟨rfl, xs, hq⟩ | ⟨rfl, o, hk, hc, hd⟩ | ⟨rfl, hk⟩ | ⟨rfl, S, n, hk⟩
  ·obtain ⟨its, _, pl, _⟩ := I.list hq
   refine ⟨pl.isList.typeIs, fun a e => ?_⟩
   cases e
   obtain ⟨o, n, e, c, hd, _⟩ := pl
   exact ⟨o, e, hd⟩
  ·refine ⟨⟨o, I.kIn p o hk, hc⟩, fun a e => ?_⟩
   cases e
   exact ⟨o, I.kIn _ o hk, hd⟩
  ·have z : ∃ o, s.heap.get? p = some o ∧ o.ExactDict := by
    rcases hk with ⟨kvs, hk⟩ | ⟨kvs, hk⟩
    ·obtain ⟨_, _, _, _, o, _, _, e, ex, _⟩ := I.hok p _ hk
     exact ⟨o, e, ex⟩
    ·obtain ⟨_, _, _, _, o, _, _, e, ex, _⟩ := I.hok p _ hk
     exact ⟨o, e, ex⟩
   obtain ⟨o, e, ex⟩ := z
   refine ⟨⟨o, e, ex.1⟩, fun a e2 => ?_⟩
   cases e2
   exact ⟨o, e, ex.2.1⟩
  ·obtain ⟨o, _, _, _, e, ex, _⟩ := I.hok p _ hk
   refine ⟨⟨o, e, ex.1⟩, fun a e2 => ?_⟩
   cases e2
   exact ⟨o, e, ex.2.1⟩
 | _ => exact False.elim ty
def tBM0 (K : PySem.W.Frag) (T : String) (r : V → List V → Hp → VK → Prop) (to : TE) : TE := fun σ H Q => to σ H fun x H1 => tyV K T x H1 ∧ r x [] H1 Q
def tBM (K : PySem.W.Frag) (T : String) (r : V → List V → Hp → VK → Prop) (to : TE) (t : TA) : TE := fun σ H Q => to σ H fun x H1 => tyV K T x H1 ∧ t σ H1 fun xs H2 => r x xs H2 Q
variable {o e : Expr} {es : List Expr} {to : TE} {t : TA} {name : Str} {apos cpos : Pos} {T id : String} {r : V → List V → Hp → VK → Prop}
theorem pe_bm0 (pa : PlainAttrs T) (slot : Slot T name id) (hty : typeOf (.builtin id) = pure (.type "method_descriptor")) (hm : MtR X id r) (ho : PE X o to)
  (hbase : attributeBase o name X.env (eval o X.env) = eval o X.env := by rfl) (hline : (apos.endLine == cpos.line) = true := by rfl) : PE X (.Call (.Attribute o name apos) [] [] cpos) (tBM0 X.K T r to) := by
 refine .mk ?_
 intro pins s σ H Q I h
 refine wpAny_Call_method0_late hbase hline (thn (ho pins s σ H _ I h) fun v s1 ⟨x, H1, I1, r1, ty, q1⟩ => ?_)
 obtain ⟨h1, h2⟩ := tyV_is I1 r1 ty
 exact ⟨T, id, pa, slot, hty, h1, h2, Calls.callWith_builtin rfl (PySem.evalArgs_none (hm pins s1 σ H1 x [] v [] Q I1 r1 .nil q1))⟩
theorem pe_bm (pa : PlainAttrs T) (slot : Slot T name id) (hty : typeOf (.builtin id) = pure (.type "method_descriptor")) (hm : MtR X id r) (ho : PE X o to) (ha : PA X (e :: es) t)
  (hbase : attributeBase o name X.env (eval o X.env) = eval o X.env := by rfl)
  (hfew : ((backTo cpos (starEach (e :: es) X.env)).all (fun x => !x.1) && (backToKw cpos (keywordEach [] X.env)).all (fun x => x.1.isSome)
   && decide ((e :: es).length + ([] : List Keyword).length + (if ([] : List Keyword).isEmpty then 0 else 1) < 30)) = true := by rfl)
  (hline : (apos.endLine == cpos.line) = true := by rfl) (hs : starEach (e :: es) X.env = (false, eval e X.env) :: starEach es X.env := by rfl) (hplain : (backTo cpos (starEach es X.env)).any (·.1) = false := by rfl) :
  PE X (.Call (.Attribute o name apos) (e :: es) [] cpos) (tBM X.K T r to t) := by
 refine .mk ?_
 intro pins s σ H Q I h
 refine wpAny_Call_method_late hbase hfew hline rfl (thn (ho pins s σ H _ I h) fun v s1 ⟨x, H1, I1, r1, ty, q1⟩ => ?_)
 obtain ⟨h1, h2⟩ := tyV_is I1 r1 ty
 refine ⟨T, id, pa, slot, hty, h1, h2, ?_⟩
 have hA := ha cpos pins s1 σ H1 _ I1 q1
 rw [hs] at hA ⊢
 refine Calls.callWith_builtin (by show (false || (backTo cpos (starEach es X.env)).any (·.1)) = false; rw [hplain] <;> rfl) (Calls.evalArgs_plain ?_)
 exact thn hA fun us s2 ⟨vs, H2, I2, r2, q2⟩ => hm pins s2 σ H2 x vs v us Q I2 r1 r2 q2
end
end L2
namespace L2
open PySem PySem.Spec PyProof.Rows
def MtM (X : Cx) (id : String) (r : V → List V → Hp → VK → Prop) : Prop :=
 ∀ (pins : List (Addr × Obj)) (s : Shared) (σ : St) (H : Hp) (x : V) (xs : List V) (v : Value) (us : List Value) (Q : VK), Inv X pins σ H s → RelV x v → Vals xs us → r x xs H Q →
  wpAny (model X.prog X.w) X.A (call (.builtin id) (v :: us)) (EP X pins σ Q) X.xe s
theorem Vals.one : ∀ {x : V} {us : List Value}, Vals [x] us → ∃ u, us = [u] ∧ RelV x u
 | _, _, .cons r .nil => ⟨_, rfl, r⟩
theorem Vals.zero : ∀ {us : List Value}, Vals [] us → us = []
 | _, .nil => rfl
theorem Vals.dropLast {xs : List V} {us : List Value} (h : Vals xs us) : Vals xs.dropLast us.dropLast := by
 induction h with
 | nil => exact .nil
 | cons r t ih =>
  cases t with
  | nil => exact .nil
  | cons q t' => exact .cons r ih
theorem Vals.eraseIdx : ∀ {xs : List V} {us : List Value} (i : Nat), Vals xs us → Vals (xs.eraseIdx i) (us.eraseIdx i)
 | _, _, _, .nil => .nil
 | _, _, 0, .cons _ t => t
 | _, _, i + 1, .cons r t => .cons r (Vals.eraseIdx i t)
theorem Vals.reverse {xs : List V} {us : List Value} (h : Vals xs us) : Vals xs.reverse us.reverse := by
 induction h with
 | nil => exact .nil
 | cons r t ih => rw [List.reverse_cons, List.reverse_cons]; exact Vals.append ih (.cons r .nil)
theorem Vals.rep {xs : List V} {us : List Value} (h : Vals xs us) : ∀ k : Nat, Vals (List.replicate k xs).flatten (List.replicate k us).flatten
 | 0 => .nil
 | k + 1 => by
  rw [List.replicate_succ, List.replicate_succ, List.flatten_cons, List.flatten_cons]
  exact Vals.append h (Vals.rep h k)
theorem erase_last {α : Type} (l : List α) : l.eraseIdx (l.length - 1) = l.dropLast := by
 induction l with
 | nil => rfl
 | cons a r ih =>
  cases r with
  | nil => rfl
  | cons b r =>
   have e : (a :: b :: r).length - 1 = ((b :: r).length - 1) + 1 := by
    have h1 : (a :: b :: r).length = r.length + 2 := rfl
    have h2 : (b :: r).length = r.length + 1 := rfl
    omega
   rw [e, List.eraseIdx_cons_succ, ih]
   all_goals rfl
section
variable {X : Cx} {pins : List (Addr × Obj)} {σ : St} {H : Hp} {s : Shared} {l b : Addr} {xs ys zs : List V}
theorem Inv.lset {its its' : List Value} {n : Nat} {f : Array Value → Array Value} {t' : Nat} (I : Inv X pins σ H s) (hH : H l = some (.lst xs))
  (e : s.heap.get? l = some { cls := .type "list", data := .seq its.toArray n }) (hf : f its.toArray = its'.toArray) (hv : Vals ys its') (hz : ys.length ≤ sizeLine) :
  Inv X pins σ (upd H l (.lst ys)) { s with heap := s.heap.update l (Obj.mapSeq f), toks := t' } := by
 have q := PySem.IsL.update e f
 rw [hf] at q
 refine I.write (x := l) (e := l) (by rw [hH]; exact trivial) (.inl rfl) (fun b' u hb hu => (Heap.get?_update_other s.heap (Obj.mapSeq f) (Ne.symm hb)).trans hu) ⟨_, q⟩ ?_
 exact ⟨hz, its', _, hv, q⟩
theorem Inv.lnew {its : List Value} {t' : Nat} (I : Inv X pins σ H s) (hv : Vals ys its) (hz : ys.length ≤ sizeLine) :
  Inv X pins σ (upd H s.heap.objs.size (.lst ys)) { s with heap := s.heap.push { cls := .type "list", data := .seq its.toArray }, toks := t' } :=
 I.laid (fun _ _ q => Heap.get?_push_of_some _ q) (Nat.le_refl _) ⟨hz, its, 0, hv, Heap.get?_push_size _ rfl⟩
theorem Inv.fresh (I : Inv X pins σ H s) : H s.heap.objs.size = none := I.hok.fresh (Nat.le_refl _)
theorem Inv.lstM (I : Inv X pins σ H s) (hH : H l = some (.lst xs)) : xs.length ≤ sizeLine ∧ ∃ (its : List Value) (n : Nat), Vals xs its ∧ xs.length = its.length ∧ s.heap.get? l = some { cls := .type "list", data := .seq its.toArray n } := by
 obtain ⟨z, its, n, r, e⟩ := I.hok l _ hH
 exact ⟨z, its, n, r, r.length, e⟩
theorem notLongL {n : Nat} (h : n ≤ sizeLine) : Builtin.List.listTooLong n = false := by
 unfold Builtin.List.listTooLong
 exact decide_eq_false (by omega)
end
section
variable {X : Cx}
def rAppend : V → List V → Hp → VK → Prop := fun x vs H Q => ∃ l xs y, x = .ref l ∧ vs = [y] ∧ H l = some (.lst xs) ∧ xs.length < sizeLine ∧ Q .non (upd H l (.lst (xs ++ [y])))
theorem mt_append : MtM X "list.append" rAppend := by
 intro pins s σ H x vs v us Q I rx rv h
 obtain ⟨l, xs, y, rfl, rfl, hH, hz, q⟩ := h
 cases rx
 obtain ⟨u, rfl, ru⟩ := rv.one
 obtain ⟨z, its, n, r, hl, e⟩ := I.lstM hH
 refine call_meets F.slot_list_append ⟨_, e, rfl⟩ F.entry_list_append (F.args_list_append_2 _ _) (PySem.list_append l its.toArray n u (by rw [List.size_toArray]; omega)) ⟨e, ?_⟩
 refine ⟨.non, _, I.lset (its' := its ++ [u]) hH e (by simp) (r.append (.cons ru .nil)) ?_, rfl, q⟩
 rw [List.length_append, List.length_singleton]
 omega
def rExtend : V → List V → Hp → VK → Prop := fun x vs H Q => ∃ l b xs zs, x = .ref l ∧ vs = [.ref b] ∧ H l = some (.lst xs) ∧ H b = some (.lst zs) ∧ xs.length + zs.length ≤ sizeLine ∧ Q .non (upd H l (.lst (xs ++ zs)))
theorem mt_extend : MtM X "list.extend" rExtend := by
 intro pins s σ H x vs v us Q I rx rv h
 obtain ⟨l, b, xs, zs, rfl, rfl, hH, hB, hz, q⟩ := h
 cases rx
 obtain ⟨u, rfl, ru⟩ := rv.one
 cases ru
 obtain ⟨z, its, n, r, hl, e⟩ := I.lstM hH
 obtain ⟨z2, its2, n2, r2, hl2, e2⟩ := I.lstM hB
 have hsz : its.toArray.size + its2.toArray.size ≤ sizeLine := by rw [List.size_toArray, List.size_toArray]; omega
 have hlong : ¬ (!its.toArray.isEmpty && Builtin.List.listTooLong (its.toArray.size + its2.toArray.size)) = true := by
  rw [notLongL hsz, Bool.and_false]
  exact Bool.false_ne_true
 refine call_meets F.slot_list_extend ⟨_, e, rfl⟩ F.entry_list_extend (F.args_list_extend_2 _ _)
  (AutoSeq1.list_extend_list_list_0 l its.toArray n b its2.toArray n2 hlong (by rw [List.size_toArray]; omega) (by omega)) ⟨e, e2, ?_⟩
 refine ⟨.non, _, I.lset (its' := its ++ its2) hH e (by simp) (r.append r2) ?_, rfl, q⟩
 rw [List.length_append]
 omega
def rPop : V → List V → Hp → VK → Prop := fun x vs H Q => ∃ l xs y, x = .ref l ∧ vs = [] ∧ H l = some (.lst xs) ∧ xs[xs.length - 1]? = some y ∧ Q y (upd H l (.lst xs.dropLast))
theorem mt_pop : MtM X "list.pop" rPop := by
 intro pins s σ H x vs v us Q I rx rv h
 obtain ⟨l, xs, y, rfl, rfl, hH, hy, q⟩ := h
 cases rx
 have hus := rv.zero
 subst hus
 obtain ⟨z, its, n, r, hl, e⟩ := I.lstM hH
 obtain ⟨u, hu, ru⟩ := r.get hy
 have hy' : its.toArray[its.toArray.size - 1]? = some u := by
  show its.toArray[its.length - 1]? = some u
  rw [← Array.getElem?_toList, ← hl]
  exact hu
 refine call_meets F.slot_list_pop ⟨_, e, rfl⟩ F.entry_list_pop (F.args_list_pop_1 _) (MeetsSeq.list_pop_last l its.toArray n u hy' (by rw [List.size_toArray]; omega)) ⟨e, ?_⟩
 refine ⟨y, _, I.lset (its' := its.dropLast) hH e ?_ r.dropLast ?_, ru, q⟩
 ·show its.toArray.eraseIdxIfInBounds (its.toArray.size - 1) = its.dropLast.toArray
  rw [List.size_toArray, List.eraseIdxIfInBounds_toArray, erase_last]
 ·rw [List.length_dropLast]
  omega
def rCat : R2 := fun x y H Q => ∃ l b xs zs, x = .ref l ∧ y = .ref b ∧ H l = some (.lst xs) ∧ H b = some (.lst zs) ∧ xs.length + zs.length ≤ sizeLine ∧ ∀ p, H p = none → Q (.ref p) (upd H p (.lst (xs ++ zs)))
theorem op_cat : OpR X (binaryOp .Add) rCat := by
 intro pins s σ H x y v u Q I rx ry h
 obtain ⟨l, b, xs, zs, rfl, rfl, hH, hB, hz, q⟩ := h
 cases rx
 cases ry
 obtain ⟨z, its, n, r, hl, e⟩ := I.lstM hH
 obtain ⟨z2, its2, n2, r2, hl2, e2⟩ := I.lstM hB
 refine PySem.P.add_list e e2 ?_ (by rw [List.size_toArray, List.size_toArray]; omega)
 have ea : its.toArray ++ its2.toArray = (its ++ its2).toArray := by simp
 rw [ea]
 exact ⟨.ref _, _, I.lnew (t' := s.toks) (r.append r2) (by rw [List.length_append]; omega), rfl, q _ I.fresh⟩
theorem len_rep {α : Type} (xs : List α) (k : Nat) : (List.replicate k xs).flatten.length = k * xs.length := by
 induction k with
 | zero => simp
 | succ k ih => rw [List.replicate_succ, List.flatten_cons, List.length_append, ih, Nat.succ_mul, Nat.add_comm]
end
section
variable {prog : Program} {w : World} {A : Around} {E : Value → Shared → Prop} {s : Shared}
set_option maxRecDepth 100000 in
end
section
variable {X : Cx}
end
end L2
namespace Att
open PySem PySem.W PySem.Calls PyProof.Rows
theorem ints_of_wellAll {P : Params} {h : Heap} : ∀ (ns : List Int) (vs : List Value), WellAll P h vs (ns.map WData.int) → IntsAre vs ns := by
 intro ns
 induction ns with
 | nil =>
  intro vs w
  rw [List.map_nil] at w
  cases w
  exact .nil
 | cons n ns ih =>
  intro vs w
  rw [List.map_cons] at w
  cases w with
  | cons a b =>
   cases a
   exact .cons _ _ (ih _ b)
theorem script_of {l : OpenLaw} {n : Nat} (hn : l.most = some n) {P : Params} {h : Heap} {args : List WData} {vals : List Value}
  (hpre : l.row.toRowW.claim.pre args = true) (hwl : WellAll P h vals args) :
  ∃ a vs ns, vals = [Value.ref a] ∧ args = [WData.list (ns.map WData.int)] ∧ h.get? a = some { cls := .type "list", data := .seq vs.toArray } ∧ IntsAre vs ns ∧ ns.length ≤ n := by
 have hsh : WShape.hasAll [] args [.list .int] = true := (pre_splitW hpre).1
 have hc : l.pre.holds [] { args := args } = true := (pre_splitW hpre).2
 obtain ⟨d, r, rfl, h1, h2⟩ := hasAllW_cons hsh
 obtain rfl := hasAllW_nil h2
 obtain ⟨xs, rfl, h3⟩ := hasW_list h1
 obtain ⟨ns, rfl⟩ := items_int h3
 have hlen : ns.length ≤ n := by
  unfold OpenLaw.pre at hc
  have h4 : (WTm.not (.lt (.lit (.int (n : Int))) (.len (.arg 0)))).holds [] { args := [.list (ns.map .int)] } = true := by
   have h4 := (holds_andW hc).1
   rw [hn] at h4
   exact h4
  have h5 := condW_of h4 (w_not (w_lt w_lit (w_len_list (w_arg rfl))))
  rw [List.length_map] at h5
  refine Nat.le_of_not_lt fun q => ?_
  have q' : (n : Int) < ((ns.length : Nat) : Int) := by omega
  first
   | (rw [decide_eq_true q'] at h5; exact absurd h5 (by decide))
   | (simp at h5; omega)
 cases hwl with
 | cons w1 w2 =>
  cases w2
  cases w1 with
  | list ho hall => exact ⟨_, _, ns, rfl, rfl, ho, ints_of_wellAll ns _ hall, hlen⟩
theorem post_true (l : OpenLaw) (args : List WData) : l.row.toRowW.claim.post args (.bool true) args = true :=
 postW_of (r := l.row.toRowW) (X := (true == true))
  (show WShape.has [] (.bool true) .bool = true by first | rfl | decide | simp [WShape.has, WShape.arms, WShape.armsAll])
  (show (WTm.eq .res (.lit (.bool true))).value [] { args := args, res := some (.bool true), after := args } = some (.bool (true == true)) from w_eq_bool (w_res rfl) w_lit) rfl
theorem attach_call {l : OpenLaw} {n : Nat} {q : Program} {loose : List Str} {XP : (Str → Option Value) → Heap → Prop} {YP : World → Heap → Prop} {d : DefRec}
  (hn : l.most = some n) (hdf : d.params.defaults = [])
  (call : ∀ (w : World) (s₀ s₁ : Shared) (mg mb : Str → Option Value) (fa : Addr) (o : Obj) (pm cd doc : Value) (a : Addr) (vs : List Value) (ns : List Int),
   Ground q loose [] XP w s₀ mg mb s₁.heap → YP w s₁.heap →
   s₁.heap.get? fa = some o → o.data = .func (docDef d.name d.params d.body d.scope pm cd doc) → s₁.heap.CodeRec cd d.name → mg d.name = some (.ref fa) →
   s₁.heap.get? a = some { cls := .type "list", data := .seq vs.toArray } → IntsAre vs ns → ns.length ≤ n → s₁.gens = #[] →
   codeAny (model l.prog w) callerA (.call (.ref fa) ⟨[.ref a], []⟩) (fun r s' => r = .ok (.ret (.bool true)) ∧ OldK s₁.heap s'.heap ∧ s'.os = s₁.os ∧ AllBare s'.gens) s₁) :
  WalkO q loose XP YP l.row.toRowW d [] (fun f vs => PySem.call f vs) := by
 intro w s₀ s₁ mg mb G Y fa o pm cd doc dV kV ho hd hcd hD hmg hg args vals as hpre hlay hrd hwl hlo
 obtain rfl : dV = .none := Dflts.none hD hdf
 obtain rfl : kV = .none := Dflts.noKw hD
 obtain ⟨a, vs, ns, rfl, rfl, hobj, hints, hlen⟩ := script_of hn hpre hwl
 refine enter_call (codeAny_mono (call w s₀ s₁ mg mb fa o pm cd doc a vs ns G Y ho (fd_plain hd) hcd hmg hobj hints hlen hg) fun r s' hq => ?_)
 obtain ⟨rfl, h2, h3, h4⟩ := hq
 exact ⟨.inl ⟨.bool true, .bool true, [], rfl, fun _ => rfl, .bool true, post_true l _, fun _ => ⟨List.Pairwise.nil, fun _ hm => (nomatch hm)⟩⟩, h2, h3, h4⟩
section
variable {prog : Program} {w : World} {A : Around} {E : Value → Shared → Prop} {s : Shared} {K : Frag}
end
end Att
namespace L2
open PySem PySem.Spec PyProof.Rows
theorem vals_ints : ∀ {vs : List Value} {ns : List Int}, IntsAre vs ns → Vals (ns.map V.int) vs
 | _, _, .nil => .nil
 | _, _, .cons n t h => .cons ⟨t, rfl⟩ (vals_ints h)
def Only (H : Hp) : Prop := ∀ b, H b = none ∨ ∃ o xs, H b = some (.frz o (.lst xs))
theorem law_call {P : Program} {w : World} {K : PySem.W.Frag} {mg mb : Str → Option Value} {CX : CXT} {k : Nat} {fa a : Addr} {fd : FuncData} {x : Str} {sp : Sp} {s₁ : Shared} {vs : List Value} {ns : List Int}
  (KX : K.In s₁.heap) (hns : s₁.heap.Ns mainGlobals mg) (hb : s₁.heap.Ns builtinsNs mb) (hbb : ∀ x : Str, x ≠ "__name__" → mb x = bootBuiltins x) (hlim : s₁.heap.NoLimit) (hg : s₁.gens = #[])
  (ha : s₁.heap.get? a = some { cls := .type "list", data := .seq vs.toArray }) (hi : IntsAre vs ns) (hl : ns.length ≤ sizeLine) (hr : Room k callerA)
  (F : ∀ base : Heap, K.In base → base.Ns mainGlobals mg → FnOk P w K mg base CX k fa fd [x] sp) (hbind : ∀ (s : Shared) (u : Value), BindsTo s fd ⟨[u], []⟩ [(x, u)])
  (hsp : ∀ H : Hp, Only H → SqL K H a (ns.map V.int) → sp [.ref a] H (fun v _ => v = .bl true) fun _ _ _ => False)
  (hCX : ∀ H e s', CX [] H s₁ (fun _ _ _ => False) e s' → False) :
  codeAny (model P w) callerA (.call (.ref fa) ⟨[.ref a], []⟩) (fun r s' => r = .ok (.ret (.bool true)) ∧ OldK s₁.heap s'.heap ∧ s'.os = s₁.os ∧ AllBare s'.gens) s₁ := by
 have rv := vals_ints hi
 have lenV := hi.length
 -- from an abstract heap in which nothing but the script may be tracked
 have core : ∀ H : Hp, Only H → SqL K H a (ns.map V.int) → HOk P w H s₁.heap → (∀ b, H b ≠ none → b = a) → (H a ≠ none → K.lookup a = none) →
   codeAny (model P w) callerA (.call (.ref fa) ⟨[.ref a], []⟩) (fun r s' => r = .ok (.ret (.bool true)) ∧ OldK s₁.heap s'.heap ∧ s'.os = s₁.os ∧ AllBare s'.gens) s₁ := by
  intro H hO hS hok hA hK
  have base_of : ∀ {b : Addr} {o : Obj}, s₁.heap.get? b = some o → H b = none → (hidT s₁.heap H).get? b = some o := fun e n => hidT_get e n
  have noA : ∀ {b : Addr} {o : Obj} {es : Array DictEntry} {ep : Nat}, s₁.heap.get? b = some o → o.data = .dict es ep → H b = none := fun {b o es ep} e d => by
   cases q : H b with
   | none => rfl
   | some u =>
    have e' : b = a := hA b (by rw [q]; simp)
    subst e'
    rw [ha] at e; cases e
    have d' : Data.seq vs.toArray _ = Data.dict es ep := d
    cases d'
  have nsK : ∀ {b : Addr} {m : Str → Option Value}, s₁.heap.Ns b m → (hidT s₁.heap H).Ns b m := fun {b m} ⟨o, es, ep, e, d, r⟩ => ⟨o, es, ep, base_of e (noA e d), d, r⟩
  have hKb : K.In (hidT s₁.heap H) := fun b o e => base_of (KX b o e) (by
   cases q : H b with
   | none => rfl
   | some u =>
    have e' : b = a := hA b (by rw [q]; simp)
    subst e'
    rw [hK (by rw [q]; simp)] at e; cases e)
  have hM : Mod K mg (hidT s₁.heap H) := ⟨hKb, nsK hns, ⟨mb, nsK hb, hbb⟩, let ⟨mc, h1, h2⟩ := hlim; ⟨mc, nsK h1, h2⟩⟩
  have e0 : Env0 P w K mg (hidT s₁.heap H) callerA [] s₁ H := ⟨rfl, hM, fun b o e => of_hidT e, Nat.le_of_eq (hidT_size _ _), trivial, fun b hb => absurd (show b ∈ ([] : List Addr) from hb) (by simp), hok, .of_eq hg⟩
  refine codeAny_mono ((F _ hKb (nsK hns)).run callerA [] s₁ H ⟨[.ref a], []⟩ [.ref a] [.ref a] _ _ hr e0 (hbind s₁ (.ref a)) (.cons rfl .nil) (hsp H hO hS)) fun r s' h => ?_
  cases r with
  | error e => exact (hCX H e s' h).elim
  | ok fl =>
   cases fl with
   | next => exact False.elim h
   | brk => exact False.elim h
   | cont => exact False.elim h
   | ret u =>
    obtain ⟨v, H', os, bare, un, hok', r', q⟩ := h
    have q' : v = .bl true := q
    subst q'
    obtain rfl : u = Value.bool true := r'
    refine ⟨rfl, OldK.of_keep fun b o e => ?_, os, bare⟩
    cases q : H b with
    | none => exact un.keep b o e q (by intro z; exact absurd (show b ∈ ([] : List Addr) from z) (by simp)) (by simp)
    | some u =>
     rcases hO b with z | ⟨ob, xs, z⟩
     ·rw [q] at z; cases z
     ·have z2 := un.frzs b ob _ z
      obtain ⟨e1, _⟩ := hok b _ z
      obtain ⟨e2, _⟩ := hok' b _ z2
      rw [e] at e1; cases e1
      exact e2
 cases hk : K.lookup a with
 | some o =>
  -- the script is one of the module's own objects
  have e := KX a o hk
  rw [ha] at e
  cases e
  refine core (fun _ => none) (fun _ => .inl rfl) (.inr ⟨_, vs.toArray, _, hk, rfl, rfl, rfl, by rw [List.size_toArray, lenV]; exact hl, by simpa using rv⟩) (fun b u z => by have z' : (none : Option HO) = some u := z; cases z') (fun b z => absurd rfl z) fun z => absurd rfl z
 | none =>
  refine core (fun b => if b = a then some (.frz { cls := .type "list", data := .seq vs.toArray } (.lst (ns.map V.int))) else none) (fun b => ?_) (.inl (.inr ⟨{ cls := .type "list", data := .seq vs.toArray }, if_pos rfl⟩)) (fun b u z => ?_) (fun b z => ?_) fun _ => hk
  ·by_cases hb : b = a
   ·exact .inr ⟨_, _, if_pos hb⟩
   ·exact .inl (if_neg hb)
  ·by_cases hb : b = a
   ·have z' := (if_pos hb).symm.trans z
    cases z'
    subst hb
    exact ⟨ha, by rw [List.length_map]; exact hl, vs, _, rv, ha⟩
   ·have z' := (if_neg hb).symm.trans z
    cases z'
  ·by_cases hb : b = a
   ·exact hb
   ·exact absurd (if_neg hb) z
end L2
namespace L2
open PySem PySem.Spec PyProof.Rows
theorem walk_of {l : PySem.W.OpenLaw} {n k : Nat} {q : Program} {loose : List Str} {XP : (Str → Option Value) → Heap → Prop} {YP : World → Heap → Prop} {d : DefRec} {K : Params → PySem.W.Frag} {CX : World → CXT} {sp : World → Sp} {x : Str}
  (hn : l.most = some n) (hn2 : n ≤ sizeLine) (hdf : d.params.defaults = []) (hr : Room k callerA)
  (hY : ∀ (w : World) (h : Heap), YP w h → (K w.params).In h)
  (F : ∀ (w : World) (mg : Str → Option Value) (fa : Addr) (h : Heap), (K w.params).In h → h.Ns mainGlobals mg → mg d.name = some (.ref fa) →
   ∃ fd : FuncData, (∀ (s : Shared) (u : Value), BindsTo s fd ⟨[u], []⟩ [(x, u)]) ∧
    ∀ base : Heap, (K w.params).In base → base.Ns mainGlobals mg → FnOk l.prog w (K w.params) mg base (CX w) k fa fd [x] (sp w))
  (hsp : ∀ (w : World) (H : Hp) (a : Addr) (ns : List Int), ns.length ≤ n → Only H → SqL (K w.params) H a (ns.map V.int) → sp w [.ref a] H (fun v _ => v = .bl true) fun _ _ _ => False)
  (hCX : ∀ (w : World) (H : Hp) (s : Shared) (e : Value) (s' : Shared), CX w [] H s (fun _ _ _ => False) e s' → False) :
  PySem.W.WalkO q loose XP YP l.row.toRowW d [] (fun f vs => PySem.call f vs) := by
 refine Att.attach_call hn hdf fun w s₀ s₁ mg mb fa o pm cd doc a vs ns G Y ho hd hcd hmg hobj hints hlen hg => ?_
 have KX := hY w _ Y
 obtain ⟨fd, hb, hF⟩ := F w mg fa _ KX G.T.g hmg
 exact law_call KX G.T.g G.T.b G.T.builtins G.T.nolimit hg hobj hints (Nat.le_trans hlen hn2) hr hF hb (fun H hO hS => hsp w H a ns hlen hO hS) fun H e s' => hCX w H s₁ e s'
end L2
namespace L2
open PySem PySem.Spec PyProof.Rows
def defArgs (s : Stmt) : Arguments := match s with
 | .FunctionDef _ a _ _ _ _ _ _ _ _ => a
 | _ => { posonlyargs := [], args := [], vararg := none, kwonlyargs := [], kw_defaults := [], kwarg := none, defaults := [] }
def defBody (s : Stmt) : List Stmt := match s with
 | .FunctionDef _ _ b _ _ _ _ _ _ _ => b
 | _ => []
def defScope (s : Stmt) : Scope := match s with
 | .FunctionDef _ _ _ _ _ _ sc _ _ _ => sc
 | _ => { kind := .function, names := [], isGenerator := false, isCoroutine := false }
abbrev CX0 : CXT := fun _ _ _ _ _ _ => False
abbrev E0 : XK := fun _ _ _ => False
theorem pass0 {X : Cx} : Passes CX0 X E0 := fun _ _ _ _ _ _ _ h => h.elim
structure Fun (K : PySem.W.Frag) (x qual : Str) (st : Stmt) (f : Addr) (fd : FuncData) : Prop where
 ex : ∃ (oc : Value) (od : Option Addr) (kV doc pm : Value) (an : Option Addr) (cdv ct : Value) (osl : Array (Option Value)),
  fd = PySem.W.fnOf x qual (defArgs st) (defBody st) (defScope st) .none kV doc pm an cdv ct ∧ K.lookup f = some ⟨oc, od, .func fd, osl⟩ ∧ PySem.W.codeIn K cdv qual = true
 kp : PySem.W.keepIn K (.ref f) = true
section
variable {P : Program} {w : World} {K : PySem.W.Frag} {mg : Str → Option Value} {base : Heap}
theorem Fun.ok {x qual : Str} {st : Stmt} {f : Addr} {fd : FuncData} {N ps : List Str} {k : Nat} {sp : Sp} (F : Fun K x qual st f fd) (S : FnScope N ps (defScope st)) (len : ∀ vs H Q E, sp vs H Q E → vs.length = ps.length)
  (hbody : ∀ (cdv : Value) (A : Around) (outer : List Env) (s : Shared) (H : Hp) (vs : List V) (Q : VK) (E : XK), Room k (A.deeper (envOfC qual (defScope st) s.heap.objs.size f cdv)) → sp vs H Q E →
   ∃ t, PSs (cxOf CX0 P w K mg base N qual (defScope st) f cdv A outer s H E).nox (defBody st) t ∧ t { nx := fun _ H' => Q .non H', rt := Q } (start N vs) H) : FnOk P w K mg base CX0 (k + 1) f fd ps sp := by
 obtain ⟨oc, od, kV, doc, pm, an, cdv, ct, osl, rfl, lk, hcd⟩ := F.ex
 refine fn_of lk hcd S len fun A outer s H vs Q E hr hsp => ?_
 obtain ⟨t, h, q⟩ := hbody cdv A outer s H vs Q E hr hsp
 exact ⟨t, h.nox, q⟩
theorem Fun.binds {x qual : Str} {st : Stmt} {f : Addr} {fd : FuncData} {ps : List Str} (F : Fun K x qual st f fd)
  (h : ∀ (kV doc pm : Value) (an : Option Addr) (cdv ct : Value) (us : List Value), us.length = ps.length → bindArgs (PySem.W.fnOf x qual (defArgs st) (defBody st) (defScope st) .none kV doc pm an cdv ct) ⟨us, []⟩ = pure (ps.zip us)) : Binds K fd ps [] := by
 obtain ⟨oc, od, kV, doc, pm, an, cdv, ct, osl, rfl, lk, hcd⟩ := F.ex
 exact .all (h kV doc pm an cdv ct)
theorem fun_mk {x qual : Str} {st : Stmt} {f : Addr} {oc : Value} {od an : Option Addr} {osl : Array (Option Value)} {kV doc pm cdv ct : Value} (l : K.lookup f = some ⟨oc, od, .func (PySem.W.fnOf x qual (defArgs st) (defBody st) (defScope st) .none kV doc pm an cdv ct), osl⟩)
  (c : PySem.W.codeIn K cdv qual = true) (k : PySem.W.keepIn K (.ref f) = true) : Fun K x qual st f (PySem.W.fnOf x qual (defArgs st) (defBody st) (defScope st) .none kV doc pm an cdv ct) := ⟨⟨oc, od, kV, doc, pm, an, cdv, ct, osl, rfl, l, c⟩, k⟩
end
theorem small1000 {n : Nat} (h : n ≤ 1000) : n < sizeLine := Nat.lt_of_le_of_lt h (by decide)
section
variable {X : Cx}
theorem pv (i : Nat) {x : Str} {pos : Pos} (hN : X.N[i]? = some x := by rfl) (hv : Vis X.env.scope x := by first | exact Or.inl rfl | exact Or.inr (Or.inl rfl) | exact Or.inr (Or.inr rfl)) (hd : (x == ("__debug__" : Str)) = false := by decide)
  (hcd : (x == ("__classdict__" : Str)) = false := by decide) : PE X (.Name x pos) (tVar i) := pe_var hN hv hd hcd
end
theorem iteF {A B : Prop} (h : B) : if false = true then A else B := by
 rw [if_neg Bool.false_ne_true]
 exact h
theorem ite2 {c A B : Prop} [Decidable c] (h1 : c → A) (h2 : ¬ c → B) : if c then A else B := by
 by_cases h : c
 ·rw [if_pos h]
  exact h1 h
 ·rw [if_neg h]
  exact h2 h
def Same (H H' : Hp) : Prop := ∀ b o, H b = some o → H' b = some o
theorem Same.refl (H : Hp) : Same H H := fun _ _ h => h
theorem Same.trans {H H1 H2 : Hp} (a : Same H H1) (b : Same H1 H2) : Same H H2 := fun c o h => b c o (a c o h)
theorem Same.free {H H' : Hp} (e : Same H H') {l : Addr} (h : H' l = Option.none) : H l = Option.none := by
 cases q : H l with
 | none => rfl
 | some o =>
  rw [e l o q] at h
  cases h
theorem Same.seq {K : PySem.W.Frag} {H H' : Hp} {a : Addr} {xs : List V} (e : Same H H') (h : SqL K H a xs) : SqL K H' a xs := by
 rcases h with (h | ⟨o, h⟩) | h
 ·exact .inl (.inl (e _ _ h))
 ·exact .inl (.inr ⟨o, e _ _ h⟩)
 ·exact .inr h
end L2
set_option Elab.async false
set_option linter.all false
set_option maxRecDepth 100000
namespace L2
open PySem PySem.Spec PyProof.Rows
theorem compLoop_any {prog : Program} {w : World} {A : Around} {R : Result → Shared → Prop} {s : Shared} {elt target iter : Expr} {ifs : List Expr} {scope : Scope} {pos : Pos} {it acc : Value} {env : Env} (I : Nat → Shared → Prop)
  (turn : ∀ n s, I n s → wpAny (model prog w) A (pyNext it) (fun r s₁ => match r with
   | none => R (.ok .next) s₁
   | some v => wpAny (model prog w) A (letOwnedTupleGo target it v) (fun _ s₁' => wpAny (model prog w) A (assign target env v) (fun _ s₂ =>
     wpAny (model prog w) A (forIn ifs true fun c r => if r = true then do let ok ← isTrue c env (eval c env); pure (ForInStep.yield ok) else pure (ForInStep.yield r)) (fun ok s₃ =>
      if ok = true then wpAny (model prog w) A (eval elt env) (fun x s₄ =>
       wpAny (model prog w) A (call (.builtin "list.append") [acc, x]) (fun _ s₅ => ∃ m, m < n ∧ I m s₅) (notedBy (model prog w) A env fun e s' => R (.error e) s') s₄) (notedBy (model prog w) A env fun e s' => R (.error e) s') s₃
      else ∃ m, m < n ∧ I m s₃) (notedBy (model prog w) A env fun e s' => R (.error e) s') s₂) (notedBy (model prog w) A env fun e s' => R (.error e) s') s₁') (notedBy (model prog w) A env fun e s' => R (.error e) s') s₁) (notedBy (model prog w) A env fun e s' => R (.error e) s') s)
  (n : Nat) (h : I n s) :
  codeAny (model prog w) A (.compLoop (.ListComp elt [⟨target, iter, ifs, 0⟩] scope pos) 0 it acc env) R s := by
 refine codeAny_loop rfl I (fun n s hI => ?_) n h
 show wpAny _ A ((compTurn (.ListComp elt [⟨target, iter, ifs, 0⟩] scope pos) 0 it acc env).onRaise (fun x => do noteFrame x env; theTreesLotGoes x)) _ _ s
 refine wpAny_noted ?_
 rw [compTurn_list]
 refine wpAny_bind (wpAny_standAt (wpAny_bind (wpAny_mono (turn n s hI) (fun r s₁ h₁ => ?_) fun _ _ h' => h')))
 cases r with
 | none => exact wpAny_pure h₁
 | some v =>
  refine wpAny_bind (wpAny_mono h₁ (fun _ s₁' h₁' => ?_) fun _ _ h' => h')
  refine wpAny_bind (wpAny_mono h₁' (fun _ s₂ h₂ => wpAny_bind (wpAny_mono h₂ (fun ok s₃ h₃ => ?_) fun _ _ h' => h')) fun _ _ h' => h')
  cases ok with
  | false => exact wpAny_pure ⟨rfl, h₃⟩
  | true =>
   exact wpAny_bind (wpAny_bind (wpAny_mono h₃ (fun x s₄ h₄ => wpAny_bind (wpAny_mono h₄ (fun _ s₅ h₅ => wpAny_pure (wpAny_pure ⟨rfl, h₅⟩)) fun _ _ h' => h')) fun _ _ h' => h'))
structure PTs (X : Cx) (ifs : List Expr) (t : TT) : Prop where
 run : ∀ (pins : List (Addr × Obj)) (s : Shared) (σ : St) (H : Hp) (Q : Bool → Hp → Prop), Inv X pins σ H s → t σ H Q →
  wpAny (model X.prog X.w) X.A (forIn ifs true fun c r => if r = true then do let ok ← isTrue c X.env (eval c X.env); pure (ForInStep.yield ok) else pure (ForInStep.yield r)) (TP X pins σ Q) X.xe s
instance {X : Cx} {ifs : List Expr} {t : TT} : CoeFun (PTs X ifs t) fun _ => ∀ (pins : List (Addr × Obj)) (s : Shared) (σ : St) (H : Hp) (Q : Bool → Hp → Prop), Inv X pins σ H s → t σ H Q → wpAny (model X.prog X.w) X.A (forIn ifs true fun c r => if r = true then do let ok ← isTrue c X.env (eval c X.env); pure (ForInStep.yield ok) else pure (ForInStep.yield r)) (TP X pins σ Q) X.xe s := ⟨PTs.run⟩
def tTrue : TT := fun _ H Q => Q true H
theorem pts_nil {X : Cx} : PTs X [] tTrue := .mk fun _ _ _ H _ I h => wpAny_tests_nil ⟨H, I, h⟩
theorem pts_one {X : Cx} {c : Expr} {t : TT} (h : PT X c t) : PTs X [c] t := .mk fun pins s σ H Q I q => wpAny_tests_one (h pins s σ H Q I q)
def compCx (X : Cx) (Nc : List Str) (scope : Scope) (cl : List (Str × Addr)) (C : Addr) (s : Shared) (H : Hp) (fp : List Addr) (E : Value → Shared → Prop) : Cx where
 prog := X.prog
 w := X.w
 K := X.K
 mg := X.mg
 base := X.base
 A := X.A
 N := Nc
 s₀ := s
 H₀ := H
 env := compEnvC scope cl C X.env
 outer := X.stack
 stack := X.stack
 ex := fp
 calm := X.calm
 fn := fun _ => false
 pn := []
 xe := E
def CapOk (X : Cx) (scope : Scope) (cl : List (Str × Addr)) (j : Nat) (x : Str) : Prop :=
 X.N[j]? = some x ∧ Vis X.env.scope x ∧ X.env.kindOf x ≠ some .local ∧ (relabel scope X.env).names.lookup x ≠ some .local ∧ ((relabel scope X.env).names.lookup x = some .cell ∨ (relabel scope X.env).names.lookup x = some .free)
structure CompOk (X : Cx) (scope : Scope) (cl : List (Str × Addr)) (own : List Str) (cap : List (Nat × Str)) : Prop where
 clos : closureFor scope X.env = pure cl
 cell : ∀ y ∈ scope.names, y.2 ≠ .cell
 kind : scope.kind = .function
 names : ∀ y ∈ scope.names, y.2 = .local → scope.names.lookup y.1 = some .local
 sub : ∀ x c, cl.lookup x = some c → X.env.cells.lookup x = some c
 has : ∀ p ∈ (relabel scope X.env).names, p.2 = .cell ∨ p.2 = .free → (cl.lookup p.1).isSome = true
 caps : ∀ p ∈ cap, CapOk X scope cl p.1 p.2
def compSt (own : List Str) (cap : List (Nat × Str)) (σ : St) : St := List.replicate own.length none ++ cap.map fun p => (σ[p.1]?).getD none
theorem lookup_mem {α : Type} : ∀ {l : List (Str × α)} {n : Str} {c : α}, l.lookup n = some c → (n, c) ∈ l := fun h => mem_of_lookup h
section
variable {X : Cx} {pins : List (Addr × Obj)} {σ : St} {H : Hp} {s : Shared} {scope : Scope} {cl : List (Str × Addr)} {own : List Str} {cap : List (Nat × Str)} {fp : List Addr} {E : Value → Shared → Prop}
theorem CompOk.hasX (c : CompOk X scope cl own cap) (x : Str) (h : (relabel scope X.env).names.lookup x = some .cell ∨ (relabel scope X.env).names.lookup x = some .free) : ∃ a, cl.lookup x = some a := by
 have : (cl.lookup x).isSome = true := by
  rcases h with h | h
  ·exact c.has (x, .cell) (lookup_mem h) (.inl rfl)
  ·exact c.has (x, .free) (lookup_mem h) (.inr rfl)
 exact Option.isSome_iff_exists.mp this
theorem comp_ok (c : CompOk X scope cl own cap) (I : Inv X pins σ H s) (hf : ∀ b ∈ fp, FpOk X pins H b) (hlt : ∀ b ∈ fp, b < s.heap.objs.size) {C : Addr} (hC : s.heap.objs.size ≤ C) :
  (compCx X (own ++ cap.map (·.2)) scope cl C s H fp E).Ok where
 mod := I.ok.mod
 kind := c.kind
 glob := I.ok.glob
 blt := I.ok.blt
 above := hC
 inj := fun x y a h1 h2 => I.ok.inj x y a (c.sub x a h1) (c.sub y a h2)
 has := fun x h => c.hasX x h
 cab := fun x a h => absurd h (by intro z; exact Bool.noConfusion z)
 hd := I.ok.hd
 frames := I.ok.frames
 stk := .inl rfl
 exf := fun b hb => ⟨fun z => by
   have := hlt b hb
   rw [z] at this
   exact absurd (Nat.lt_of_lt_of_le this hC) (Nat.lt_irrefl _), fun x a h => (hf b hb).2.2.2.2.1 x a (c.sub x a h)⟩
 bs := I.bs
 bsz := Nat.le_trans I.ok.bsz I.sz
 noex := fun b o e hb => by
  rcases (hf b hb).2.2.2.1 with z | z
  ·exact I.ok.noex b o e z
  ·exact absurd (Nat.lt_of_lt_of_le (Heap.lt_size (I.ok.bs b o e).1) z) (Nat.lt_irrefl _)
 exfs := fun b hb hs => by
  rcases List.mem_cons.mp (I.stkSub b hs) with z | z
  ·exact (hf b hb).2.1 z
  ·exact (hf b hb).2.2.1 z
 funs := I.stack
 frf := I.stkFree
theorem compSt_get {own : List Str} {cap : List (Nat × Str)} {σ : St} {i : Nat} {x : Str} {v : V} (h1 : (own ++ cap.map (·.2))[i]? = some x) (h2 : (compSt own cap σ)[i]? = some (some v)) : ∃ p ∈ cap, p.2 = x ∧ σ[p.1]? = some (some v) := by
 unfold compSt at h2
 by_cases hi : i < own.length
 ·rw [List.getElem?_append_left (by simpa using hi), List.getElem?_replicate] at h2
  split at h2 <;> cases h2
 ·rw [List.getElem?_append_right (by simpa using hi)] at h2 h1
  rw [List.length_replicate, List.getElem?_map] at h2
  rw [List.getElem?_map] at h1
  cases e : cap[i - own.length]? with
  | none => rw [e] at h2; cases h2
  | some p =>
   rw [e] at h1 h2
   refine ⟨p, List.mem_of_getElem? e, Option.some.inj h1, ?_⟩
   have h3 : (σ[p.1]?).getD none = some v := Option.some.inj h2
   cases q : σ[p.1]? with
   | none => rw [q] at h3; cases h3
   | some z => rw [q] at h3; exact congrArg some h3
theorem comp_inv (c : CompOk X scope cl own cap) (I : Inv X pins σ H s) (hf : ∀ b ∈ fp, FpOk X pins H b) (hlt : ∀ b ∈ fp, b < s.heap.objs.size) {h₁ : Heap} {tk : Nat} {m : Str → Option Value}
  (hk : ∀ b o, s.heap.get? b = some o → h₁.get? b = some o) (hD : h₁.get? s.heap.objs.size = some { cls := .type "list", data := .seq ([] : List Value).toArray }) (hn : h₁.Ns (s.heap.objs.size + 1) m) :
  Inv (compCx X (own ++ cap.map (·.2)) scope cl (s.heap.objs.size + 1) s H fp E) [] (compSt own cap σ) (upd H s.heap.objs.size (.lst [])) { s with heap := h₁, toks := tk } := by
 have hfr : H s.heap.objs.size = none := I.fresh
 have hfr1 : H (s.heap.objs.size + 1) = none := I.hok.fresh (Nat.le_succ _)
 have hnew : ObjOk X.prog X.w (upd H s.heap.objs.size (.lst [])) h₁ s.heap.objs.size (.lst []) := ⟨Nat.zero_le _, [], 0, .nil, hD⟩
 refine ⟨comp_ok c I hf hlt (Nat.le_succ _), rfl, I.bare, Un.laid hk (Nat.le_refl _) hfr, ⟨m, hn, fun i x v e1 e2 _ => ?_⟩, fun x a e => ?_, ?_, fun x a e => ?_, fun p hp => absurd (show p ∈ ([] : List (Addr × Obj)) from hp) (by simp), I.hok.laid hk (Nat.le_refl _) hnew, ?_⟩
 ·obtain ⟨p, hp, ex, es⟩ := compSt_get e1 e2
  obtain ⟨q1, q2, q3, q4, q5⟩ := c.caps p hp
  rw [ex] at q1 q2 q3 q4 q5
  obtain ⟨m', hn', hl⟩ := I.loc
  obtain ⟨u, r, l⟩ := hl p.1 x v q1 es q2
  refine ⟨u, r, ?_⟩
  rcases l with l | ⟨k, a, e, z⟩
  ·exact absurd l.1 q3
  ·obtain ⟨a', e'⟩ := c.hasX x q5
   have ea := c.sub x a' e'
   rw [e] at ea
   cases ea
   exact .inr ⟨q5, a, e', z.keeps hk⟩
 ·obtain ⟨v, z⟩ := I.cell x a (c.sub x a e)
  exact ⟨v, z.keeps hk⟩
 ·show upd H s.heap.objs.size (.lst []) (s.heap.objs.size + 1) = none
  rw [upd_ne (Nat.succ_ne_self _)]
  exact hfr1
 ·obtain ⟨v, z⟩ := I.cell x a (c.sub x a e)
  show upd H s.heap.objs.size (.lst []) a = none
  rw [upd_ne (Nat.ne_of_lt z.lt)]
  exact I.freeC x a (c.sub x a e)
 ·show (compSt own cap σ).length = (own ++ cap.map (·.2)).length
  simp [compSt]
theorem comp_after {s2 : Shared} {H' : Hp} {σ' : St} {C : Addr} {Nc : List Str} {pins' : List (Addr × Obj)} (I : Inv X pins σ H s) (hf : ∀ b ∈ fp, FpOk X pins H b) (hC : s.heap.objs.size ≤ C) (J : Inv (compCx X Nc scope cl C s H fp E) pins' σ' H' s2) :
  Inv X pins σ H' s2 ∧ FpOk X pins H' C := by
 have os : s2.os = s.os := J.os
 have un : Un (frs X.stack) fp H H' s.heap s2.heap := J.base
 exact ⟨I.call' os un J.hok J.bare fun b hb => ⟨(hf b hb).2.2.2.1, (hf b hb).2.1, (hf b hb).2.2.2.2.1, (hf b hb).2.2.2.2.2⟩, I.fpOk hC J.free⟩
end
def tComp (wi : TI) (g : TG) (tc : TT) (te : TE) (own : List Str) (cap : List (Nat × Str)) : TE := fun σ H Q => wi σ H fun J H1 => ∀ D, H1 D = none →
 ∃ W : Nat → Nat → St → List V → Hp → Prop, (∃ m, W 0 m (compSt own cap σ) [] (upd H1 D (.lst []))) ∧ ∀ i m σ' ys H', W i m σ' ys H' → H' D = some (.lst ys) ∧
  ((J.stop i H' ∧ Q (.ref D) H') ∨ (J.go i H' ∧ ys.length < sizeLine ∧ ∃ N : St → List V → Hp → Prop, (∀ σ ys H, N σ ys H → ∃ m', m' < m ∧ W (i + 1) m' σ ys H) ∧ ∀ x H2, J.yld i H' x H2 → g x σ' H2 fun σ3 H3 => tc σ3 H3 fun b H4 => if b = true then te σ3 H4 fun y H5 => H5 D = some (.lst ys) ∧ N σ3 (ys ++ [y]) (upd H5 D (.lst (ys ++ [y])))
   else N σ3 ys H4))
section
variable {X : Cx} {scope : Scope} {cl : List (Str × Addr)} {own : List Str} {cap : List (Nat × Str)} {tg iter elt : Expr} {ifs : List Expr} {wi : TI} {g : TG} {tc : TT} {te : TE} {pos : Pos}
theorem comp_block {pins : List (Addr × Obj)} {σ : St} {s2 : Shared} {H2 : Hp} {it : Addr} {fp : List Addr} {tn : Nat → Heap → Prop} {J : It} {Q : VK} {RR : Value → Addr → Result → Shared → Prop} {E' : Value → Shared → Prop}
  (c : CompOk X scope cl own cap) (hc : X.calm = true)
  (hg : ∀ C s H fp, PG (compCx X (own ++ cap.map (·.2)) scope cl C s H fp fun _ _ => False) tg g) (ht : ∀ C s H fp, PTs (compCx X (own ++ cap.map (·.2)) scope cl C s H fp fun _ _ => False) ifs tc)
  (he : ∀ C s H fp, PE (compCx X (own ++ cap.map (·.2)) scope cl C s H fp fun _ _ => False) elt te)
  (I2 : Inv X pins σ H2 s2) (T : Turn X.prog X.w X.K tg J fp it tn) (st2 : tn 0 s2.heap) (f2 : ∀ b ∈ fp, FpOk X pins H2 b)
  (hw : ∀ D, H2 D = none → ∃ W : Nat → Nat → St → List V → Hp → Prop, (∃ m, W 0 m (compSt own cap σ) [] (upd H2 D (.lst []))) ∧ ∀ i m σ' ys H', W i m σ' ys H' → H' D = some (.lst ys) ∧
   ((J.stop i H' ∧ Q (.ref D) H') ∨ (J.go i H' ∧ ys.length < sizeLine ∧ ∃ N : St → List V → Hp → Prop, (∀ σ ys H, N σ ys H → ∃ m', m' < m ∧ W (i + 1) m' σ ys H) ∧ ∀ x H2, J.yld i H' x H2 → g x σ' H2 fun σ3 H3 => tc σ3 H3 fun b H4 => if b = true then te σ3 H4 fun y H5 => H5 D = some (.lst ys) ∧ N σ3 (ys ++ [y]) (upd H5 D (.lst (ys ++ [y])))
    else N σ3 ys H4)))
  (hRR : ∀ D C s' H' m, Inv X pins σ H' s' → FpOk X pins H' C → s'.heap.Ns C m → Q (.ref D) H' → RR (.ref D) C (.ok .next) s') :
  wpAny (model X.prog X.w) X.A (newList []) (fun acc s₃ => wpAny (model X.prog X.w) X.A (newFunctionEnv scope X.env.globals cl [] X.env.qual none .none (some X.env)) (fun cenv s₄ =>
   codeAny (model X.prog X.w) X.A (.compStart (.ListComp elt [⟨tg, iter, ifs, 0⟩] scope pos) 0 (.ref it) acc { cenv with scope := relabel scope X.env }) (RR acc cenv.locals) s₄) E' s₃) E' s2 := by
 refine wpAny_newObj_type (wpAny_newFunctionEnv c.cell (by intro y hy; simp at hy) (fun h₁ hns₁ hsb₁ => ?_) c.kind)
 dsimp only at hns₁ hsb₁ ⊢
 have hsz : (s2.heap.push { cls := .type "list", dict := none, data := .seq ([] : List Value).toArray }).objs.size = s2.heap.objs.size + 1 := Heap.size_push _ _
 have kk : ∀ b o, s2.heap.get? b = some o → h₁.get? b = some o := fun b o e => hsb₁.extBut b o (by rw [hsz]; exact Nat.ne_of_lt (Nat.lt_succ_of_lt (Heap.lt_size e))) (Heap.get?_push_of_some _ (Heap.get?_push_of_some _ e))
 have hD : h₁.get? s2.heap.objs.size = some { cls := .type "list", data := .seq ([] : List Value).toArray } :=
  hsb₁.extBut _ _ (by rw [hsz]; exact Nat.ne_of_lt (Nat.lt_succ_self _)) (Heap.get?_push_of_some _ (Heap.get?_push_size _ rfl))
 rw [hsz] at hns₁ ⊢
 have hlt : ∀ b ∈ fp, b < s2.heap.objs.size := fun b hb => by
  obtain ⟨o, e, _⟩ := T.obj _ _ st2 b hb
  exact Heap.lt_size e
 obtain ⟨W, ⟨m0, w0⟩, turn⟩ := hw s2.heap.objs.size I2.fresh
 have J1 := comp_inv (E := fun _ _ => False) c I2 f2 hlt (tk := s2.toks + ([] : List (Str × Value)).length) kk hD hns₁
 generalize hX' : compCx X (own ++ cap.map (·.2)) scope cl (s2.heap.objs.size + 1) s2 H2 fp (fun _ _ => False) = X' at J1
 have hg' : PG X' tg g := hX' ▸ hg _ _ _ _
 have ht' : PTs X' ifs tc := hX' ▸ ht _ _ _ _
 have he' : PE X' elt te := hX' ▸ he _ _ _ _
 have pX : X'.prog = X.prog := by rw [← hX']; rfl
 have wX : X'.w = X.w := by rw [← hX']; rfl
 have kX : X'.K = X.K := by rw [← hX']; rfl
 have aX : X'.A = X.A := by rw [← hX']; rfl
 have cX : X'.calm = true := by rw [← hX']; exact hc
 have nX : X'.env = compEnvC scope cl (s2.heap.objs.size + 1) X.env := by rw [← hX']; rfl
 have xX : X'.xe = fun _ _ => False := by rw [← hX']; rfl
 have fX : ∀ b ∈ fp, ∀ {H' : Hp}, H' b = none → FpOk X' [] H' b := fun b hb {H'} hn => by
  have o1 := (comp_ok (E := fun _ _ => False) c I2 f2 hlt (C := s2.heap.objs.size + 1) (Nat.le_succ _)).exf b hb
  have o2 := (comp_ok (E := fun _ _ => False) c I2 f2 hlt (C := s2.heap.objs.size + 1) (Nat.le_succ _)).exfs b hb
  rw [← hX']
  exact ⟨hn, o1.1, o2, .inl hb, o1.2, fun p hp => absurd (show p ∈ ([] : List (Addr × Obj)) from hp) (by simp)⟩
 have fin : ∀ {σ' : St} {H' : Hp} {s' : Shared}, Inv X' [] σ' H' s' → Q (.ref s2.heap.objs.size) H' → RR (.ref s2.heap.objs.size) (s2.heap.objs.size + 1) (.ok .next) s' := fun {σ' H' s'} J' q => by
  rw [← hX'] at J'
  obtain ⟨A1, A2⟩ := comp_after I2 f2 (Nat.le_succ _) J'
  obtain ⟨m, hm, _⟩ := J'.loc
  exact hRR _ _ s' H' m A1 A2 hm q
 have loop : codeAny (model X.prog X.w) X.A (.compLoop (.ListComp elt [⟨tg, iter, ifs, 0⟩] scope pos) 0 (.ref it) (.ref s2.heap.objs.size) (compEnvC scope cl (s2.heap.objs.size + 1) X.env)) (RR (.ref s2.heap.objs.size) (s2.heap.objs.size + 1))
   { s2 with heap := h₁, toks := s2.toks + ([] : List (Str × Value)).length } := by
  refine compLoop_any (fun n s' => ∃ i σ' ys H', Inv X' [] σ' H' s' ∧ tn i s'.heap ∧ (∀ b ∈ fp, H' b = none) ∧ W i n σ' ys H') ?_ m0
   ⟨0, _, [], _, J1, T.keep _ _ _ st2 fun b _ o e => kk b o e, fun b hb => by rw [upd_ne (Nat.ne_of_lt (hlt b hb))]; exact (f2 b hb).1, w0⟩
  rintro n s3 ⟨i, σ3, ys, H3, I3, st3, fr3, w3⟩
  obtain ⟨hDl, w4⟩ := turn i n σ3 ys H3 w3
  rw [← nX, ← aX, ← pX, ← wX]
  have nox : ∀ {α : Type} {t : Sem α} {Q1 : α → Shared → Prop} {E1 : Value → Shared → Prop} {s : Shared}, wpAny (model X'.prog X'.w) X'.A t Q1 X'.xe s → wpAny (model X'.prog X'.w) X'.A t Q1 E1 s := fun {α t Q1 E1 s} h => by
   rw [xX] at h
   exact wpAny_mono h (fun _ _ q => q) fun _ _ f => f.elim
  rcases w4 with ⟨stop, qn⟩ | ⟨go, hys, N, hN, step⟩
  ·have d := T.done X' pX wX kX cX i [] s3 σ3 H3 X'.xe I3 (fun b hb => fX b hb (fr3 b hb)) st3 stop
   rw [← pX, ← wX] at d
   refine nox (thn d fun r s4 ⟨hr, I4⟩ => ?_)
   subst hr
   exact fin I4 qn
  ·have d := T.item X' pX wX kX cX i [] s3 σ3 H3 X'.xe I3 (fun b hb => fX b hb (fr3 b hb)) st3 go
   rw [← pX, ← wX] at d
   refine nox (thn d fun r s4 ⟨u, hr, h4⟩ => ?_)
   subst hr
   refine nox (thn h4 fun _ s5 ⟨x, H5, I5, r5, y5, st5, fr5⟩ => ?_)
   have I5' := I5.pinned (fun b hb => fX b hb (fr5 b hb)) (T.obj _ _ st5)
   have again : ∀ {σ7 : St} {H7 : Hp} {s7 : Shared} {ys' : List V}, Inv X' ([] ++ pinsAt fp s5.heap) σ7 H7 s7 → N σ7 ys' H7 →
     ∃ m, m < n ∧ ∃ i σ' ys H', Inv X' [] σ' H' s7 ∧ tn i s7.heap ∧ (∀ b ∈ fp, H' b = none) ∧ W i m σ' ys H' := fun {σ7 H7 s7 ys'} I7 n7 => by
    obtain ⟨m', hm, w7⟩ := hN _ _ _ n7
    refine ⟨m', hm, i + 1, σ7, ys', H7, I7.unpinned, T.keep _ _ _ st5 fun b hb o e => (I7.pin (b, o) (List.mem_append_right _ (List.mem_append_right _ (mem_pinsAt hb e)))).1, fun b hb => ?_, w7⟩
    obtain ⟨o, e, d⟩ := T.obj _ _ st5 b hb
    exact (I7.pin (b, o) (List.mem_append_right _ (List.mem_append_right _ (mem_pinsAt hb e)))).2.1
   refine nox (thn (hg' _ s5 σ3 H5 x u _ I5' r5 (step x H5 y5)) fun _ s6 ⟨σ6, H6, I6, q6⟩ => ?_)
   refine nox (thn (ht' _ s6 σ6 H6 _ I6 q6) fun b s7 ⟨H7, I7, q7⟩ => ?_)
   cases b with
   | false =>
    rw [if_neg Bool.false_ne_true] at q7 ⊢
    exact again I7 q7
   | true =>
    rw [if_pos rfl] at q7 ⊢
    refine nox (thn (he' _ s7 σ6 H7 _ I7 q7) fun u8 s8 ⟨y8, H8, I8, r8, d8, q8⟩ => ?_)
    refine nox (thn (mt_append _ s8 σ6 H8 (.ref s2.heap.objs.size) [y8] (.ref s2.heap.objs.size) [u8] (fun _ H9 => N σ6 (ys ++ [y8]) H9) I8 rfl (.cons r8 .nil) ⟨_, ys, y8, rfl, rfl, d8, hys, q8⟩) fun _ s9 ⟨_, H9, I9, _, q9⟩ => ?_)
    exact again I9 q9
 exact codeAny_compStart_list loop (T.self X.A 0 _ _ _ (T.keep _ _ _ st2 fun b _ o e => kk b o e) loop)
theorem pe_comp (c : CompOk X scope cl own cap) (hc : X.calm = true) (hi : PI X tg iter wi)
  (hg : ∀ C s H fp, PG (compCx X (own ++ cap.map (·.2)) scope cl C s H fp fun _ _ => False) tg g) (ht : ∀ C s H fp, PTs (compCx X (own ++ cap.map (·.2)) scope cl C s H fp fun _ _ => False) ifs tc)
  (he : ∀ C s H fp, PE (compCx X (own ++ cap.map (·.2)) scope cl C s H fp fun _ _ => False) elt te) (hs : ∀ x, foldedSetIterable iter X.env x = pure x := by intro _; rfl) :
  PE X (.ListComp elt [⟨tg, iter, ifs, 0⟩] scope pos) (tComp wi g tc te own cap) := by
 refine .mk ?_
 intro pins s σ H Q I h
 rw [eval_ListComp]
 refine wpAny_comprehension_free (use := none) rfl hs c.clos c.kind c.names (thn (hi pins s σ H _ I h) fun v s1 h1 => thn h1 fun itv s2 h2 => ?_)
 obtain ⟨it, fp, tn, J, H2, e, I2, T, st2, f2, hw⟩ := h2
 subst e
 refine comp_block (Q := Q) (RR := fun acc C => compPost (model X.prog X.w) X.A X.xe none (EP X pins σ Q) acc C) c hc hg ht he I2 T st2 f2 hw ?_
 intro D C s' H' m I' hC hm q
 refine ⟨m, hm, fun h' hs' => ⟨.ref D, H', ?_, rfl, q⟩⟩
 exact I'.turned (t' := s'.toks) (fun b o hb e => (hs'.2 b hb).trans e) hC.1 hC.2.1 hC.2.2.2.1 hC.2.2.2.2.1 hC.2.2.2.2.2
def tCompS (i : Nat) (t : TE) : TS := fun D σ H => t σ H fun x H1 => D.nx (σ.set i (some x)) H1
theorem ps_comp {i : Nat} {y : Str} {py spos : Pos} (c : CompOk X scope cl own cap) (hc : X.calm = true) (hi : PI X tg iter wi)
  (hg : ∀ C s H fp, PG (compCx X (own ++ cap.map (·.2)) scope cl C s H fp fun _ _ => False) tg g) (ht : ∀ C s H fp, PTs (compCx X (own ++ cap.map (·.2)) scope cl C s H fp fun _ _ => False) ifs tc)
  (he : ∀ C s H fp, PE (compCx X (own ++ cap.map (·.2)) scope cl C s H fp fun _ _ => False) elt te)
  (hN : X.N.Nodup) (hy : X.N[i]? = some y) (hl : X.env.scope.names.lookup y = some .local)
  (hsw : swapsWith (.ListComp elt [⟨tg, iter, ifs, 0⟩] scope pos) (some (.Name y py)) spos.line X.env = pure true := by rfl) (hs : ∀ x, foldedSetIterable iter X.env x = pure x := by intro _; rfl) :
  PS X (.Assign [.Name y py] (.ListComp elt [⟨tg, iter, ifs, 0⟩] scope pos) spos) (tCompS i (tComp wi g tc te own cap)) := by
 refine .mk ?_
 intro pins s σ H D I h
 rw [exec_Assign_Name_used _ _ _ _ hsw]
 refine wpAny_bind (wpAny_standAt (wpAny_bind ?_))
 show wpAny _ X.A (do let _ ← comprehension (.ListComp elt [⟨tg, iter, ifs, 0⟩] scope pos) scope X.env _ (newList []) false (eval iter X.env) (some (assign (.Name y py) X.env))) _ _ s
 refine wpAny_bind (wpAny_mono (wpAny_comprehension_free (use := some (assign (.Name y py) X.env)) (Q := fun _ s' => SP X pins D .next s') rfl hs c.clos c.kind c.names (thn (hi pins s σ H _ I h) fun v s1 h1 => thn h1 fun itv s2 h2 => ?_)) (fun _ s' hq => wpAny_pure (wpAny_pure hq)) fun _ _ e => e)
 obtain ⟨it, fp, tn, J, H2, e, I2, T, st2, f2, hw⟩ := h2
 subst e
 refine comp_block (Q := fun x H1 => D.nx (σ.set i (some x)) H1) (RR := fun acc C => compPost (model X.prog X.w) X.A X.xe (some (assign (.Name y py) X.env)) (fun _ s' => SP X pins D .next s') acc C) c hc hg ht he I2 T st2 f2 hw ?_
 intro D' C s' H' m I' hC hm q
 show wpAny _ X.A (assign (.Name y py) X.env (.ref D')) _ _ _
 refine wpAny_assign_Name (store_ok2 (v := .ref D') I' hN hy (.inl hl) rfl (fun s'' I'' ch => ?_) (.inr hl))
 obtain ⟨a, sb, ha⟩ := ch
 have hCa : C ≠ a := by
  rcases ha with ha | ha
  ·rw [ha]; exact hC.2.1
  ·exact fun z => hC.2.2.2.2.1 _ _ ha z.symm
 refine ⟨m, hm.sameBut sb hCa, fun h' hs' => ⟨_, H', ?_, q⟩⟩
 exact I''.turned (t' := s''.toks) (fun b o hb e => (hs'.2 b hb).trans e) hC.1 hC.2.1 hC.2.2.2.1 hC.2.2.2.2.1 hC.2.2.2.2.2
end
section
variable {K : PySem.W.Frag} {a : Addr} {xs : List V} {g : TG} {tc : TT} {te : TE} {own : List Str} {cap : List (Nat × Str)} {σ : St} {H1 : Hp} {QD : Hp → Prop} {D : Addr}
theorem comp_seq {J : It} (Pv : Nat → St → List V → Hp → Prop) (h0 : Pv 0 (compSt own cap σ) [] (upd H1 D (.lst [])))
  (hD : ∀ i σ ys H, i ≤ xs.length → Pv i σ ys H → H D = some (.lst ys) ∧ ys.length ≤ i)
  (hz : xs.length ≤ sizeLine)
  (hgo : ∀ i σ ys H, i < xs.length → Pv i σ ys H → J.go i H) (hst : ∀ σ ys H, Pv xs.length σ ys H → J.stop xs.length H)
  (hyl : ∀ i σ ys H x H', i < xs.length → Pv i σ ys H → J.yld i H x H' → H' = H ∧ xs[i]? = some x)
  (hs : ∀ i x σ ys H, xs[i]? = some x → Pv i σ ys H → g x σ H fun σ3 H3 => tc σ3 H3 fun b H4 => if b = true then te σ3 H4 fun y H5 => H5 D = some (.lst ys) ∧ Pv (i + 1) σ3 (ys ++ [y]) (upd H5 D (.lst (ys ++ [y]))) else Pv (i + 1) σ3 ys H4)
  (hd : ∀ σ ys H, Pv xs.length σ ys H → QD H) :
  ∃ W : Nat → Nat → St → List V → Hp → Prop, (∃ m, W 0 m (compSt own cap σ) [] (upd H1 D (.lst []))) ∧ ∀ i m σ' ys H', W i m σ' ys H' → H' D = some (.lst ys) ∧
   ((J.stop i H' ∧ QD H') ∨ (J.go i H' ∧ ys.length < sizeLine ∧ ∃ N : St → List V → Hp → Prop, (∀ σ ys H, N σ ys H → ∃ m', m' < m ∧ W (i + 1) m' σ ys H) ∧ ∀ x H2, J.yld i H' x H2 → g x σ' H2 fun σ3 H3 => tc σ3 H3 fun b H4 => if b = true then te σ3 H4 fun y H5 => H5 D = some (.lst ys) ∧ N σ3 (ys ++ [y]) (upd H5 D (.lst (ys ++ [y])))
    else N σ3 ys H4)) := by
 refine ⟨fun i m σ ys H => m = xs.length - i ∧ i ≤ xs.length ∧ Pv i σ ys H, ⟨xs.length, by simp, Nat.zero_le _, h0⟩, ?_⟩
 rintro i m σ' ys H' ⟨rfl, hi, p⟩
 have q := hD i σ' ys H' hi p
 refine ⟨q.1, ?_⟩
 by_cases hlt : i < xs.length
 ·refine .inr ⟨hgo i σ' ys H' hlt p, by omega, Pv (i + 1), fun σ' ys' H' p' => ⟨xs.length - (i + 1), by omega, rfl, hlt, p'⟩, fun x H2 y => ?_⟩
  obtain ⟨e, hx⟩ := hyl i σ' ys H' x H2 hlt p y
  subst e
  exact hs i x σ' ys _ hx p
 ·have e : i = xs.length := by omega
  subst e
  exact .inl ⟨hst σ' ys H' p, hd σ' ys H' p⟩
theorem comp_list (Pv : Nat → St → List V → Hp → Prop) (h0 : Pv 0 (compSt own cap σ) [] (upd H1 D (.lst [])))
  (hD : ∀ i σ ys H, i ≤ xs.length → Pv i σ ys H → H D = some (.lst ys) ∧ ys.length ≤ i ∧ SqL K H a xs)
  (hz : xs.length ≤ sizeLine)
  (hs : ∀ i x σ ys H, xs[i]? = some x → Pv i σ ys H → g x σ H fun σ3 H3 => tc σ3 H3 fun b H4 => if b = true then te σ3 H4 fun y H5 => H5 D = some (.lst ys) ∧ Pv (i + 1) σ3 (ys ++ [y]) (upd H5 D (.lst (ys ++ [y]))) else Pv (i + 1) σ3 ys H4)
  (hd : ∀ σ ys H, Pv xs.length σ ys H → QD H) :
  ∃ W : Nat → Nat → St → List V → Hp → Prop, (∃ m, W 0 m (compSt own cap σ) [] (upd H1 D (.lst []))) ∧ ∀ i m σ' ys H', W i m σ' ys H' → H' D = some (.lst ys) ∧
   (((Itl K a).stop i H' ∧ QD H') ∨ ((Itl K a).go i H' ∧ ys.length < sizeLine ∧ ∃ N : St → List V → Hp → Prop, (∀ σ ys H, N σ ys H → ∃ m', m' < m ∧ W (i + 1) m' σ ys H) ∧ ∀ x H2, (Itl K a).yld i H' x H2 → g x σ' H2 fun σ3 H3 => tc σ3 H3 fun b H4 => if b = true then te σ3 H4 fun y H5 => H5 D = some (.lst ys) ∧ N σ3 (ys ++ [y]) (upd H5 D (.lst (ys ++ [y])))
    else N σ3 ys H4)) :=
 comp_seq (xs := xs) Pv h0 (fun i σ ys H hi p => ⟨(hD i σ ys H hi p).1, (hD i σ ys H hi p).2.1⟩) hz
  (fun i σ ys H hi p => ⟨xs, xs[i], (hD i σ ys H (Nat.le_of_lt hi) p).2.2, by simp [hi]⟩) (fun σ ys H p => ⟨xs, (hD _ σ ys H (Nat.le_refl _) p).2.2, Nat.le_refl _⟩)
  (fun i σ ys H x H' hi p y => ⟨y.1, y.2 xs (hD i σ ys H (Nat.le_of_lt hi) p).2.2⟩) hs hd
end
end L2
set_option Elab.async false
set_option linter.all false
set_option maxRecDepth 100000
namespace L2
open PySem PySem.Spec PyProof.Rows
section
variable {X : Cx}
theorem op_mulB : OpR X (binaryOp .Mult) (rI (fun i j => i.natAbs < 2 ^ 200 ∧ j.natAbs < 2 ^ 200) fun i j => .int (i * j)) :=
 opI fun i j _ _ _ _ _ hc q => mul_int q (.of_bits (Nat.le_trans (intBits_le hc.1) (by decide)) (Nat.le_trans (intBits_le hc.2) (by decide)))
theorem call_sumL (hc : X.calm = true) : CallR X (.builtin "sum") (fun xs H Q => ∃ (p : Addr) (ns : List Int), xs = [.ref p] ∧ SqL X.K H p (ns.map V.int) ∧ Q (.int ns.sum) H) := by
 intro pins s σ H xs us Q I r h
 obtain ⟨p, ns, rfl, hq, q⟩ := h
 obtain ⟨u, rfl, ru⟩ := vals1 r
 cases ru
 obtain ⟨its, rv, pl, hz⟩ := I.list hq
 have hi := intsAre_of rv
 have hall : AllInts its.toArray := hi.allInts
 obtain ⟨zs, hzs⟩ := hall.items
 have hn : numsOf its = ns := hi.numsOf
 have hl : s.heap.IsList p (intItems zs) := by rw [← hzs]; exact pl.isList
 refine sum_intListG (I.ok.hd hc) hl fun h' tk t' k => ⟨.int ns.sum, H, I.kept k, ⟨t', ?_⟩, q⟩
 have e : numsOf (intItems zs).toList = ns := by rw [← hzs]; exact hn
 rw [nums_intItems] at e
 rw [preSum_eq, List.take_of_length_le (by simp), e]
end
section
variable {prog : Program} {w : World} {A : Around} {R : Result → Shared → Prop} {I : Addr} {fp wr : List Addr} {n : Nat} {P : Nat → Value → Prop} {St : Nat → Heap → Prop}
end
def topOf : List Int → Int
 | [] => 0
 | [x] => x
 | x :: y :: r => max x (topOf (y :: r))
section
variable {X : Cx} {x : Str} {e v : Expr} {te tv : TE} {p pos kpos : Pos}
end
section
variable {X : Cx}
theorem op_neNil (hu : X.A.units < cLine) : OpR X (compareOp .NotEq) (fun x y H Q => ∃ a b xs, x = .ref a ∧ y = .ref b ∧ SqL X.K H a xs ∧ SqL X.K H b [] ∧ Q (.bl (!xs.isEmpty)) H) := by
 intro pins s σ H x y v u Q I rx ry h
 obtain ⟨a, b, xs, rfl, rfl, ha, hb, q⟩ := h
 cases rx
 cases ry
 obtain ⟨its, rv, pl, hz⟩ := I.list ha
 obtain ⟨its2, rv2, pl2, hz2⟩ := I.list hb
 cases rv2
 cases xs with
 | nil =>
  cases rv
  exact SeqAt.RcNeAt.lists (e := fun _ => true) pl.isList pl2.isList rfl hu (fun j h1 _ => absurd h1 (by simp)) _ _ _ _ ⟨.bl false, H, I, rfl, q⟩
 | cons x r =>
  cases rv with
  | cons r1 r2 => exact SeqAt.RcNeAt.lists_lengths pl.isList pl2.isList (by simp) hu _ _ _ _ ⟨.bl true, H, I, rfl, q⟩
end
def cutN {α : Type} (xs : List α) (lo hi : Option Int) : List α := (xs.drop (HT.sIx xs.length 0 lo)).take (HT.sIx xs.length xs.length hi - HT.sIx xs.length 0 lo)
theorem cutN_length {α : Type} (xs : List α) (lo hi : Option Int) : (cutN xs lo hi).length ≤ xs.length := by
 unfold cutN
 rw [List.length_take, List.length_drop]
 omega
theorem clip1 (v : Int) (n d : Nat) : max (0 : Int) (min (if v < 0 then v + (n : Int) else v) (n : Int)) = ((HT.sIx n d (some v) : Nat) : Int) := by
 show _ = (((if v < 0 then (v + (n : Int)).toNat else min v.toNat n) : Nat) : Int)
 by_cases hv : v < 0
 ·rw [if_pos hv, if_pos hv]; omega
 ·rw [if_neg hv, if_neg hv]; omega
theorem idx_clip (lo hi : Option Int) (n : Nat) : Builtin.Str.strSliceIndices lo hi 1 n = Builtin.Str.strSliceIndices (some ((HT.sIx n 0 lo : Nat) : Int)) (some ((HT.sIx n n hi : Nat) : Int)) 1 n := by
 have a1 := HT.sIx_le n 0 (Nat.zero_le _) lo
 have a2 := HT.sIx_le n n (Nat.le_refl _) hi
 have n1 : ¬ (((HT.sIx n 0 lo : Nat) : Int) < 0) := by omega
 have n2 : ¬ (((HT.sIx n n hi : Nat) : Int) < 0) := by omega
 have e1 : max (0 : Int) (min ((HT.sIx n 0 lo : Nat) : Int) (n : Int)) = ((HT.sIx n 0 lo : Nat) : Int) := by omega
 have e2 : max (0 : Int) (min ((HT.sIx n n hi : Nat) : Int) (n : Int)) = ((HT.sIx n n hi : Nat) : Int) := by omega
 have p1 : ((1 : Int) > 0) = True := by simp
 simp only [Builtin.Str.strSliceIndices, n1, n2, if_false, e1, e2, p1, if_true]
 cases lo with
 | none =>
  cases hi with
  | none => rfl
  | some v => simp only [clip1 v n n]; rfl
 | some u =>
  cases hi with
  | none => simp only [clip1 u n 0]; rfl
  | some v => simp only [clip1 u n 0, clip1 v n n]
theorem idx_none {a b n : Nat} (h : b ≤ a) : Builtin.Str.strSliceIndices (some (a : Int)) (some (b : Int)) 1 n = [] := by
 have n1 : ¬ ((a : Int) < 0) := by omega
 have n2 : ¬ ((b : Int) < 0) := by omega
 have p1 : ((1 : Int) > 0) = True := by simp
 have p2 : ¬ (max (0 : Int) (min (a : Int) (n : Int)) < max (0 : Int) (min (b : Int) (n : Int))) := by omega
 simp only [Builtin.Str.strSliceIndices, PySem.sliceRange, n1, n2, if_false, p1, if_true, p2]
 rfl
theorem strIdx_cut (x : Str) (lo hi : Option Int) : (StrLaws.sliceText x lo hi).cps.toList = cutN x.cps.toList lo hi := by
 have hn : x.cps.toList.length = x.length := by simp [Str.length]
 unfold cutN
 rw [hn]
 have a2 := HT.sIx_le x.length x.length (Nat.le_refl _) hi
 by_cases h : HT.sIx x.length 0 lo ≤ HT.sIx x.length x.length hi
 ·have q := StrLaws.sliceText_nat x h a2
  have e : StrLaws.sliceText x lo hi = StrLaws.sliceText x (some ((HT.sIx x.length 0 lo : Nat) : Int)) (some ((HT.sIx x.length x.length hi : Nat) : Int)) := by
   unfold StrLaws.sliceText
   rw [idx_clip lo hi x.length]
  rw [e, q]
 ·have z : HT.sIx x.length x.length hi - HT.sIx x.length 0 lo = 0 := by omega
  rw [z, List.take_zero]
  unfold StrLaws.sliceText
  rw [idx_clip lo hi x.length, idx_none (by omega)]
  split
  ·rename_i c
   have c' : (0 : Nat) = x.length := by simpa using c
   exact List.eq_nil_of_length_eq_zero (by rw [hn]; exact c'.symm)
  ·rfl
def rSlS : V → Option Int → Option Int → Hp → VK → Prop := fun x lo hi H Q => ∃ z : Str, x = .str z ∧ z.length ≤ sizeLine ∧ ∀ y : Str, y.cps.toList = cutN z.cps.toList lo hi → Q (.str y) H
theorem sl_str {X : Cx} : SlR X rSlS := by
 intro pins s σ H x v vl vu lo hi sl Q I rx hs pl pu h
 obtain ⟨z, rfl, hz, q⟩ := h
 obtain ⟨t, rfl⟩ := rx
 refine ⟨"str", _, F.slot_str_getitem.lookup, typeIs_str _ z t, ?_⟩
 have fin : ∀ (l u : Option (Int × Tok)), l.map (·.1) = lo → u.map (·.1) = hi → s.heap.IsSlice sl l u none → wpAny (model X.prog X.w) X.A (getItem (.str z t) (.ref sl)) (EP X pins σ Q) X.xe s := fun l u el eu hq => by
  refine wpAny_getItem_str_slice hq rfl ?_
  have hc := strIdx_cut z lo hi
  unfold StrLaws.sliceText at hc
  unfold sliceMade slicePicked
  rw [el, eu]
  show (if ((1 : Int) == 1 && (Builtin.Str.strSliceIndices lo hi 1 z.length).length == z.length) = true then Made.val (.str z t) else .str ⟨((Builtin.Str.strSliceIndices lo hi 1 z.length).filterMap (z.cps[·]?)).toArray⟩).post (EP X pins σ Q) s
  split
  ·rename_i c
   rw [if_pos c] at hc
   exact ⟨.str z, H, I, ⟨t, rfl⟩, q z hc⟩
  ·rename_i c
   rw [if_neg c] at hc
   have hl : (Str.mk ((Builtin.Str.strSliceIndices lo hi 1 z.length).filterMap (z.cps[·]?)).toArray).length ≤ z.length := by
    have e := cutN_length z.cps.toList lo hi
    rw [← hc] at e
    simpa [Str.length] using e
   exact ⟨Nat.le_trans hl hz, .str ⟨((Builtin.Str.strSliceIndices lo hi 1 z.length).filterMap (z.cps[·]?)).toArray⟩, H, I.tok _, ⟨_, rfl⟩, q _ hc⟩
 cases pl with
 | none =>
  cases pu with
  | none => exact fin none none rfl rfl hs
  | int j t' => exact fin none (some (j, t')) rfl rfl hs
 | int i t'' =>
  cases pu with
  | none => exact fin (some (i, t'')) none rfl rfl hs
  | int j t' => exact fin (some (i, t'')) (some (j, t')) rfl rfl hs
section
variable {X : Cx} {x : Expr} {te : TE} {p p2 pos : Pos} {T : Str} {Ty : String}
def tInst (K : PySem.W.Frag) (Ty : String) (te : TE) : TE := fun σ H Q => te σ H fun v H1 => ∃ v', [v, V.ty Ty] = [v', V.ty Ty] ∧ ∃ t b, TyOf K H1 v' t ∧ PySem.W.kitOne K t (.type Ty) = some b ∧ Q (.bl b) H1
theorem pe_inst (hg : Gl X "isinstance") (hm : X.mg "isinstance" = none) (hgT : Gl X T) (hmT : X.mg T = none) (hvT : bootBuiltins T = some (.type Ty)) (he : PE X x te) (hn : T ≠ "__name__" := by decide) (hdT : (T == ("__debug__" : Str)) = false := by decide)
  (hs : starEach [x, .Name T p2] X.env = (false, eval x X.env) :: starEach [.Name T p2] X.env := by rfl) (hs2 : starEach [.Name T p2] X.env = [(false, eval (.Name T p2) X.env)] := by rfl)
  (hpl : (backTo pos (starEach [.Name T p2] X.env)).any (·.1) = false := by rfl) :
  PE X (.Call (.Name "isinstance" p) [x, .Name T p2] [] pos) (tInst X.K Ty te) := by
 have c : CallR X (.builtin "isinstance") (fun xs H Q => ∃ v, xs = [v, .ty Ty] ∧ ∃ t b, TyOf X.K H v t ∧ PySem.W.kitOne X.K t (.type Ty) = some b ∧ Q (.bl b) H) := by
  intro pins s σ H xs us Q I r h
  obtain ⟨v, rfl, t, b, ty, e, q⟩ := h
  obtain ⟨u, w', rfl, ru, rw'⟩ := vals2 r
  cases (show w' = Value.type Ty from rw')
  exact isinst_ok I ru ty e fun tk => ⟨.bl b, H, I.tok tk, rfl, q⟩
 have pa : PA X [x, .Name T p2] (tCons te (tCons (tC (.ty Ty)) tNil)) := pa_cons he (pa_cons (pe_bltn hgT hmT hvT rfl hn hdT) pa_nil hs2) hs
 exact pe_callB (p := p) (pos := pos) c hg hm PyProof.Rows.boot_isinstance pa (by decide) (by decide) hs hpl
end
end L2
set_option Elab.async false
set_option linter.all false
set_option maxRecDepth 100000
namespace L2
open PySem PySem.Spec PyProof.Rows
def Callee (P : Program) (w : World) (K : PySem.W.Frag) (mg : Str → Option Value) (base : Heap) (x : Str) (k : Nat) (ps : List Str) (sp : Sp) : Prop :=
 ∃ f fd, FnOk P w K mg base CX0 k f fd ps sp ∧ mg x = some (.ref f) ∧ PySem.W.keepIn K (.ref f) = true ∧ Binds K fd ps []
theorem Callee.mono {P : Program} {w : World} {K : PySem.W.Frag} {mg : Str → Option Value} {base : Heap} {x : Str} {j k : Nat} {ps : List Str} {sp : Sp} (c : Callee P w K mg base x j ps sp) (h : j ≤ k) : Callee P w K mg base x k ps sp := by
 obtain ⟨f, fd, F, m, kp, b⟩ := c
 exact ⟨f, fd, F.mono h, m, kp, b⟩
theorem Callee.imp {P : Program} {w : World} {K : PySem.W.Frag} {mg : Str → Option Value} {base : Heap} {x : Str} {k : Nat} {ps : List Str} {sp sp' : Sp} (c : Callee P w K mg base x k ps sp) (h : ∀ vs H Q E, sp' vs H Q E → sp vs H Q E) : Callee P w K mg base x k ps sp' := by
 obtain ⟨f, fd, F, m, kp, b⟩ := c
 exact ⟨f, fd, F.imp h, m, kp, b⟩
section
variable {X : Cx} {x : Str} {k j : Nat} {ps : List Str} {sp : Sp} {p pos : Pos} {e : Expr} {es : List Expr} {t : TA}
theorem pe_callC (c : Callee X.prog X.w X.K X.mg X.base x k ps sp) (hr : Room j X.A) (hk : k ≤ j) (hg : Gl X x) (ha : PA X (e :: es) t) (hdb : (x == ("__debug__" : Str)) = false := by decide)
  (he : starEach (e :: es) X.env = (false, eval e X.env) :: starEach es X.env := by rfl) (hpl : (backTo pos (starEach es X.env)).any (·.1) = false := by rfl) : PE X (.Call (.Name x p) (e :: es) [] pos) (tCall sp [] E0 t) := by
 obtain ⟨f, fd, F, m, kp, b⟩ := c
 exact pe_call F (hr.mono hk) hg m kp b .nil pass0 ha hdb he hpl
end
section
variable {X : Cx} {scope : Scope} {own : List Str}
theorem mem_relabel {env : Env} {p : Str × NameKind} (h : p ∈ (relabel scope env).names) : ∃ q ∈ scope.names, q.1 = p.1 ∧ (p.2 = q.2 ∨ (q.2 = .free ∧ p.2 = .cell)) := by
 obtain ⟨q, hq, e⟩ := List.mem_map.mp (show p ∈ scope.names.map _ from h)
 refine ⟨q, hq, ?_⟩
 obtain ⟨n, k⟩ := q
 dsimp only at e
 split at e
 ·rename_i c
  subst e
  refine ⟨rfl, .inr ⟨?_, rfl⟩⟩
  simp only [Bool.and_eq_true, beq_iff_eq] at c
  exact c.1.1
 ·subst e
  exact ⟨rfl, .inl rfl⟩
theorem compOk0 (hk : scope.kind = .function) (hn : ∀ y ∈ scope.names, y.2 ≠ .free ∧ y.2 ≠ .cell) (hl : ∀ y ∈ scope.names, y.2 = .local → scope.names.lookup y.1 = some .local) : CompOk X scope [] own [] where
 clos := closureFor_none fun y hy => (hn y hy).1
 cell := fun y hy => (hn y hy).2
 kind := hk
 names := hl
 sub := fun x c h => nomatch h
 has := fun p hp h => by
  obtain ⟨q, hq, e1, e2⟩ := mem_relabel hp
  have n := hn q hq
  rcases e2 with e2 | ⟨e2, _⟩
  ·rw [e2] at h
   rcases h with h | h
   ·exact absurd h n.2
   ·exact absurd h n.1
  ·exact absurd e2 n.1
 caps := fun p hp => nomatch hp
def AllCl (cells : List (Str × Addr)) : List (Str × Addr) → Prop
 | [] => True
 | p :: r => cells.lookup p.1 = some p.2 ∧ AllCl cells r
theorem AllCl.mem {cells : List (Str × Addr)} : ∀ {cl : List (Str × Addr)}, AllCl cells cl → ∀ p ∈ cl, cells.lookup p.1 = some p.2
 | [], _, p, h => nomatch h
 | q :: r, h, p, hp => by
  rcases List.mem_cons.mp hp with rfl | hp
  ·exact h.1
  ·exact AllCl.mem h.2 p hp
def AllCap (X : Cx) (scope : Scope) : List (Nat × Str) → Prop
 | [] => True
 | p :: r => (X.N[p.1]? = some p.2 ∧ X.env.kindOf p.2 = some .cell ∧ (relabel scope X.env).names.lookup p.2 = some .cell) ∧ AllCap X scope r
theorem AllCap.mem : ∀ {cap : List (Nat × Str)}, AllCap X scope cap → ∀ p ∈ cap, X.N[p.1]? = some p.2 ∧ X.env.kindOf p.2 = some .cell ∧ (relabel scope X.env).names.lookup p.2 = some .cell
 | [], _, p, h => nomatch h
 | q :: r, h, p, hp => by
  rcases List.mem_cons.mp hp with rfl | hp
  ·exact h.1
  ·exact AllCap.mem h.2 p hp
theorem compOkC {cl : List (Str × Addr)} {cap : List (Nat × Str)} (hk : scope.kind = .function) (hn : ∀ y ∈ scope.names, y.2 ≠ .cell) (hl : ∀ y ∈ scope.names, y.2 = .local → scope.names.lookup y.1 = some .local)
  (hc : closureFor scope X.env = pure cl) (ha : AllCl X.env.cells cl) (hh : ((relabel scope X.env).names.all fun p => !(p.2 == .cell || p.2 == .free) || (cl.lookup p.1).isSome) = true) (hcap : AllCap X scope cap) : CompOk X scope cl own cap where
 clos := hc
 cell := hn
 kind := hk
 names := hl
 sub := fun x c h => ha.mem _ (mem_of_lookup h)
 has := fun p hp h => by
  have q := List.all_eq_true.mp hh p hp
  rcases h with h | h <;> · rw [h] at q; simpa using q
 caps := fun p hp => by
  obtain ⟨h1, h2, h3⟩ := hcap.mem p hp
  exact ⟨h1, .inr (.inl h2), by rw [h2]; decide, by rw [h3]; decide, .inl h3⟩
end
def tCut (t : TS) : TS := fun D σ H => ∃ P : St → Hp → Prop, t { D with nx := P } σ H ∧ ∀ σ H, P σ H → D.nx σ H
theorem ps_cut {X : Cx} {st : Stmt} {t : TS} (h : PS X st t) : PS X st (tCut t) := by
 refine .mk ?_
 intro pins s σ H D I q
 obtain ⟨P, q1, q2⟩ := q
 refine thn (h pins s σ H _ I q1) fun f s' z => ?_
 cases f with
 | next => obtain ⟨σ', H', I', p⟩ := z; exact ⟨σ', H', I', q2 _ _ p⟩
 | brk => exact z
 | cont => exact z
 | ret u => exact z
theorem bt_bool : bootBuiltins "bool" = some (.type "bool") := by decide +kernel
theorem bt_int : bootBuiltins "int" = some (.type "int") := by decide +kernel
theorem bt_str : bootBuiltins "str" = some (.type "str") := by decide +kernel
theorem bt_tuple : bootBuiltins "tuple" = some (.type "tuple") := by decide +kernel
theorem bt_list : bootBuiltins "list" = some (.type "list") := by decide +kernel
def Kp (l : List Addr) (H H' : Hp) : Prop := ∀ b o, b ∉ l → H b = some o → H' b = some o
theorem Kp.refl {l : List Addr} (H : Hp) : Kp l H H := fun _ _ _ h => h
theorem Kp.trans {l : List Addr} {H H1 H2 : Hp} (a : Kp l H H1) (b : Kp l H1 H2) : Kp l H H2 := fun c o n h => b c o n (a c o n h)
theorem Kp.mono {l l' : List Addr} {H H1 : Hp} (a : Kp l H H1) (s : ∀ b ∈ l, b ∈ l') : Kp l' H H1 := fun c o n h => a c o (fun z => n (s c z)) h
theorem Kp.new {l : List Addr} {H : Hp} {p : Addr} (h : H p = none) (o : HO) : Kp l H (upd H p o) := fun b u _ q => by rw [upd_ne (ne_of_none q h)]; exact q
theorem Kp.set {l : List Addr} {H : Hp} {p : Addr} (h : p ∈ l) (o : HO) : Kp l H (upd H p o) := fun b u n q => by
 have e : b ≠ p := fun z => n (by rw [z]; exact h)
 rw [upd_ne e]; exact q
def Tp (H H' : Hp) : Prop := ∀ b xs, H b = some (.tup xs) → H' b = some (.tup xs)
theorem Tp.refl (H : Hp) : Tp H H := fun _ _ h => h
theorem Tp.trans {H H1 H2 : Hp} (a : Tp H H1) (b : Tp H1 H2) : Tp H H2 := fun c o h => b c o (a c o h)
theorem Kp.tp {l : List Addr} {H H' : Hp} (k : Kp l H H') (n : ∀ b ∈ l, ∀ xs, H b ≠ some (.tup xs)) : Tp H H' := fun b xs h => k b _ (fun z => n b z xs h) h
end L2
set_option Elab.async false
set_option linter.all false
set_option maxRecDepth 100000
namespace Tg
open PySem L2
inductive Kd where
 | num (w : Int)
 | text
 | row (k : Kd)
 | rec_ (fs : List (Str × Kd))
 | pick (fs : List (Str × Kd))
mutual
def Kd.size : Kd → Int
 | .num w => w
 | .text => 1
 | .row _ => 1
 | .rec_ fs => (sizesF fs).sum
 | .pick fs => 1 + topOf (sizesF fs)
def sizesF : List (Str × Kd) → List Int
 | [] => []
 | (_, k) :: r => k.size :: sizesF r
end
mutual
def Kd.depth : Kd → Nat
 | .num _ => 1
 | .text => 1
 | .row k => k.depth + 1
 | .rec_ fs => depthF fs + 1
 | .pick fs => depthF fs + 1
def depthF : List (Str × Kd) → Nat
 | [] => 0
 | (_, k) :: r => max k.depth (depthF r)
end
mutual
def KIn (H : Hp) : V → Kd → Prop
 | v, .num w => ∃ a, v = .ref a ∧ H a = some (.tup [.str "num", .int w])
 | v, .text => ∃ a, v = .ref a ∧ H a = some (.tup [.str "text"])
 | v, .row k => ∃ a u, v = .ref a ∧ H a = some (.tup [.str "row", u]) ∧ KIn H u k
 | v, .rec_ fs => ∃ a f xs, v = .ref a ∧ H a = some (.tup [.str "rec", .ref f]) ∧ H f = some (.tup xs) ∧ FIn H xs fs
 | v, .pick fs => ∃ a f xs, v = .ref a ∧ H a = some (.tup [.str "pick", .ref f]) ∧ H f = some (.tup xs) ∧ FIn H xs fs
def FIn (H : Hp) : List V → List (Str × Kd) → Prop
 | xs, [] => xs = []
 | xs, (nm, k) :: r => ∃ p u ys, xs = .ref p :: ys ∧ H p = some (.tup [.str nm, u]) ∧ KIn H u k ∧ FIn H ys r
end
mutual
theorem KIn.mono {H H' : Hp} (t : Tp H H') : ∀ {k : Kd} {v : V}, KIn H v k → KIn H' v k
 | .num w, v, h => by
  unfold KIn at h ⊢
  obtain ⟨a, e, h⟩ := h
  exact ⟨a, e, t _ _ h⟩
 | .text, v, h => by
  unfold KIn at h ⊢
  obtain ⟨a, e, h⟩ := h
  exact ⟨a, e, t _ _ h⟩
 | .row k, v, h => by
  unfold KIn at h ⊢
  obtain ⟨a, u, e, h, q⟩ := h
  exact ⟨a, u, e, t _ _ h, KIn.mono t q⟩
 | .rec_ fs, v, h => by
  unfold KIn at h ⊢
  obtain ⟨a, f, xs, e, h, h2, q⟩ := h
  exact ⟨a, f, xs, e, t _ _ h, t _ _ h2, FIn.mono t q⟩
 | .pick fs, v, h => by
  unfold KIn at h ⊢
  obtain ⟨a, f, xs, e, h, h2, q⟩ := h
  exact ⟨a, f, xs, e, t _ _ h, t _ _ h2, FIn.mono t q⟩
theorem FIn.mono {H H' : Hp} (t : Tp H H') : ∀ {fs : List (Str × Kd)} {xs : List V}, FIn H xs fs → FIn H' xs fs
 | [], xs, h => by
  unfold FIn at h ⊢
  exact h
 | (nm, k) :: r, xs, h => by
  unfold FIn at h ⊢
  obtain ⟨p, u, ys, e, h, q, z⟩ := h
  exact ⟨p, u, ys, e, t _ _ h, KIn.mono t q, FIn.mono t z⟩
end
theorem FIn.length {H : Hp} : ∀ {fs : List (Str × Kd)} {xs : List V}, FIn H xs fs → xs.length = fs.length
 | [], xs, h => by unfold FIn at h; subst h; rfl
 | (nm, k) :: r, xs, h => by
  unfold FIn at h
  obtain ⟨p, u, ys, e, _, _, z⟩ := h
  rw [e, List.length_cons, List.length_cons, FIn.length z]
theorem FIn.get {H : Hp} : ∀ {fs : List (Str × Kd)} {xs : List V} {i : Nat} {x : V}, FIn H xs fs → xs[i]? = some x → ∃ p nm u k, x = .ref p ∧ H p = some (.tup [.str nm, u]) ∧ KIn H u k ∧ fs[i]? = some (nm, k)
 | [], xs, i, x, h, e => by unfold FIn at h; rw [h] at e; cases e
 | (nm, k) :: r, xs, i, x, h, e => by
  unfold FIn at h
  obtain ⟨p, u, ys, e1, h1, h2, z⟩ := h
  subst e1
  cases i with
  | zero => cases e; exact ⟨p, nm, u, k, rfl, h1, h2, rfl⟩
  | succ i => exact FIn.get (i := i) z e
theorem FIn.snoc {H : Hp} {nm : Str} {k : Kd} {p : Addr} {u : V} : ∀ {fs : List (Str × Kd)} {xs : List V}, FIn H xs fs → H p = some (.tup [.str nm, u]) → KIn H u k → FIn H (xs ++ [.ref p]) (fs ++ [(nm, k)])
 | [], xs, h, h1, h2 => by
  unfold FIn at h
  subst h
  show FIn H [.ref p] [(nm, k)]
  unfold FIn
  exact ⟨p, u, [], rfl, h1, h2, by unfold FIn; rfl⟩
 | (nm', k') :: r, xs, h, h1, h2 => by
  unfold FIn at h
  obtain ⟨q, u', ys, e1, g1, g2, z⟩ := h
  subst e1
  show FIn H (.ref q :: (ys ++ [.ref p])) ((nm', k') :: (r ++ [(nm, k)]))
  unfold FIn
  exact ⟨q, u', _, rfl, g1, g2, FIn.snoc z h1 h2⟩
theorem depthF_le : ∀ {fs : List (Str × Kd)} {p : Str × Kd}, p ∈ fs → p.2.depth ≤ depthF fs
 | (nm, k) :: r, p, h => by
  unfold depthF
  rcases List.mem_cons.mp h with rfl | h
  ·exact Nat.le_max_left _ _
  ·exact Nat.le_trans (depthF_le h) (Nat.le_max_right _ _)
theorem depthF_snoc {nm : Str} {k : Kd} : ∀ {fs : List (Str × Kd)} {n : Nat}, depthF fs ≤ n → k.depth ≤ n → depthF (fs ++ [(nm, k)]) ≤ n
 | [], n, _, h => by show depthF [(nm, k)] ≤ n; unfold depthF; unfold depthF; omega
 | (nm', k') :: r, n, h, h2 => by
  show depthF ((nm', k') :: (r ++ [(nm, k)])) ≤ n
  unfold depthF at h ⊢
  have := depthF_snoc (fs := r) (n := n) (nm := nm) (k := k) (by omega) h2
  omega
mutual
/-- a kind as the document tells it: widths, fields one to six, no name twice, names of one to eight small letters -/
def Kd.good : Kd → Prop
 | .num w => 1 ≤ w ∧ w ≤ 4
 | .text => True
 | .row k => k.good
 | .rec_ fs => goodF fs ∧ 1 ≤ fs.length ∧ fs.length ≤ 6 ∧ (fs.map (·.1)).Nodup
 | .pick fs => goodF fs ∧ 1 ≤ fs.length ∧ fs.length ≤ 6 ∧ (fs.map (·.1)).Nodup
def goodF : List (Str × Kd) → Prop
 | [] => True
 | (nm, k) :: r => (1 ≤ nm.length ∧ nm.length ≤ 8 ∧ ∀ c ∈ nm.cps.toList, 97 ≤ c ∧ c ≤ 122) ∧ k.good ∧ goodF r
end
end Tg
set_option Elab.async false
set_option linter.all false
set_option maxRecDepth 100000
namespace Tg
open PySem L2
def Lets (z : Str) : Prop := ∀ c ∈ z.cps.toList, 97 ≤ c ∧ c ≤ 122
def Nm (z : Str) : Prop := 1 ≤ z.length ∧ z.length ≤ 8 ∧ Lets z
theorem len_codes (z : Str) : z.cps.toList.length = z.length := by simp [Str.length]
theorem app_codes (x y : Str) : (x ++ y).cps.toList = x.cps.toList ++ y.cps.toList := by rw [Str.cps_append, Array.toList_append]
theorem app_len (x y : Str) : (x ++ y).length = x.length + y.length := by rw [← len_codes, app_codes, List.length_append, len_codes, len_codes]
theorem Lets.app {x y : Str} (a : Lets x) (b : Lets y) : Lets (x ++ y) := fun c h => by
 rw [app_codes] at h
 rcases List.mem_append.mp h with h | h
 ·exact a c h
 ·exact b c h
theorem Lets.cut {x y : Str} {lo hi : Option Int} (a : Lets x) (e : y.cps.toList = cutN x.cps.toList lo hi) : Lets y := fun c h => by
 rw [e] at h
 exact a c (List.mem_of_mem_drop (List.mem_of_mem_take h))
theorem cut_le {x y : Str} {lo hi : Option Int} (e : y.cps.toList = cutN x.cps.toList lo hi) : y.length ≤ x.length := by
 rw [← len_codes, ← len_codes, e]; exact cutN_length _ _ _
theorem cut_head {x y : Str} {n : Int} (h : 0 ≤ n) (e : y.cps.toList = cutN x.cps.toList none (some n)) : y.length = min n.toNat x.length := by
 rw [← len_codes, e]
 unfold cutN
 have e1 : HT.sIx x.cps.toList.length x.cps.toList.length (some n) = min n.toNat x.cps.toList.length := by
  show (if n < 0 then _ else min n.toNat _) = _
  rw [if_neg (by omega)]
 rw [e1, HT.sIx_none, List.drop_zero, List.length_take, len_codes]
 omega
theorem lets_of {x : Str} (h : (x.cps.toList.all fun c => decide (97 ≤ c) && decide (c ≤ 122)) = true) : Lets x := fun c hc => by
 have q := List.all_eq_true.mp h c hc
 simpa using q
theorem nm_of {x : Str} (h : (decide (1 ≤ x.length) && decide (x.length ≤ 8) && x.cps.toList.all fun c => decide (97 ≤ c) && decide (c ≤ 122)) = true) : Nm x := by
 simp only [Bool.and_eq_true, decide_eq_true_eq] at h
 exact ⟨h.1.1, h.1.2, lets_of h.2⟩
abbrev abc : Str := "abcdefghijklmnopqrstuvwxyz"
theorem abc_len : abc.length = 26 := by decide +kernel
theorem abc_lets : Lets abc := lets_of (by decide +kernel)
theorem abc_at {r : Int} (h0 : 0 ≤ r) (h1 : r < 26) : ∃ c, atI abc.cps.toList r = some c ∧ 97 ≤ c ∧ c ≤ 122 := by
 have hl : abc.cps.toList.length = 26 := by rw [len_codes, abc_len]
 have hk : r.toNat < abc.cps.toList.length := by omega
 have e : r = ((r.toNat : Nat) : Int) := by omega
 have q : atI abc.cps.toList ((r.toNat : Nat) : Int) = some abc.cps.toList[r.toNat] := atI_nat (by rw [List.getElem?_eq_getElem hk] <;> rfl)
 rw [← e] at q
 exact ⟨_, q, abc_lets _ (List.getElem_mem hk)⟩
theorem at_some {α : Type} {xs : List α} {r : Int} (h0 : 0 ≤ r) (h1 : r < xs.length) : ∃ x, atI xs r = some x ∧ x ∈ xs := by
 have hk : r.toNat < xs.length := by omega
 have e : r = ((r.toNat : Nat) : Int) := by omega
 have q : atI xs ((r.toNat : Nat) : Int) = some xs[r.toNat] := atI_nat (by rw [List.getElem?_eq_getElem hk] <;> rfl)
 rw [← e] at q
 exact ⟨_, q, List.getElem_mem hk⟩
theorem sub_len {α : Type} [BEq α] [LawfulBEq α] : ∀ {l m : List α}, l.Nodup → (∀ x ∈ l, x ∈ m) → l.length ≤ m.length
 | [], m, _, _ => Nat.zero_le _
 | x :: r, m, nd, h => by
  have hx := h x List.mem_cons_self
  have e := List.length_erase_of_mem hx
  have nd' := List.nodup_cons.mp nd
  have ih := sub_len (l := r) (m := m.erase x) nd'.2 fun y hy => by
   refine (List.mem_erase_of_ne ?_).mpr (h y (List.mem_cons_of_mem _ hy))
   rintro rfl
   exact nd'.1 hy
  have : 0 < m.length := List.length_pos_of_mem hx
  rw [List.length_cons]
  omega
abbrev spareL : List Str := ["z", "y", "x", "w", "v", "u", "t"]
theorem spare_nd : spareL.Nodup := by decide +kernel
theorem spare_nm : ∀ z ∈ spareL, Nm z := by
 intro z hz
 simp only [List.mem_cons, List.not_mem_nil, or_false] at hz
 rcases hz with rfl | rfl | rfl | rfl | rfl | rfl | rfl <;> exact nm_of (by decide +kernel)
theorem inV_strs {x : Str} : ∀ {ss : List Str}, inV (.str x) (ss.map V.str) = decide (x ∈ ss)
 | [] => by simp [inV]
 | y :: r => by
  have ih := inV_strs (x := x) (ss := r)
  unfold inV at ih ⊢
  rw [List.map_cons, List.any_cons, ih]
  show (y == x || decide (x ∈ r)) = decide (x ∈ y :: r)
  rw [Bool.eq_iff_iff]
  simp only [Bool.or_eq_true, beq_iff_eq, decide_eq_true_eq, List.mem_cons]
  constructor
  ·rintro (h | h)
   ·exact .inl h.symm
   ·exact .inr h
  ·rintro (h | h)
   ·exact .inl h.symm
   ·exact .inr h
theorem flat_strs (ss : List Str) : (ss.map V.str).all flatV = true := by
 rw [List.all_eq_true]
 intro x hx
 obtain ⟨z, _, rfl⟩ := List.mem_map.mp hx
 rfl
theorem fresh_name {z : Str} {ss : List Str} (hz : Nm z) (h6 : ss.length ≤ 6) : ∃ y r, ((z :: spareL).filter fun x => !decide (x ∈ ss)) = y :: r ∧ Nm y ∧ y ∉ ss := by
 cases e : ((z :: spareL).filter fun x => !decide (x ∈ ss)) with
 | nil =>
  exfalso
  have h : ∀ x ∈ spareL, x ∈ ss := fun x hx => by
   have q := List.filter_eq_nil_iff.mp e x (List.mem_cons_of_mem _ hx)
   simpa using q
  have := sub_len spare_nd h
  simp at this
  omega
 | cons y r =>
  have hy : y ∈ ((z :: spareL).filter fun x => !decide (x ∈ ss)) := by rw [e]; exact List.mem_cons_self
  obtain ⟨h1, h2⟩ := List.mem_filter.mp hy
  refine ⟨y, r, rfl, ?_, by simpa using h2⟩
  rcases List.mem_cons.mp h1 with rfl | h1
  ·exact hz
  ·exact spare_nm y h1
abbrev wordsL : List Str := ["num", "text", "row", "rec", "pick", "none", "low", "told"]
theorem words_nm : ∀ z ∈ wordsL, Nm z := by
 intro z hz
 simp only [List.mem_cons, List.not_mem_nil, or_false] at hz
 rcases hz with rfl | rfl | rfl | rfl | rfl | rfl | rfl | rfl <;> exact nm_of (by decide +kernel)
end Tg
set_option Elab.async false
set_option linter.all false
set_option maxRecDepth 100000
set_option maxHeartbeats 1000000
namespace L2
open PySem PySem.Spec PyProof.Rows PySem.W
theorem exc_obj {K : Frag} {h : Heap} {C : Addr} {bmB : List Value} {newId : String} (X : K.In h) (q : excIn K C bmB newId = true) :
  ∃ bm N nm q bs hdct sn sub ab col dd k0 k1 k2 k3 k5 mN, h.get? C = some (excClassObj nm q C N bs bm hdct sn sub ab col dd k0 k1 k2 k3 k5 newId) ∧ h.Ns N mN ∧ mN "__init__" = none ∧ OwnTail h bmB bm := by
 unfold excIn at q
 split at q
 ·rename_i dd cd sl ho
  split at q
  ·rename_i C' bm k0 k1 k2 k3 n k5 hm hs
   simp only [Bool.and_eq_true, beq_iff_eq, Bool.not_eq_true'] at q
   obtain ⟨⟨⟨⟨⟨rfl, rfl⟩, hdel⟩, ht⟩, hok⟩, hni⟩ := q
   obtain ⟨nm, bs, mro, ns, qn, hd, sn, sub, ab, col, del⟩ := cd
   dsimp only at hm hdel hok hni
   subst hm hdel
   have hsl : sl = #[k0, k1, k2, k3, some (.builtin n), k5] := by
    obtain ⟨l⟩ := sl
    simp only at hs
    rw [hs]
   subst hsl
   exact ⟨bm, ns, nm, qn, bs, hd, sn, sub, ab, col, dd, k0, k1, k2, k3, k5, _, X _ _ ho, .of_isNs (isNs_of_in X hok), nsMap_none_of_in X hok hni, tail_of_in X ht⟩
  ·cases q
 ·cases q
structure UnB (fs : List Addr) (H H' : Hp) (h B h' : Heap) : Prop where
 keep : ∀ b o, h.get? b = some o → H b = none → b ∉ fs → B.get? b = some o
 slot : ∀ b o, h.get? b = some o → H b = none → b ∈ fs → ∃ sl, h'.get? b = some { o with slots := sl }
 free : ∀ b o, h.get? b = some o → H b = none → H' b = none
 there : ∀ b o, h.get? b = some o → b ∉ fs → ∃ o', B.get? b = some o'
 tups : ∀ b xs, H b = some (.tup xs) → H' b = some (.tup xs)
 frzs : ∀ b o u, H b = some (.frz o u) → H' b = some (.frz o u)
 tbls : ∀ b ps, H b = some (.tbl ps) → ∃ more, H' b = some (.tbl (ps ++ more))
theorem UnB.un {fs : List Addr} {H H' : Hp} {h B h' : Heap} (u : UnB fs H H' h B h') (st : B.StaysIn h') (hf : ∀ b ∈ fs, H b = none) : Un fs [] H H' h h' :=
 ⟨fun b o e n hb _ => st b o (u.keep b o e n hb), fun b o e n hb _ => u.slot b o e n hb, fun b o e n _ => u.free b o e n, fun b o e _ => by
  by_cases hb : b ∈ fs
  ·obtain ⟨sl, q⟩ := u.slot b o e (hf b hb) hb
   exact ⟨_, q⟩
  ·obtain ⟨o', q⟩ := u.there b o e hb
   exact ⟨o', st b o' q⟩, u.tups, u.frzs, u.tbls⟩
def CXe (P : Program) (w : World) : CXT := fun outer H s E e s' => ∃ (x : Addr) (C a0 : Value) (H' : Hp) (B : Heap), e = .ref x ∧ s'.os = s.os ∧ AllBare s'.gens ∧
 Heap.FlyingW B outer x C a0 s'.heap ∧ HOk P w H' B ∧ UnB (frs outer) H H' s.heap B s'.heap ∧ E C none H'
def Raises (X : Cx) (E : XK) : Prop := ∀ (pins : List (Addr × Obj)) (σ : St) (H : Hp) (s : Shared) (h' : Heap) (x : Addr) (C : Value) (vs : List Value), Inv X pins σ H s → Heap.MadeExcOf s.heap h' x C vs → E C none H → X.xe (.ref x) { s with heap := h' }
section
variable {X : Cx} {x : Str} {C : Addr} {bmB : List Value} {B newId initId : String} {np cpos pos : Pos} {e₀ : Expr} {rest : List Expr} {t : TA} {E : XK}
def tRaise (E : XK) (C : Addr) (t : TA) : TS := fun _ σ H => t σ H fun vs H1 => vs.length ≤ sizeLine ∧ E (.ref C) none H1
theorem ps_raise (hc : X.calm = true) (hg : Gl X x) (hm : X.mg x = some (.ref C)) (hx : excIn X.K C bmB newId = true) (FB : ExcBaseFacts B newId initId bmB) (ha : PA X (e₀ :: rest) t) (hE : Raises X E)
  (hd : (x == ("__debug__" : Str)) = false := by decide) (he : starEach (e₀ :: rest) X.env = (false, eval e₀ X.env) :: starEach rest X.env := by rfl) (hpl : (backTo cpos (starEach rest X.env)).any (·.1) = false := by rfl) :
  PS X (.Raise (some (.Call (.Name x np) (e₀ :: rest) [] cpos)) none pos) (tRaise E C t) := by
 refine .mk ?_
 intro pins s σ H D I h
 obtain ⟨bm, N, nm, q, bs, hdct, sn, sub, ab, col, dd, k0, k1, k2, k3, k5, mN, hC, hN, hni, T⟩ := exc_obj I.mod.kin hx
 refine wpAny_Raise_call_subT (C := C) (nm := nm) (q := q) (N := N) (bs := bs) (bm := bm) (hdct := hdct) (sn := sn) (sub := sub) (ab := ab) (col := col) (dd := dd) (k0 := k0) (k1 := k1) (k2 := k2) (k3 := k3) (k5 := k5)
  FB (mN := mN) (T.hasType FB.hasBase) (I.ok.hd hc) (by rw [he]; show (false || (backTo cpos (starEach rest X.env)).any (·.1)) = false; rw [hpl]; rfl) hni (ld_glob I hg hm ⟨rfl, ?_⟩ hd)
 have hA := ha cpos pins s σ H _ I h
 rw [he] at hA ⊢
 refine Calls.evalArgs_plain (thn hA fun us s2 ⟨vs, H1, I1, r1, hz, q1⟩ => ?_)
 refine ⟨rfl, by rw [← r1.length]; exact hz, I1.bk _ _ hC, hN.keeps I1.bk, T.keeps I1.bk, fun h' e hM => hE pins σ H1 s2 h' e _ _ I1 hM q1⟩
end
section
variable {P : Program} {w : World} {K : PySem.W.Frag} {mg : Str → Option Value} {base : Heap} {N : List Str} {qual : Str} {scope : Scope} {f : Addr} {cd : Value} {A : Around} {outer : List Env} {s : Shared} {H : Hp} {E : XK}
abbrev cxE (P : Program) (w : World) (K : PySem.W.Frag) (mg : Str → Option Value) (base : Heap) (N : List Str) (qual : Str) (scope : Scope) (f : Addr) (cd : Value) (A : Around) (outer : List Env) (s : Shared) (H : Hp) (E : XK) : Cx :=
 cxOf (CXe P w) P w K mg base N qual scope f cd A outer s H E
theorem entry_notin {pins : List (Addr × Obj)} {σ : St} {H1 : Hp} {s1 : Shared} (I : Inv (cxE P w K mg base N qual scope f cd A outer s H E) pins σ H1 s1) {b : Addr} {o : Obj} (e : s.heap.get? b = some o) (hb : b ∉ frs outer) :
  b ∉ frs (envOfC qual scope s.heap.objs.size f cd :: outer) := fun hm => by
 rcases List.mem_cons.mp (I.stkSub b hm) with z | z
 ·exact absurd (Heap.lt_size e) (by rw [z]; exact Nat.lt_irrefl _)
 ·exact hb z
theorem frame_data {pins : List (Addr × Obj)} {σ : St} {H1 : Hp} {s1 : Shared} (I : Inv (cxE P w K mg base N qual scope f cd A outer s H E) pins σ H1 s1) {b : Addr} {o : Obj} (e : s.heap.get? b = some o) (hb : b ∈ frs outer) : ∀ vs, o.data ≠ .fields vs := by
 obtain ⟨_, o', ho', hd'⟩ := I.ok.funs.mem hb
 have e' : s.heap.get? b = some o' := ho'
 rw [e] at e'
 cases e'
 exact hd'
theorem raise_def : Raises (cxE P w K mg base N qual scope f cd A outer s H E) E := by
 intro pins σ H1 s1 h' x C vs I M hE
 show wpAny (model P w) (A.deeper (envOfC qual scope s.heap.objs.size f cd)) (leaving (envOfC qual scope s.heap.objs.size f cd) (.ref x)) (fun _ s'' => CXe P w outer H s E (.ref x) s'') (fun e' s'' => CXe P w outer H s E e' s'') { s1 with heap := h' }
 have hin : ∀ env' ∈ envOfC qual scope s.heap.objs.size f cd :: outer, ∀ a, env'.frame = some a → a ∈ frs (envOfC qual scope s.heap.objs.size f cd :: outer) := fun env' he a ha => List.mem_filterMap.mpr ⟨env', he, ha⟩
 refine wpAny_leaves_madeW (base := hideAll s1.heap (frs (envOfC qual scope s.heap.objs.size f cd :: outer))) (h := s1.heap) I.ok.frames rfl (fun b o q => of_hideAll _ q) (funFrames_hide I.stack hin) M fun h2 t x1 x2 x3 x4 => ?_
 have nf : ∀ b u, H1 b = some u → b ∉ frs (envOfC qual scope s.heap.objs.size f cd :: outer) := fun b u q hm => by
  have z := I.stkFree b hm
  rw [q] at z; cases z
 refine ⟨x, C, .ref t, H1, _, rfl, I.os, I.bare, x1, fun a o q => ?_, ⟨fun b o q n hb => ?_, fun b o q n hb => ?_, fun b o q n => ?_, fun b o q hb => ?_, I.base.tups, I.base.frzs, I.base.tbls⟩, hE⟩
 ·refine (I.hok a o q).stay (fun b u hb z => hideAll_get _ z ?_) (fun _ z => z) fun _ _ z => z
  rcases hb with rfl | hb
  ·exact nf _ _ q
  ·exact nf _ _ hb
 ·exact hideAll_get _ (I.base.keep b o q n hb (by exact List.not_mem_nil)) (entry_notin I q hb)
 ·obtain ⟨sl, z⟩ := I.base.slot b o q n hb (by exact List.not_mem_nil)
  obtain ⟨sl2, z2⟩ := x4 b _ (M.keeps _ _ z) (have fd := frame_data I q hb; fun vs => fd vs)
  exact ⟨sl2, z2⟩
 ·exact I.base.free b o q n (by exact List.not_mem_nil)
 ·obtain ⟨o', z⟩ := I.base.there b o q (by exact List.not_mem_nil)
  exact ⟨o', hideAll_get _ z (entry_notin I q hb)⟩
theorem pass_def : Passes (CXe P w) (cxE P w K mg base N qual scope f cd A outer s H E) E := by
 intro pins σ H1 s1 e s2 I h
 obtain ⟨x, C, a0, H', B, rfl, os, bare, fl, hok, u, hE⟩ := h
 show wpAny (model P w) (A.deeper (envOfC qual scope s.heap.objs.size f cd)) (leaving (envOfC qual scope s.heap.objs.size f cd) (.ref x)) (fun _ s'' => CXe P w outer H s E (.ref x) s'') (fun e' s'' => CXe P w outer H s E e' s'') s2
 refine wpAny_leaves_onW I.ok.frames rfl fl fun h2 f2 up => ?_
 refine ⟨x, C, a0, H', B, rfl, os.trans I.os, bare, f2, hok, ⟨fun b o q n hb => ?_, fun b o q n hb => ?_, fun b o q n => ?_, fun b o q hb => ?_, fun b xs q => u.tups b xs (I.base.tups b xs q), fun b o v q => u.frzs b o v (I.base.frzs b o v q), fun b ps q => ?_⟩, hE⟩
 ·exact u.keep b o (I.base.keep b o q n hb (by exact List.not_mem_nil)) (I.base.free b o q n (by exact List.not_mem_nil)) (entry_notin I q hb)
 ·obtain ⟨sl, z⟩ := I.base.slot b o q n hb (by exact List.not_mem_nil)
  have hm : b ∈ frs (envOfC qual scope s.heap.objs.size f cd :: outer) := by
   obtain ⟨env', he, ha⟩ := List.mem_filterMap.mp hb
   exact List.mem_filterMap.mpr ⟨env', List.mem_cons_of_mem _ he, ha⟩
  obtain ⟨sl2, z2⟩ := u.slot b _ z (I.base.free b o q n (by exact List.not_mem_nil)) hm
  obtain ⟨sl3, z3⟩ := up b _ z2 (have fd := frame_data I q hb; fun vs => fd vs)
  exact ⟨sl3, z3⟩
 ·obtain ⟨o', z⟩ := I.base.there b o q (by exact List.not_mem_nil)
  exact u.free b o' z (I.base.free b o q n (by exact List.not_mem_nil))
 ·obtain ⟨o', z⟩ := I.base.there b o q (by exact List.not_mem_nil)
  exact u.there b o' z (entry_notin I q hb)
 ·obtain ⟨m1, z1⟩ := I.base.tbls b ps q
  obtain ⟨m2, z2⟩ := u.tbls b _ z1
  exact ⟨m1 ++ m2, by rw [z2, Array.append_assoc]⟩
theorem own_def : PassesOwn (model P w) (cxE P w K mg base N qual scope f cd A outer s H E).A (cxE P w K mg base N qual scope f cd A outer s H E).env (cxE P w K mg base N qual scope f cd A outer s H E).xe := PassesOwn.leaving
end
theorem Fun.okX {P : Program} {w : World} {K : PySem.W.Frag} {mg : Str → Option Value} {base : Heap} {x qual : Str} {st : Stmt} {f : Addr} {fd : FuncData} {N ps : List Str} {k : Nat} {sp : Sp} (F : Fun K x qual st f fd) (S : FnScope N ps (defScope st)) (len : ∀ vs H Q E, sp vs H Q E → vs.length = ps.length)
  (hbody : ∀ (cdv : Value) (A : Around) (outer : List Env) (s : Shared) (H : Hp) (vs : List V) (Q : VK) (E : XK), Room k (A.deeper (envOfC qual (defScope st) s.heap.objs.size f cdv)) → sp vs H Q E →
   ∃ t, PSs (cxE P w K mg base N qual (defScope st) f cdv A outer s H E) (defBody st) t ∧ t { nx := fun _ H' => Q .non H', rt := Q } (start N vs) H) : FnOk P w K mg base (CXe P w) (k + 1) f fd ps sp := by
 obtain ⟨oc, od, kV, doc, pm, an, cdv, ct, osl, rfl, lk, hcd⟩ := F.ex
 exact fn_of lk hcd S len fun A outer s H vs Q E hr hsp => hbody cdv A outer s H vs Q E hr hsp
def CalleeX (P : Program) (w : World) (K : PySem.W.Frag) (mg : Str → Option Value) (base : Heap) (x : Str) (k : Nat) (ps : List Str) (sp : Sp) : Prop :=
 ∃ f fd, FnOk P w K mg base (CXe P w) k f fd ps sp ∧ mg x = some (.ref f) ∧ PySem.W.keepIn K (.ref f) = true ∧ Binds K fd ps []
section
variable {X : Cx} {x : Str} {k j : Nat} {ps : List Str} {sp : Sp} {p pos : Pos} {e : Expr} {es : List Expr} {t : TA} {E : XK}
end
end L2
set_option Elab.async false
set_option linter.all false
set_option maxRecDepth 100000
set_option maxHeartbeats 1000000
namespace L2
open PySem PySem.Spec PyProof.Rows PySem.W
theorem ObjOk.got {P : Program} {w : World} {H : Hp} {h : Heap} {a : Addr} {o : HO} (x : ObjOk P w H h a o) : ∃ u, h.get? a = some u := by
 cases o with
 | lst xs => obtain ⟨_, _, _, _, e⟩ := x; exact ⟨_, e⟩
 | tup xs => obtain ⟨_, _, _, o, e, _⟩ := x; exact ⟨_, e⟩
 | dK kvs => obtain ⟨_, _, _, _, o, _, _, e, _⟩ := x; exact ⟨_, e⟩
 | dT kvs => obtain ⟨_, _, _, _, o, _, _, e, _⟩ := x; exact ⟨_, e⟩
 | set S n => obtain ⟨o, _, _, _, e, _⟩ := x; exact ⟨_, e⟩
 | ins C dx fs => obtain ⟨_, _, _, e, _⟩ := x; exact ⟨_, e⟩
 | own y => exact x
 | xd fs => obtain ⟨_, ⟨_, _, _, e, _⟩, _⟩ := x; exact ⟨_, e⟩
 | rng lo hi => obtain ⟨_, _, _, e⟩ := x; exact ⟨_, e⟩
 | frz ob u => obtain ⟨e, _⟩ := x; exact ⟨_, e⟩
 | tbl ps => exact ⟨_, (show h.get? a = some _ from x)⟩
 | met f y => exact ⟨_, (show h.get? a = some _ from x)⟩
 | ext φ => obtain ⟨_, e, _⟩ := x; exact e
def excAt (x : Addr) (C : Value) : Heap → Prop := fun h => ∃ ob, h.get? x = some ob ∧ ob.cls = C
section
variable {X : Cx} {pins : List (Addr × Obj)} {σ : St} {H : Hp} {s : Shared}
theorem Inv.track {a : Addr} {φ : Heap → Prop} (I : Inv X pins σ H s) (hn : H a = none) (h0 : ∀ b o, X.s₀.heap.get? b = some o → b ∉ X.ex → b ≠ a) (hL : a ≠ X.env.locals) (hC : ∀ x c, X.env.cells.lookup x = some c → c ≠ a)
  (hp : ∀ p ∈ X.pn ++ pins, p.1 ≠ a) (new : ObjOk X.prog X.w (upd H a (.ext φ)) s.heap a (.ext φ)) : Inv X pins σ (upd H a (.ext φ)) s where
 ok := I.ok
 os := I.os
 bare := I.bare
 base := ⟨I.base.keep, I.base.slot, fun b o e n hx => by rw [upd_ne (h0 b o e hx)]; exact I.base.free b o e n hx, I.base.there,
  fun b xs q => by have z := I.base.tups b xs q; rw [upd_ne (ne_of_none z hn)]; exact z, fun b o u q => by have z := I.base.frzs b o u q; rw [upd_ne (ne_of_none z hn)]; exact z,
  fun b ps q => by obtain ⟨m, z⟩ := I.base.tbls b ps q; exact ⟨m, by rw [upd_ne (ne_of_none z hn)]; exact z⟩⟩
 loc := I.loc
 cell := I.cell
 free := by rw [upd_ne hL.symm]; exact I.free
 freeC := fun x c e => by rw [upd_ne (hC x c e)]; exact I.freeC x c e
 pin := fun p hp' => by
  obtain ⟨a1, a2, a3⟩ := I.pin p hp'
  exact ⟨a1, by rw [upd_ne (hp p hp')]; exact a2, a3⟩
 hok := fun b o e => by
  by_cases hb : b = a
  ·subst hb; rw [upd_same] at e; cases e; exact new
  ·rw [upd_ne hb] at e
   exact (I.hok b o e).stay (fun _ _ _ q => q) (fun c q => by rw [upd_ne (ne_of_none q hn)]; exact q) fun c xs q => by rw [upd_ne (ne_of_none q hn)]; exact q
 len := I.len
abbrev Cx.tr (X : Cx) (E' : Value → Shared → Prop) (pn : List (Addr × Obj)) : Cx := { X with xe := E', pn := pn }
abbrev Cx.su (X : Cx) (x : Addr) : Cx := { X with A := X.A.mark (some (.ref x)), calm := false, xe := fun _ _ => False }
theorem Cx.Ok.tr (ok : X.Ok) (E' : Value → Shared → Prop) (pn : List (Addr × Obj)) : (X.tr E' pn).Ok :=
 ⟨ok.mod, ok.kind, ok.glob, ok.blt, ok.above, ok.inj, ok.has, ok.cab, ok.hd, ok.frames, ok.stk, ok.exf, ok.bs, ok.bsz, ok.noex, ok.exfs, ok.funs, ok.frf⟩
theorem Cx.Ok.su (ok : X.Ok) (x : Addr) : (X.su x).Ok :=
 ⟨ok.mod, ok.kind, ok.glob, ok.blt, ok.above, ok.inj, ok.has, ok.cab, (fun z => absurd (show false = true from z) (by decide)), ok.frames, ok.stk, ok.exf, ok.bs, ok.bsz, ok.noex, ok.exfs, ok.funs, ok.frf⟩
theorem Inv.tr (I : Inv X pins σ H s) (E' : Value → Shared → Prop) : Inv (X.tr E' (X.pn ++ pins)) [] σ H s :=
 ⟨I.ok.tr E' _, I.os, I.bare, I.base, I.loc, I.cell, I.free, I.freeC, fun p hp => I.pin p (by simpa using hp), I.hok, I.len⟩
theorem Inv.untr {E' : Value → Shared → Prop} {pins' : List (Addr × Obj)} (ok : X.Ok) (I : Inv (X.tr E' (X.pn ++ pins)) pins' σ H s) : Inv X pins σ H s :=
 ⟨ok, I.os, I.bare, I.base, I.loc, I.cell, I.free, I.freeC, fun p hp => I.pin p (List.mem_append_left _ hp), I.hok, I.len⟩
theorem Inv.su (I : Inv X pins σ H s) (x : Addr) : Inv (X.su x) pins σ H s := ⟨I.ok.su x, I.os, I.bare, I.base, I.loc, I.cell, I.free, I.freeC, I.pin, I.hok, I.len⟩
theorem Inv.unsu {x : Addr} (ok : X.Ok) (I : Inv (X.su x) pins σ H s) : Inv X pins σ H s := ⟨ok, I.os, I.bare, I.base, I.loc, I.cell, I.free, I.freeC, I.pin, I.hok, I.len⟩
theorem goes_ok {M : Model} {A : Around} {E : Value → Shared → Prop} {j : Nat} {n : Str} {pos : Pos} {Q : Unit → Shared → Prop} (I : Inv X pins σ H s) (hN : X.N.Nodup) (hi : X.N[j]? = some n) (hk : X.env.scope.names.lookup n = some .local)
  (h : ∀ s', Inv X pins (σ.set j none) H s' → Q () s') : wpAny M A (do bindName X.env n .none; unbindBehindTheSuite X.env n pos) Q E s := by
 obtain ⟨m, hn, hl⟩ := id I.loc
 have hcls : (X.env.scope.kind == .class || (X.env.scope.kind == .module && X.env.locals != X.env.globals)) = false := by rw [I.ok.kind]; rfl
 have hjσ : j < σ.length := by rw [I.len]; exact (List.getElem?_eq_some_iff.mp hi).1
 refine wpAny_nameGoes_keeps hk hn hcls fun h' v hn' hs => h _ ?_
 have nL : ∀ b o, X.s₀.heap.get? b = some o → b ≠ X.env.locals := fun b o e => Nat.ne_of_lt (Nat.lt_of_lt_of_le (Heap.lt_size e) I.ok.above)
 refine ⟨I.ok, I.os, I.bare, ⟨fun b o e n' hb hx => (hs.2 b (nL b o e)).trans (I.base.keep b o e n' hb hx), fun b o e n' hb hx => ?_, I.base.free, fun b o e hx => ?_, I.base.tups, I.base.frzs, I.base.tbls⟩, ⟨_, hn', fun i y v' e1 e2 e3 => ?_⟩, fun y c e => ?_, I.free, I.freeC, fun p hp => ?_, fun b ob e => ?_, by simpa using I.len⟩
 ·obtain ⟨sl, e1⟩ := I.base.slot b o e n' hb hx
  exact ⟨sl, (hs.2 b (nL b o e)).trans e1⟩
 ·obtain ⟨o', e1⟩ := I.base.there b o e hx
  exact ⟨o', (hs.2 b (nL b o e)).trans e1⟩
 ·by_cases hj : i = j
  ·subst hj
   rw [List.getElem?_set_self hjσ] at e2
   cases e2
  ·rw [List.getElem?_set_ne (Ne.symm hj)] at e2
   obtain ⟨u', r', q⟩ := hl i y v' e1 e2 e3
   refine ⟨u', r', ?_⟩
   rcases q with ⟨k, e⟩ | ⟨k, c, e, z⟩
   ·refine .inl ⟨k, ?_⟩
    have ny : y ≠ n := fun e => hj (nodup_ix hN e1 (e ▸ hi))
    simp [ny, e]
   ·exact .inr ⟨k, c, e, z.sameBut hs (I.cne y c e)⟩
 ·obtain ⟨w', z⟩ := I.cell y c e
  exact ⟨w', z.sameBut hs (I.cne y c e)⟩
 ·obtain ⟨e, n', ne, nf, d⟩ := I.pin p hp
  exact ⟨(hs.2 p.1 ne).trans e, n', ne, nf, d⟩
 ·refine (I.hok b ob e).stay (fun c w' hc q => (hs.2 c ?_).trans q) (fun _ q => q) fun _ _ q => q
  rintro rfl
  rcases hc with z | z
  ·rw [← z, I.free] at e; cases e
  ·rw [I.free] at z; cases z
end
section
variable {X : Cx} {body suite : List Stmt} {b₀ : Stmt} {y n : Str} {np hpos pos : Pos} {Cy : Addr} {j : Nat} {tb : (St → XK) → TS} {ts : TS}
def wTry (K : PySem.W.Frag) (Cy : Addr) (j : Nat) (ts : TS) (D : Ends) : St → XK := fun σ C _ H' => exmOne K C (.ref Cy) = some true ∧ ∀ x, H' x = none →
 ts { nx := fun σ2 H2 => D.nx (σ2.set j none) H2, rt := D.rt, bk := fun σ2 H2 => D.bk (σ2.set j none) H2, ct := fun σ2 H2 => D.ct (σ2.set j none) H2 } (σ.set j (some (.ref x))) (upd H' x (.ext (excAt x C)))
def tTry (K : PySem.W.Frag) (Cy : Addr) (j : Nat) (tb : (St → XK) → TS) (ts : TS) : TS := fun D σ H => tb (wTry K Cy j ts D) D σ H
def eTry (X : Cx) (pins : List (Addr × Obj)) (D : Ends) (hs : List ExceptHandler) : Value → Shared → Prop := fun e s₁ =>
 wpAny (model X.prog X.w) X.A (noteFrame e X.env) (fun _ s₂ => wpAny (model X.prog X.w) X.A (setFlight e none) (fun _ s₃ => wpAny (model X.prog X.w) X.A (handleBy e X.env hs) (SP X pins D) X.xe s₃) X.xe s₂) X.xe s₁
theorem catch_as {pins : List (Addr × Obj)} {D : Ends} (ok : X.Ok) (hst : X.stack = X.env :: X.outer) (hfr : X.env.frame = some X.env.locals) (hy : Gl X y) (hmy : X.mg y = some (.ref Cy)) (hN : X.N.Nodup) (hj : X.N[j]? = some n) (hl : X.env.scope.names.lookup n = some .local)
  (hs : ∀ x, PSs (X.su x) (b₀ :: suite) ts) (hd : (y == ("__debug__" : Str)) = false) {σ1 : St} {H1 : Hp} {s1 : Shared} {e : Value} {s2 : Shared} (J1 : Inv X pins σ1 H1 s1) (hcx : CXe X.prog X.w X.stack H1 s1 (wTry X.K Cy j ts D σ1) e s2) :
  eTry X pins D [.ExceptHandler (some (.Name y np)) (some n) (b₀ :: suite) hpos] e s2 := by
 obtain ⟨x, C, a0, H', B, rfl, os, bare, fl, hok, u, hm, hw⟩ := hcx
 have hfrm : X.A.frames = some (X.env :: X.outer) := by rw [← hst]; exact ok.frames
 have fl' : Heap.FlyingW B (X.env :: X.outer) x C a0 s2.heap := by rw [← hst]; exact fl
 have data : ∀ b ∈ frs X.stack, ∀ o, s1.heap.get? b = some o → ∀ vs, o.data ≠ .fields vs := fun b hb o q => by
  obtain ⟨_, o', ho', hd'⟩ := J1.stack.mem hb
  rw [q] at ho'; cases ho'; exact hd'
 have mkI : ∀ h5 : Heap, B.StaysIn h5 → s2.heap.UpToSlots h5 → Inv X pins σ1 H' { s2 with heap := h5 } := fun h5 st up => by
  have u5 : UnB (frs X.stack) H1 H' s1.heap B h5 := ⟨u.keep, fun b o q n' hb => by
   obtain ⟨sl, z⟩ := u.slot b o q n' hb
   obtain ⟨sl2, z2⟩ := up b _ z (have dd := data b hb o q; fun vs => dd vs)
   exact ⟨sl2, z2⟩, u.free, u.there, u.tups, u.frzs, u.tbls⟩
  exact J1.call' (s' := { s2 with heap := h5 }) (ch := []) os (u5.un st J1.stkFree) (hok.kept st) bare (fun b hb => nomatch hb)
 have hxB : B.get? x = none := fl'.2.1
 have Hx : H' x = none := by
  cases q : H' x with
  | none => rfl
  | some o =>
   obtain ⟨z, hz⟩ := (hok x o q).got
   rw [hxB] at hz; cases hz
 refine wpAny_looks_onW hfrm hfr fl' fun h4 held4 up4 => ?_
 refine wpAny_landsW held4 fun h5 fl5 up5 => ?_
 have nx1 : ∀ o, s1.heap.get? x = some o → False := fun o q => by
  by_cases hm' : x ∈ frs X.stack
  ·rw [hst] at hm'
   obtain ⟨_, o', ho', hd'⟩ := fl5.2.2.1.mem hm'
   obtain ⟨oe, vs, _, _, _, he, _, hdat, _⟩ := fl5.2.2.2
   rw [ho'] at he; cases he
   exact hd' vs hdat
  ·obtain ⟨o', z⟩ := u.there x o q hm'
   rw [hxB] at z; cases z
 have I5 := mkI h5 fl5.1 (up4.trans up5)
 obtain ⟨ob, hob, hoc⟩ := fl5.there
 have LT : Looks (model X.prog X.w) h5 (typeOf (.ref x)) C := by rw [← hoc]; exact (Looks.ld hob).andThen .now
 refine wpAny_handleBy_cons (codeAny_handlers_test (ld_glob (X := X.su x) (I5.su x) hy hmy ?_ hd)) (by intro q; cases q)
 refine (exm_one I5.kIn LT hm).here ?_
 refine codeAny_handlers_suite_as ?_
 refine lands_againW fl5 fun h6 fl6 up6 => ?_
 have I6 := mkI h6 fl6.1 ((up4.trans up5).trans up6)
 obtain ⟨ob6, hob6, hoc6⟩ := fl6.there
 have It : Inv X pins σ1 (upd H' x (.ext (excAt x C))) { s2 with heap := h6 } := by
  refine I6.track Hx (fun b o q hx' z => ?_) (fun z => ?_) (fun x' c q z => ?_) (fun p hp z => ?_) ⟨⟨ob6, hob6, hoc6⟩, ⟨ob6, hob6⟩, fun h1 h2 ⟨o, a, b⟩ k => ⟨o, k o a, b⟩⟩
  ·subst z
   obtain ⟨o', z⟩ := J1.base.there _ o q hx'
   exact nx1 o' z
  ·obtain ⟨m, ⟨o, _, _, ho, _⟩, _⟩ := J1.loc
   rw [← z] at ho
   exact nx1 o ho
  ·obtain ⟨v, o, ho, _⟩ := J1.cell x' c q
   rw [z] at ho
   exact nx1 o ho
  ·have q := (J1.pin p hp).1
   rw [z] at q
   exact nx1 _ q
 refine store_ok (X := X.su x) (v := .ref x) (It.su x) hN hj (.inl hl) rfl (fun s7 I7 => ?_) (.inr hl)
 refine wpAny_mono ((hs x).run pins s7 _ _ _ I7 (hw x Hx)) (fun f s8 q => ?_) (fun _ _ z => z.elim)
 cases f with
 | next => obtain ⟨σ2, H2, I8, q⟩ := q; exact goes_ok (Inv.unsu ok I8) hN hj hl fun s9 I9 => ⟨_, _, I9, q⟩
 | brk => obtain ⟨σ2, H2, I8, q⟩ := q; exact goes_ok (Inv.unsu ok I8) hN hj hl fun s9 I9 => ⟨_, _, I9, q⟩
 | cont => obtain ⟨σ2, H2, I8, q⟩ := q; exact goes_ok (Inv.unsu ok I8) hN hj hl fun s9 I9 => ⟨_, _, I9, q⟩
 | ret v => obtain ⟨v', σ2, H2, I8, r, q⟩ := q; exact goes_ok (Inv.unsu ok I8) hN hj hl fun s9 I9 => ⟨v', _, _, I9, r, q⟩
theorem ps_try (hst : X.stack = X.env :: X.outer) (hfr : X.env.frame = some X.env.locals) (hy : Gl X y) (hmy : X.mg y = some (.ref Cy)) (hN : X.N.Nodup) (hj : X.N[j]? = some n) (hl : X.env.scope.names.lookup n = some .local)
  (hb : ∀ (E' : Value → Shared → Prop) (pn : List (Addr × Obj)) (W : St → XK), (∀ pins σ H s e s', Inv (X.tr E' pn) pins σ H s → CXe X.prog X.w X.stack H s (W σ) e s' → E' e s') → PSs (X.tr E' pn) body (tb W))
  (hs : ∀ x, PSs (X.su x) (b₀ :: suite) ts) (hd : (y == ("__debug__" : Str)) = false := by decide) :
  PS X (.Try body [.ExceptHandler (some (.Name y np)) (some n) (b₀ :: suite) hpos] [] [] pos) (tTry X.K Cy j tb ts) := by
 refine .mk ?_
 intro pins s σ H D I h
 have ok := I.ok
 refine wpAny_Try_except ?_
 have fin := (hb (eTry X pins D [.ExceptHandler (some (.Name y np)) (some n) (b₀ :: suite) hpos]) (X.pn ++ pins) (wTry X.K Cy j ts D) (fun pins' σ1 H1 s1 e s2 J hcx => catch_as ok hst hfr hy hmy hN hj hl hs hd (Inv.untr ok J) hcx)).run [] s σ H D (I.tr _) h
 refine wpAny_mono fin (fun f s1 q => ?_) fun e s1 q => q
 cases f with
 | next =>
  obtain ⟨σ', H', I', q⟩ := q
  exact wpAny_execs_nil ⟨σ', H', Inv.untr ok I', q⟩
 | brk => obtain ⟨σ', H', I', q⟩ := q; exact ⟨σ', H', Inv.untr ok I', q⟩
 | cont => obtain ⟨σ', H', I', q⟩ := q; exact ⟨σ', H', Inv.untr ok I', q⟩
 | ret v => obtain ⟨v', σ', H', I', r, q⟩ := q; exact ⟨v', σ', H', Inv.untr ok I', r, q⟩
end
end L2
set_option Elab.async false
set_option linter.all false
set_option maxRecDepth 100000
set_option maxHeartbeats 1000000
namespace L2
open PySem PySem.Spec PyProof.Rows PySem.W
section
variable {X : Cx} {x : Str} {k j : Nat} {ps : List Str} {sp : Sp} {p pos : Pos} {e : Expr} {es : List Expr} {t : TA} {W : St → XK}
def tCallW (sp : Sp) (W : St → XK) (t : TA) : TE := fun σ H Q => t σ H fun vs H1 => sp vs H1 Q (W σ)
def PassesW (X : Cx) (W : St → XK) : Prop := ∀ (pins : List (Addr × Obj)) (σ : St) (H : Hp) (s : Shared) (e : Value) (s' : Shared), Inv X pins σ H s → CXe X.prog X.w X.stack H s (W σ) e s' → X.xe e s'
theorem pe_callW (c : CalleeX X.prog X.w X.K X.mg X.base x k ps sp) (hr : Room j X.A) (hk : k ≤ j) (hg : Gl X x) (hx : PassesW X W) (ha : PA X (e :: es) t) (hdb : (x == ("__debug__" : Str)) = false := by decide)
  (he : starEach (e :: es) X.env = (false, eval e X.env) :: starEach es X.env := by rfl) (hpl : (backTo pos (starEach es X.env)).any (·.1) = false := by rfl) : PE X (.Call (.Name x p) (e :: es) [] pos) (tCallW sp W t) := by
 refine .mk ?_
 obtain ⟨f, fd, F, m, kp, b⟩ := c
 intro pins s σ H Q I h
 refine wpAny_Call_Name_kw (ld_glob I hg m ?_ hdb)
 refine PySem.W.callWith_K (h₀ := X.base) I.ok.mod.kin kp (thn (ha pos pins s σ H _ I h) fun us s1 ⟨vs, H1, I1, r, q⟩ => ⟨I1.kIn, ?_⟩) he hpl
 have hl : us.length = ps.length := by rw [← r.length]; exact F.len _ _ _ _ q
 have hb := b s1 us I1.kIn (by rw [List.append_nil]; exact hl)
 rw [List.append_nil] at hb
 refine wpAny_call (codeAny_mono (F.run X.A X.stack s1 H1 ⟨us, []⟩ us vs Q (W σ) (hr.mono hk) I1.env0 hb r q) fun r' s' hq => ?_)
 cases r' with
 | error e => exact hx pins σ H1 s1 e s' I1 hq
 | ok fl =>
  cases fl with
  | ret u => exact I1.after hq
  | next => exact False.elim hq
  | brk => exact False.elim hq
  | cont => exact False.elim hq
end
section
variable {X : Cx} {body suite : List Stmt} {b₀ : Stmt} {y : Str} {np hpos pos : Pos} {Cy : Addr} {tb : (St → XK) → TS} {ts : TS}
end
end L2
set_option Elab.async false
set_option linter.all false
set_option maxRecDepth 100000
namespace L2
open PySem PySem.Spec PyProof.Rows
section
variable {X : Cx}
def CDivG (i j : Int) : Prop := 0 < j ∧ j < 2 ^ 200
theorem CDivG.noPy {i j : Int} (h : CDivG i j) : Builtin.divisionGoesByPylong i j = false := by
 refine PyProof.noPylong_of_log2 ?_
 have h1 : j.natAbs < 2 ^ 200 := by have := h.1; have := h.2; omega
 have h2 : j.natAbs ≠ 0 := by have := h.1; omega
 have := (Nat.log2_lt h2).mpr h1
 omega
theorem op_fdivG : OpR X (binaryOp .FloorDiv) (rI CDivG fun i j => .int (i / j)) := opI fun i j _ _ _ _ _ hc q => by
 have h1 : (0 : Int) < j := hc.1
 exact floordiv_int (by omega) (by rw [Int.fdiv_eq_ediv_of_nonneg i (by omega)]; exact q) (.inl hc.noPy)
def SlB (X : Cx) (r : V → Hp → VK → Prop) : Prop :=
 ∀ (pins : List (Addr × Obj)) (s : Shared) (σ : St) (H : Hp) (x : V) (v vs : Value) (sl : Addr) (Q : VK), Inv X pins σ H s → RelV x v → s.heap.IsSliceOf sl .none .none vs → IsPart vs (some (-1)) → r x H Q →
  ∃ T id, typeLookup (.type T) "__getitem__" = pure (some (.builtin id)) ∧ s.TypeIs v T ∧ wpAny (model X.prog X.w) X.A (getItem v (.ref sl)) (EP X pins σ Q) X.xe s
theorem pe_rev {r : V → Hp → VK → Prop} {e st : Expr} {te ts : TE} {p2 pos : Pos} (hr : SlB X r) (he : PE X e te) (hs : PE X st ts) :
  PE X (.Subscript e (.Slice none none (some st) p2) pos) (fun σ H Q => te σ H fun x H1 => ts σ H1 fun y H2 => y = .int (-1) ∧ r x H2 Q) := by
 refine .mk ?_
 intro pins s σ H Q I h
 refine Subscript_ (thn (he pins s σ H _ I h) fun v s1 ⟨x, H1, I1, r1, q1⟩ => ?_)
 refine wpAny_Slice ?_
 rw [evalPart_none]
 refine wpAny_pure ?_
 refine wpAny_pure ?_
 rw [evalPart_some]
 refine thn (hs pins s1 σ H1 _ I1 q1) fun vs s2 ⟨y, H2, I2, r2, q2⟩ => ?_
 obtain ⟨rfl, q3⟩ := q2
 obtain ⟨t, rfl⟩ := r2
 have I4 : Inv X pins σ H2 { s2 with heap := s2.heap.push { cls := .type "slice", data := .fields #[.none, .none, .int (-1) t] } } := I2.kept (t' := s2.toks) fun b ob q => Heap.get?_push_of_some _ q
 obtain ⟨T, id, hT, ht, hg⟩ := hr pins { s2 with heap := s2.heap.push { cls := .type "slice", data := .fields #[.none, .none, .int (-1) t] } } σ H2 x v _ s2.heap.objs.size Q I4 r1 (Heap.IsSliceOf.new ..) (.int (-1) t) q3
 show wpAny (model X.prog X.w) X.A (subscriptTail e (.Slice none none (some st) p2) v (.ref s2.heap.objs.size)) (EP X pins σ Q) X.xe { s2 with heap := s2.heap.push { cls := .type "slice", data := .fields #[.none, .none, .int (-1) t] } }
 exact tail_any (ops := [v, .ref s2.heap.objs.size]) ht hT hg (by with_unfolding_all rfl)
theorem bools_of {bs : List Bool} : ∀ {us : List Value}, Vals (bs.map V.bl) us → us = bs.map Value.bool := by
 induction bs with
 | nil => intro us r; rw [List.map_nil] at r; cases r; rfl
 | cons n ns ih =>
  intro us r
  rw [List.map_cons] at r
  cases r with
  | cons r1 r2 =>
   rw [ih r2]
   cases r1
   rfl
theorem range_all {bs : List Bool} : (List.range bs.length).all (fun i => bs.getD i true) = bs.all id := by
 rw [Bool.eq_iff_iff, List.all_eq_true, List.all_eq_true]
 constructor
 ·intro h b hb
  obtain ⟨i, hi, rfl⟩ := List.getElem_of_mem hb
  have := h i (List.mem_range.mpr hi)
  simpa [List.getD, List.getElem?_eq_getElem hi] using this
 ·intro h i hi
  have hi' := List.mem_range.mp hi
  have := h bs[i] (List.getElem_mem hi')
  simpa [List.getD, List.getElem?_eq_getElem hi'] using this
theorem kept_it {s : Shared} {o₀ : Obj} {h' : Heap} (hk : ∀ b o, b ∉ [s.heap.objs.size] → (s.heap.push o₀).get? b = some o → h'.get? b = some o) : ∀ b o, s.heap.get? b = some o → h'.get? b = some o := fun b o e => by
 refine hk b o (fun hm => ?_) (Heap.get?_push_of_some _ e)
 exact absurd ((List.mem_singleton.mp hm) ▸ Heap.lt_size e) (Nat.lt_irrefl _)
theorem call_allL (hc : X.calm = true) : CallR X (.builtin "all") (fun xs H Q => ∃ (p : Addr) (bs : List Bool), xs = [.ref p] ∧ SqL X.K H p (bs.map V.bl) ∧ Q (.bl (bs.all id)) H) := by
 intro pins s σ H xs us Q I r h
 obtain ⟨p, bs, rfl, hq, q⟩ := h
 obtain ⟨u, rfl, ru⟩ := vals1 r
 cases ru
 obtain ⟨its, rv, pl, hz⟩ := I.list hq
 have eb := bools_of rv
 have hl : s.heap.IsList p its.toArray := pl.isList
 have hlt : p < s.heap.objs.size := by obtain ⟨_, e, _⟩ := hl; exact Heap.lt_size e
 refine call_all_walk (wpAny_pyIter_list hl ?_)
 refine ⟨s.heap.objs.size, _, _, _, _, _, fun i => bs.getD i true, rfl, Walks.list (prog := X.prog) (w := X.w) (A := X.A.in1) (I.ok.hd hc) s.heap.objs.size p (Nat.ne_of_lt hlt) its.toArray, ⟨⟨_, Heap.get?_push_size _ rfl, rfl, rfl⟩, hl.push _⟩, ?_, ?_⟩
 ·intro i v s' Q' E' hP hQ
  have e : v = .bool (bs.getD i true) := by
   rw [eb] at hP
   simp only [List.getElem?_toArray, List.getElem?_map, Option.map_eq_some_iff] at hP
   obtain ⟨b, hb, rfl⟩ := hP
   simp [List.getD, hb]
  rw [e]
  exact wpAny_truthy_bool hQ
 ·intro h' tk hk
  refine ⟨.bl (bs.all id), H, I.kept (kept_it hk), ?_, q⟩
  have e2 : its.toArray.size = bs.length := by rw [eb]; simp
  rw [e2, range_all]
  rfl
def eqL (xs ys : List V) : Bool := (List.range (min xs.length ys.length)).all (fun j => eqV (xs.getD j .non) (ys.getD j .non)) && xs.length == ys.length
theorem Vals.at {xs : List V} {us : List Value} (r : Vals xs us) : ∀ {j : Nat} (h : j < us.length), RelV (xs.getD j .non) us[j] := by
 induction r with
 | nil => intro j h; exact absurd h (Nat.not_lt_zero _)
 | cons r1 r2 ih =>
  intro j h
  cases j with
  | zero => exact r1
  | succ j => exact ih (Nat.lt_of_succ_lt_succ h)
theorem flat_at {xs : List V} (h : xs.all flatV = true) (j : Nat) : flatV (xs.getD j .non) = true := by
 by_cases hj : j < xs.length
 ·simp only [List.getD, List.getElem?_eq_getElem hj, Option.getD_some]
  exact List.all_eq_true.mp h _ (List.getElem_mem hj)
 ·rw [List.getD, List.getElem?_eq_none (Nat.le_of_not_lt hj)]
  rfl
theorem flat_ints (ns : List Int) : (ns.map V.int).all flatV = true := by
 rw [List.all_eq_true]
 intro v hv
 obtain ⟨i, _, rfl⟩ := List.mem_map.mp hv
 rfl
theorem getItem_tuple_whole {prog : Program} {w : World} {A : Around} {E : Value → Shared → Prop} {s : Shared} {t sl : Addr} {items : Array Value} {vl vu : Value} {lo hi : Option Int} {Q : Value → Shared → Prop} (ht : IsTup s.heap t items) (hs : s.heap.IsSliceOf sl vl vu .none) (pl : IsPart vl lo) (pu : IsPart vu hi)
  (h0 : HT.sIx items.size 0 lo = 0) (h1 : HT.sIx items.size items.size hi = items.size) (h : Q (.ref t) s) : wpAny (model prog w) A (getItem (.ref t) (.ref sl)) Q E s := by
 obtain ⟨os, hos, hcs, hds⟩ := id hs
 have hTs : s.TypeIs (.ref sl) "slice" := ⟨os, hos, hcs⟩
 unfold getItem
 try with_reducible refine wpAny_holding ?_
 first | refine wpAny_bind (wpAny_pure ?_) | skip
 refine wpAny_bind (wpAny_sequenceKey ht.typeIs (by decide) ?_)
 refine wpAny_bind (wpAny_callSpecial?_slot (name := Str.ofString "__getitem__") ht.typeIs PyProof.Rows.slot_tuple_getitem
  (wpAny_call_entry PyProof.Rows.slot_tuple_getitem ht.typeIs entry_tuple_getitem ?_ (args_tuple_getitem _ _)))
 show wpAny _ _ (Builtin.Tuple.tupleItemsOf (.ref t) >>= _) _ _ s
 refine wpAny_bind (tupleItemsOf_ ht ?_)
 refine wpAny_bind (wpAny_typeOf hTs ?_)
 rw [if_pos (by decide)]
 refine wpAny_bind (HT.sliceApplied_gen hs pl pu ?_)
 have hyes : ((((HT.sIx items.size 0 lo : Nat) : Int) == 0 && (1 : Int) == 1 && (HT.sIx items.size items.size hi - HT.sIx items.size 0 lo) == items.size) = true) := by
  rw [h0, h1]
  simp
 show wpAny _ _ (if (((HT.sIx items.size 0 lo : Nat) : Int) == 0 && (1 : Int) == 1 && (HT.sIx items.size items.size hi - HT.sIx items.size 0 lo) == items.size) = true then _ else _) _ _ s
 rw [if_pos hyes]
 unfold Builtin.Tuple.tupleIsExact
 refine wpAny_bind (wpAny_bind (wpAny_typeOf ht.typeIs ?_))
 refine wpAny_pure ?_
 rw [if_pos (by decide)]
 refine wpAny_bind (wpAny_rule ?_)
 exact wpAny_pure ⟨_, rfl, wpAny_pure h⟩
def rSlA (K : PySem.W.Frag) : V → Option Int → Option Int → Hp → VK → Prop := fun x lo hi H Q => ∃ a xs, x = .ref a ∧ SqT K H a xs ∧
 ((HT.sIx xs.length 0 lo = 0 ∧ HT.sIx xs.length xs.length hi = xs.length) → Q (.ref a) H) ∧ (¬ (HT.sIx xs.length 0 lo = 0 ∧ HT.sIx xs.length xs.length hi = xs.length) → ∀ p, H p = none → Q (.ref p) (upd H p (.tup (cutV xs lo hi))))
theorem sl_tupA : SlR X (rSlA X.K) := by
 intro pins s σ H x v vl vu lo hi sl Q I rx hs pl pu h
 obtain ⟨a, xs, rfl, hx, q1, q2⟩ := h
 by_cases hw : HT.sIx xs.length 0 lo = 0 ∧ HT.sIx xs.length xs.length hi = xs.length
 ·cases rx
  obtain ⟨its, r, ht, hz⟩ := I.tuple hx
  have hlen : its.toArray.size = xs.length := by rw [List.size_toArray]; exact r.length.symm
  refine ⟨"tuple", _, PyProof.Rows.slot_tuple_getitem.lookup, ht.typeIs, ?_⟩
  exact getItem_tuple_whole ht hs pl pu (by rw [hlen]; exact hw.1) (by rw [hlen]; exact hw.2) ⟨.ref a, H, I, rfl, q1 hw⟩
 ·exact sl_tup pins s σ H _ v vl vu lo hi sl Q I rx hs pl pu ⟨a, xs, rfl, hx, hw, q2 hw⟩
end
section
variable {own : List Str} {cap : List (Nat × Str)} {σ : St} {H1 : Hp} {D : Addr} {g : TG} {tc : TT} {te : TE} {QD : Hp → Prop}
end
end L2
set_option Elab.async false
set_option linter.all false
set_option maxRecDepth 100000
namespace Tg
def val : List Int → Int
 | [] => 0
 | d :: ds => d + 65536 * val ds
theorem pow_pos' (k : Nat) : (0 : Int) < 65536 ^ k := Int.pow_pos (by decide)
end Tg
set_option Elab.async false
set_option linter.all false
set_option maxRecDepth 100000
namespace L2
open PySem PySem.Spec PyProof.Rows
section
variable {X : Cx}
def rCatA : R2 := fun x y H Q => ∃ a b xs ys, x = .ref a ∧ y = .ref b ∧ H a = some (.tup xs) ∧ H b = some (.tup ys) ∧ xs.length + ys.length ≤ sizeLine ∧ ∀ c H', Kp [] H H' → H' c = some (.tup (xs ++ ys)) → Q (.ref c) H'
theorem op_catA : OpR X (binaryOp .Add) rCatA := by
 intro pins s σ H x y v u Q I rx ry h
 obtain ⟨a, b, xs, ys, rfl, rfl, ha, hb, hz, q⟩ := h
 by_cases e : xs = []
 ·subst e
  cases rx
  cases ry
  obtain ⟨its, r1, p1, z1⟩ := I.tuple (SqT.of (K := X.K) ha)
  obtain ⟨its2, r2, p2, z2⟩ := I.tuple (SqT.of (K := X.K) hb)
  cases r1
  obtain ⟨⟨cls, dd, data, sl⟩, ho, hc, n, hd⟩ := id p1
  obtain ⟨⟨cls2, dd2, data2, sl2⟩, ho2, hc2, n2, hd2⟩ := id p2
  simp only at hc hd hc2 hd2
  subst hc hd hc2 hd2
  exact concat_meets ⟨_, ho, rfl⟩ ⟨_, ho2, rfl⟩ noFill_tuple_add seq_tuple_add PySem.F.slot_tuple_add PySem.F.entry_tuple_add (PySem.F.args_tuple_add_2 _ _)
   (tuple_addW0 a b [].toArray its2.toArray n n2 dd dd2 sl sl2 rfl) ⟨ho, ho2, ⟨.ref b, H, I, rfl, q b H (Kp.refl _) hb⟩⟩
 ·exact op_catT pins s σ H _ _ v u Q I rx ry ⟨a, b, xs, ys, rfl, rfl, SqT.of ha, SqT.of hb, e, hz, fun z => by subst z; exact q a H (Kp.refl _) (by rw [List.append_nil]; exact ha), fun _ p hp => q p _ (Kp.new hp _) upd_same⟩
def rSlB : V → Option Int → Option Int → Hp → VK → Prop := fun x lo hi H Q => ∃ a xs, x = .ref a ∧ H a = some (.tup xs) ∧ ∀ c H', Kp [] H H' → H' c = some (.tup (cutV xs lo hi)) → Q (.ref c) H'
theorem sl_tupB : SlR X rSlB := by
 intro pins s σ H x v vl vu lo hi sl Q I rx hs pl pu h
 obtain ⟨a, xs, rfl, ha, q⟩ := h
 refine sl_tupA pins s σ H _ v vl vu lo hi sl Q I rx hs pl pu ⟨a, xs, rfl, SqT.of ha, fun z => q a H (Kp.refl _) ?_, fun _ p hp => q p _ (Kp.new hp _) upd_same⟩
 unfold cutV
 rw [z.1, z.2, List.drop_zero, Nat.sub_zero, List.take_length]
 exact ha
theorem all_eq_int : ∀ (ns ms : List Int), ns.length = ms.length → (List.range ns.length).all (fun j => eqV ((ns.map V.int).getD j .non) ((ms.map V.int).getD j .non)) = decide (ns = ms) := by
 intro ns ms hl
 rw [Bool.eq_iff_iff, List.all_eq_true, decide_eq_true_iff]
 constructor
 ·intro h
  apply List.ext_getElem hl
  intro i h1 h2
  have := h i (List.mem_range.mpr h1)
  simpa [List.getD, List.getElem?_eq_getElem h1, List.getElem?_eq_getElem h2, eqV] using this
 ·rintro rfl j hj
  have h1 := List.mem_range.mp hj
  simp [List.getD, List.getElem?_eq_getElem h1, eqV]
theorem op_eqLI (hu : X.A.units < cLine) : OpR X (compareOp .Eq) (fun x y H Q => ∃ (a b : Addr) (ns ms : List Int), x = .ref a ∧ y = .ref b ∧ H a = some (.lst (ns.map V.int)) ∧ H b = some (.lst (ms.map V.int)) ∧ Q (.bl (decide (ns = ms))) H) := by
 intro pins s σ H x y v u Q I rx ry h
 obtain ⟨a, b, ns, ms, rfl, rfl, ha, hb, q⟩ := h
 cases rx
 cases ry
 obtain ⟨its, rv, pl, hz⟩ := I.list (SqL.of (K := X.K) ha)
 obtain ⟨its2, rv2, pl2, hz2⟩ := I.list (SqL.of (K := X.K) hb)
 have l1 := rv.length
 have l2 := rv2.length
 rw [List.length_map] at l1 l2
 by_cases e : ns.length = ms.length
 ·refine SeqAt.eq_listAt (e := fun j => eqV ((ns.map V.int).getD j .non) ((ms.map V.int).getD j .non)) pl.isList pl2.isList (by rw [List.size_toArray, List.size_toArray]; omega) hu (fun j h1 h2 => ?_) ⟨.bl (decide (ns = ms)), H, I, ?_, q⟩
  ·exact eqAt_V (Vals.at rv (by simpa using h1)) (Vals.at rv2 (by simpa using h2)) (flat_at (flat_ints ns) j) (flat_at (flat_ints ms) j)
  ·rw [List.size_toArray, ← l1, all_eq_int ns ms e]
   rfl
 ·refine SeqAt.eq_list_lengthsAt pl.isList pl2.isList (by rw [List.size_toArray, List.size_toArray, ← l1, ← l2]; simpa using e) hu ⟨.bl (decide (ns = ms)), H, I, ?_, q⟩
  rw [decide_eq_false (fun z => e (by rw [z]))]
  rfl
theorem noFill_tuple_mul' : fillsNumberSlot (.type "tuple") "mul" = pure false :=
 PySem.fillsNumberSlot_seq (id := "tuple.__mul__") (r := some (.builtin "tuple.__rmul__")) F.slot_tuple_mul.lookup (by decide +kernel) F.slot_tuple_rmul.lookup (by decide +kernel)
theorem repeat_tuple' : seqRepeat? (.type "tuple") = pure (some (.builtin "tuple.__mul__")) := by
 unfold seqRepeat?
 rw [PySem.seqSlot_of (T := "tuple") (name := "__mul__") (id := "tuple.__mul__") F.slot_tuple_mul.lookup (by decide +kernel), PySem.seqSlot_of (T := "tuple") (name := "__rmul__") (id := "tuple.__rmul__") F.slot_tuple_rmul.lookup (by decide +kernel)]
 rfl
theorem rmul_int_tuple (a : Int) (t : Tok) (l : Addr) (its : Array Value) (n : Nat) (dd : Option Addr) (sl : Array (Option Value)) :
  Meets (Builtin.«int.__rmul__» ⟨[.int a t, .ref l], []⟩) (fun _ R s => s.heap.get? l = some { cls := .type "tuple", dict := dd, data := .seq its n, slots := sl } ∧ R (.ok (.ret Value.notImplemented)) s) :=
 .of_wp fun prog w A R s h => by
  obtain ⟨hp, g, d, tk, os⟩ := s; obtain ⟨hl, h⟩ := h; wp_walk; exact ⟨_, rfl, h⟩
theorem foldA (its : List Value) : ∀ (n : Nat) (acc : Array Value), (List.replicate n its.toArray).foldl (· ++ ·) acc = (acc.toList ++ (List.replicate n its).flatten).toArray
 | 0, acc => by simp
 | n + 1, acc => by
  rw [List.replicate_succ, List.foldl_cons, foldA its n, List.replicate_succ, List.flatten_cons, Array.toList_append, List.append_assoc]
theorem tuple_mul (l : Addr) (its : List Value) (n : Nat) (dd : Option Addr) (sl : Array (Option Value)) (k : Int) (t : Tok) (h1 : 0 ≤ k) (h2 : k ≤ 1000) (hz : its.length ≤ 1000) :
  Meets (Builtin.«tuple.__mul__» ⟨[.ref l, .int k t], []⟩) (fun _ R s => s.heap.get? l = some { cls := .type "tuple", dict := dd, data := .seq its.toArray n, slots := sl } ∧
   ((its = [] ∨ k = 1) → R (.ok (.ret (.ref l))) s) ∧ (¬ (its = [] ∨ k = 1) → R (.ok (.ret (.ref s.heap.objs.size))) { s with heap := s.heap.push { cls := .type "tuple", data := .seq (List.replicate k.toNat its).flatten.toArray } })) := by
 intro prog w A R s ⟨hl, q1, q2⟩
 have ht : IsTup s.heap l its.toArray := ⟨_, hl, rfl, n, rfl⟩
 show wpAny _ _ (asIndex (.int k t) >>= _) _ _ s
 refine wpAny_bind (wpAny_of_eq (a := k) rfl ?_)
 show wpAny _ _ (if (decide (k < -(2 ^ 63)) || decide (k ≥ 2 ^ 63)) = true then _ else _) _ _ s
 rw [if_neg (by rw [decide_eq_false (by omega), decide_eq_false (by omega)]; exact Bool.false_ne_true)]
 refine wpAny_bind (tupleItemsOf_ ht ?_)
 by_cases c : its = [] ∨ k = 1
 ·rw [if_pos (by rw [Bool.or_eq_true]; exact c.imp (fun c => by rw [c]; rfl) (fun c => by rw [c]; rfl))]
  unfold Builtin.Tuple.tupleIsExact
  refine wpAny_bind (wpAny_bind (wpAny_typeOf ht.typeIs ?_))
  refine wpAny_pure ?_
  rw [if_pos (by decide)]
  refine wpAny_bind (wpAny_rule ?_)
  exact wpAny_pure (q1 c)
 ·have c1 : ¬ its = [] := fun z => c (.inl z)
  have c2 : ¬ k = 1 := fun z => c (.inr z)
  have c3 : its.toArray.isEmpty = false := by simpa using c1
  rw [if_neg (by rw [c3, Bool.false_or, beq_iff_eq]; exact c2)]
  show wpAny _ _ (if (decide (k ≤ 0) || its.toArray.isEmpty) = true then _ else _) _ _ s
  have q := q2 c
  by_cases k0 : k ≤ 0
  ·rw [if_pos (by rw [decide_eq_true k0]; rfl)]
   have e : (List.replicate k.toNat its).flatten.toArray = (#[] : Array Value) := by
    have : k.toNat = 0 := by omega
    rw [this]
    rfl
   rw [e] at q
   refine wpAny_bind (m := Builtin.Tuple.tupleExact _) ?_
   exact wpAny_newObj_type (wpAny_pure q) (by show 0 ≤ sizeLine; exact Nat.zero_le _)
  ·rw [if_neg (by rw [decide_eq_false k0, c3]; exact Bool.false_ne_true)]
   have hm : its.length * k.toNat ≤ 1000 * 1000 := Nat.mul_le_mul hz (by omega)
   have hs : (1000 * 1000 : Nat) ≤ sizeLine := by decide
   have hp : ((its.toArray.size : Nat) : Int) * k = ((its.length * k.toNat : Nat) : Int) := by
    rw [List.size_toArray]
    push_cast
    congr 1
    omega
   show wpAny _ _ (if ((its.toArray.size : Nat) : Int) * k > (2 ^ 63 - 1) / 8 then _ else _) _ _ s
   rw [if_neg (by rw [hp]; omega)]
   show wpAny _ _ (if Builtin.Tuple.tupleTooMany (((its.toArray.size : Nat) : Int) * k) = true then _ else _) _ _ s
   rw [if_neg (by unfold Builtin.Tuple.tupleTooMany; rw [hp, decide_eq_false (by omega)]; exact Bool.false_ne_true)]
   have e : List.foldl (fun x1 x2 => x1 ++ x2) #[] (List.replicate k.toNat its.toArray) = (List.replicate k.toNat its).flatten.toArray := by
    have := foldA its k.toNat #[]
    simpa using this
   show wpAny _ _ (Builtin.Tuple.tupleExact (List.foldl (fun x1 x2 => x1 ++ x2) #[] (List.replicate k.toNat its.toArray)) >>= _) _ _ s
   rw [e]
   refine wpAny_bind (m := Builtin.Tuple.tupleExact _) ?_
   refine wpAny_newObj_type (wpAny_pure q) ?_
   show (List.replicate k.toNat its).flatten.toArray.size ≤ sizeLine
   rw [List.size_toArray, len_rep, Nat.mul_comm]
   omega
theorem op_repT : OpR X (binaryOp .Mult) (fun x y H Q => ∃ a k xs, x = .ref a ∧ y = .int k ∧ H a = some (.tup xs) ∧ 0 ≤ k ∧ k ≤ 1000 ∧ xs.length ≤ 1000 ∧ ∀ c H', Kp [] H H' → H' c = some (.tup (List.replicate k.toNat xs).flatten) → Q (.ref c) H') := by
 intro pins s σ H x y v u Q I rx ry h
 obtain ⟨a, k, xs, rfl, rfl, ha, k1, k2, hz, q⟩ := h
 cases rx
 obtain ⟨t, rfl⟩ := ry
 obtain ⟨its, r, p, z⟩ := I.tuple (SqT.of (K := X.K) ha)
 obtain ⟨⟨cls, dd, data, sl⟩, ho, hc, n, hd⟩ := id p
 simp only at hc hd
 subst hc hd
 have hl := r.length
 refine wpAny_binaryOp_repeat_ref (T := "tuple") (U := "int") (by decide) ⟨_, ho, rfl⟩ (fun s' => typeIs_int s' k t) noFill_tuple_mul' F.fills_int_mul F.slot_int_rmul repeat_tuple' F.slot_int_index.lookup
  (call_meets F.slot_int_rmul (typeIs_int s k t) F.entry_int_rmul (F.args_int_rmul_2 _ _) (rmul_int_tuple k t a its.toArray n dd sl)
   ⟨ho, rfl, ⟨_, ho, rfl⟩, call_meets F.slot_tuple_mul ⟨_, ho, rfl⟩ F.entry_tuple_mul (F.args_tuple_mul_2 _ _) (tuple_mul a its n dd sl k t k1 k2 (by omega)) ⟨ho, fun c => ?_, fun c => ?_⟩⟩)
 ·refine ⟨.ref a, H, I, rfl, q a H (Kp.refl _) ?_⟩
  have e : (List.replicate k.toNat xs).flatten = xs := by
   rcases c with c | c
   ·have : xs = [] := by cases r with | nil => rfl | cons _ _ => cases c
    rw [this]
    simp
   ·rw [c]; simp
  rw [e]
  exact ha
 ·refine ⟨.ref s.heap.objs.size, _, I.laid (t' := s.toks) (o := .tup (List.replicate k.toNat xs).flatten) (fun b ob q => Heap.get?_push_of_some _ q) (Nat.le_refl _) ?_, rfl, q _ _ (Kp.new (I.hok.fresh (Nat.le_refl _)) _) upd_same⟩
  refine ⟨?_, _, r.rep k.toNat, IsTup.new _ _⟩
  rw [len_rep]
  have hm : k.toNat * xs.length ≤ 1000 * 1000 := Nat.mul_le_mul (by omega) hz
  have hs : (1000 * 1000 : Nat) ≤ sizeLine := by decide
  omega
theorem strVals_of {ss : List Str} : ∀ {us : List Value}, Vals (ss.map V.str) us → ∃ l : List (Str × Tok), us = strValues l ∧ l.map (·.1) = ss := by
 induction ss with
 | nil => intro us r; rw [List.map_nil] at r; cases r; exact ⟨[], rfl, rfl⟩
 | cons x r ih =>
  intro us rv
  rw [List.map_cons] at rv
  cases rv with
  | cons r1 r2 =>
   obtain ⟨t, rfl⟩ := r1
   obtain ⟨l, rfl, e⟩ := ih r2
   exact ⟨(x, t) :: l, rfl, by rw [List.map_cons, e]⟩
def catS (ss : List Str) : Str := ⟨(ss.map (·.cps.toList)).flatten.toArray⟩
theorem fold_cat : ∀ (ss : List Str) (x : Array Nat), ss.foldl (fun acc (p : Str) => acc ++ (Str.empty).cps ++ p.cps) x = (x.toList ++ (ss.map (·.cps.toList)).flatten).toArray
 | [], x => by simp
 | y :: r, x => by
  rw [List.foldl_cons, fold_cat r]
  simp [Str.empty, Array.toList_append, List.append_assoc]
theorem glued_empty : ∀ ss : List Str, Builtin.Str.glued Str.empty ss = catS ss
 | [] => rfl
 | y :: r => by
  show (⟨r.foldl (fun acc (p : Str) => acc ++ (Str.empty).cps ++ p.cps) y.cps⟩ : Str) = _
  rw [fold_cat]
  rfl
theorem foldLen (sep : Nat) : ∀ (ss : List Str) (n B : Nat), (∀ y ∈ ss, y.length ≤ B) → ss.foldl (fun a (p : Str) => a + p.length + sep) n ≤ n + ss.length * (B + sep)
 | [], n, B, _ => by simp
 | y :: r, n, B, h => by
  rw [List.foldl_cons]
  have h1 := foldLen sep r (n + y.length + sep) B fun z hz => h z (List.mem_cons_of_mem _ hz)
  have h2 := h y List.mem_cons_self
  rw [List.length_cons, Nat.succ_mul]
  omega
theorem flat_len {α : Type} (B : Nat) : ∀ ls : List (List α), (∀ l ∈ ls, l.length ≤ B) → ls.flatten.length ≤ ls.length * B
 | [], _ => by simp
 | l :: r, h => by
  rw [List.flatten_cons, List.length_append, List.length_cons, Nat.succ_mul]
  have h1 := flat_len B r fun z hz => h z (List.mem_cons_of_mem _ hz)
  have h2 := h l List.mem_cons_self
  omega
theorem catS_len {ss : List Str} {B : Nat} (h : ∀ y ∈ ss, y.length ≤ B) : (catS ss).length ≤ ss.length * B := by
 show (ss.map (·.cps.toList)).flatten.toArray.size ≤ _
 rw [List.size_toArray]
 have := flat_len B (ss.map (·.cps.toList)) fun l hl => by
  obtain ⟨y, hy, rfl⟩ := List.mem_map.mp hl
  rw [Array.length_toList]
  exact h y hy
 rwa [List.length_map] at this
theorem mt_join : MtR X "str.join" (fun x vs H Q => ∃ (p : Addr) (ss : List Str), x = .str Str.empty ∧ vs = [.ref p] ∧ SqL X.K H p (ss.map V.str) ∧ ss.length ≤ 1000 ∧ (∀ y ∈ ss, y.length ≤ 1000) ∧ Q (.str (catS ss)) H) := by
 intro pins s σ H x vs v us Q I rx rv h
 obtain ⟨p, ss, rfl, rfl, hq, l1, l2, q⟩ := h
 obtain ⟨t, rfl⟩ := rx
 obtain ⟨u, rfl, ru⟩ := rv.one
 cases ru
 obtain ⟨its, r, pl, hz⟩ := I.list hq
 obtain ⟨l, rfl, rfl⟩ := strVals_of r
 have hs : (1000 * 1000 : Nat) ≤ sizeLine := by decide
 have hlen : (l.map (·.1)).foldl (fun a (p : Str) => a + p.length + (Str.empty).length) 0 ≤ 1000 * 1000 := by
  have h1 := foldLen (Str.empty).length (l.map (·.1)) 0 1000 l2
  have h2 : (Str.empty).length = 0 := rfl
  rw [h2] at h1 ⊢
  have h3 : (l.map (·.1)).length * (1000 + 0) ≤ 1000 * 1000 := Nat.mul_le_mul l1 (by omega)
  omega
 have hl : Builtin.Str.tooLong ((l.map (·.1)).toArray.foldl (· + ·.length + (Str.empty).length) 0) = false := by
  unfold Builtin.Str.tooLong
  rw [List.foldl_toArray]
  exact decide_eq_false (by omega)
 refine call_meets F.slot_str_join (typeIs_str s _ t) F.entry_str_join (F.args_str_join_2 _ _) (meets_str_join_list Str.empty t p l hl) ⟨pl.isList, ?_⟩
 have fin : ∀ z : Str, z = catS (l.map (·.1)) → Q (.str z) H := fun z e => by rw [e]; exact q
 match l, glued_empty (l.map (·.1)), fin, l1, l2 with
 | [], _, fin, _, _ => exact ⟨by decide, .str Str.empty, H, I.tok _, ⟨_, rfl⟩, fin _ rfl⟩
 | [y], _, fin, _, _ => exact ⟨.str y.1, H, I, ⟨y.2, rfl⟩, fin _ (by simp [catS])⟩
 | y :: z :: r, e, fin, l1, l2 =>
  refine ⟨?_, .str (Builtin.Str.glued Str.empty ((y :: z :: r).map (·.1))), H, I.tok _, ⟨_, rfl⟩, fin _ e⟩
  show (Builtin.Str.glued Str.empty ((y :: z :: r).map (·.1))).length ≤ sizeLine
  rw [e]
  have h1 := catS_len (B := 1000) l2
  have h2 : ((y :: z :: r).map (·.1)).length * 1000 ≤ 1000 * 1000 := Nat.mul_le_mul l1 (Nat.le_refl _)
  omega
end
end L2
set_option Elab.async false
set_option linter.all false
set_option maxRecDepth 100000
namespace L2
open PySem PySem.Spec PyProof.Rows
section
variable {X : Cx} {pins : List (Addr × Obj)} {σ : St} {H : Hp} {s : Shared} {h' : Heap}
theorem Inv.turnedNew {t' : Nat} {ch : List Addr} {a : Addr} {o : HO} (I : Inv X pins σ H s) (k : ∀ b u, b ∉ ch → s.heap.get? b = some u → h'.get? b = some u) (hf : ∀ b ∈ ch, FpOk X pins H b) (ha : s.heap.objs.size ≤ a)
  (new : ObjOk X.prog X.w (upd H a o) h' a o) : Inv X pins σ (upd H a o) { s with heap := h', toks := t' } := by
 have hn : H a = none := I.hok.fresh ha
 have nch : ∀ b u, H b = some u → b ∉ ch := fun b u e z => by rw [(hf b z).1] at e; cases e
 refine I.step (g' := s.gens) (d' := s.drawn) (ch := ch) (fun b hb => ?_) (fun b o _ _ hc e _ => k b o hc e) (fun b o _ _ hc e _ => ⟨o.slots, k b o hc e⟩) (fun b o _ e n => ?_)
  (fun b o hc e => ⟨o, k b o hc e⟩) (fun b xs e => by rw [upd_ne (ne_of_none e hn)]; exact e) (fun b u v e => by rw [upd_ne (ne_of_none e hn)]; exact e) (fun b ps e => ⟨#[], by rw [upd_ne (ne_of_none e hn), e]; simp⟩) (fun m hm => ?_) (fun b u e => ?_) I.bare
 ·obtain ⟨f0, f1, f2, f3, f4, f5⟩ := hf b hb
  exact ⟨f3, f1, f4, f5⟩
 ·rw [upd_ne (Nat.ne_of_lt (Nat.lt_of_lt_of_le (Heap.lt_size e) ha))]
  exact n
 ·obtain ⟨o, es, ep, ho, r⟩ := hm
  exact ⟨o, es, ep, k _ o (fun z => (hf _ z).2.1 rfl) ho, r⟩
 ·by_cases hb : b = a
  ·subst hb; rw [upd_same] at e; cases e; exact new
  ·rw [upd_ne hb] at e
   refine (I.hok b u e).stay (fun c v hc q => k c v ?_ q) (fun c q => by rw [upd_ne (ne_of_none q hn)]; exact q) fun c xs q => by rw [upd_ne (ne_of_none q hn)]; exact q
   rcases hc with z | z
   ·rw [z]; exact nch b u e
   ·exact nch c _ z
theorem Inv.turnedAll {t' : Nat} {ch : List Addr} (I : Inv X pins σ H s) (k : ∀ b u, b ∉ ch → s.heap.get? b = some u → h'.get? b = some u) (hf : ∀ b ∈ ch, FpOk X pins H b) : Inv X pins σ H { s with heap := h', toks := t' } := by
 have nch : ∀ b u, H b = some u → b ∉ ch := fun b u e z => by rw [(hf b z).1] at e; cases e
 refine I.step (g' := s.gens) (d' := s.drawn) (ch := ch) (fun b hb => ?_) (fun b o _ _ hc e _ => k b o hc e) (fun b o _ _ hc e _ => ⟨o.slots, k b o hc e⟩) (fun b o _ e n => n)
  (fun b o hc e => ⟨o, k b o hc e⟩) (fun b xs e => e) (fun b u v e => e) (fun b ps e => ⟨#[], by rw [e]; simp⟩) (fun m hm => ?_) (fun b u e => ?_) I.bare
 ·obtain ⟨f0, f1, f2, f3, f4, f5⟩ := hf b hb
  exact ⟨f3, f1, f4, f5⟩
 ·obtain ⟨o, es, ep, ho, r⟩ := hm
  exact ⟨o, es, ep, k _ o (fun z => (hf _ z).2.1 rfl) ho, r⟩
 ·refine (I.hok b u e).stay (fun c v hc q => k c v ?_ q) (fun _ q => q) fun _ _ q => q
  rcases hc with z | z
  ·rw [z]; exact nch b u e
  ·exact nch c _ z
end
def signV (c : Nat) : V := .str ⟨#[c]⟩
def Its (x : Str) : It := ⟨fun i _ => i < x.cps.size, fun i H v H' => H' = H ∧ ∃ c, x.cps[i]? = some c ∧ v = signV c, fun i _ => x.cps.size ≤ i⟩
theorem turn_str {P : Program} {w : World} {K : PySem.W.Frag} {tg : Expr} (it : Addr) (x : Str) (t : Tok) (ty : String) (hty : ty = "str_ascii_iterator" ∨ ty = "str_iterator") : Turn P w K tg (Its x) [it] it (fun i h => h.IsStrIter it ty x t i) where
 mem := by simp
 obj := fun i h st b hb => by
  have e : b = it := by simpa using hb
  subst e
  obtain ⟨o, e, c, d⟩ := st
  exact ⟨o, e, fun v z => by rw [d] at z; cases z⟩
 keep := fun i h h' st k => by
  obtain ⟨o, e, r⟩ := st
  exact ⟨o, k it (by simp) o e, r⟩
 item := by
  intro X hP hw hK hc i pins s σ H E I hf st hg
  subst hP hw hK
  obtain ⟨f0, f1, f2, f3, f4, f5⟩ := hf it (by simp)
  have key : ∀ v h' tk, SignAt x i v → h'.IsStrIter it ty x t (i + 1) → (∀ b o, b ∉ [it] → s.heap.get? b = some o → h'.get? b = some o) → ∃ u, some v = some u ∧
    wpAny (model X.prog X.w) X.A (letOwnedTupleGo tg (.ref it) u) (fun _ s2 => ∃ y H', Inv X pins σ H' s2 ∧ RelV y u ∧ (Its x).yld i H y H' ∧ s2.heap.IsStrIter it ty x t (i + 1) ∧ ∀ b ∈ [it], H' b = none) E { s with heap := h', toks := tk } := by
   intro v h' tk hv st' kk
   obtain ⟨c, u, hc', rfl⟩ := hv
   have I1 : Inv X pins σ H { s with heap := h', toks := tk } := I.turned (fun b o hb e => kk b o (by simpa using hb) e) f0 f1 f3 f4 f5
   obtain ⟨o, e, ec, ed⟩ := id st'
   exact ⟨_, rfl, go_of (s := { s with heap := h', toks := tk }) e ec ed (by rcases hty with rfl | rfl <;> decide) ⟨signV c, H, I1, ⟨u, rfl⟩, ⟨rfl, c, hc', rfl⟩, st', fun b hb => (hf b hb).1⟩⟩
  rcases hty with rfl | rfl
  ·exact (Walks.strAscii (prog := X.prog) (w := X.w) (I.ok.hd hc) it x t).item i s _ _ hg st key
  ·exact (Walks.strWide (prog := X.prog) (w := X.w) (I.ok.hd hc) it x t).item i s _ _ hg st key
 done := by
  intro X hP hw hK hc i pins s σ H E I hf st hg
  subst hP hw hK
  obtain ⟨f0, f1, f2, f3, f4, f5⟩ := hf it (by simp)
  have hx : x.cps[i]? = none := Array.getElem?_eq_none hg
  rcases hty with rfl | rfl
  ·exact wpAny_pyNext_ascii_end (I.ok.hd hc) st hx fun h' eb => ⟨rfl, I.turned (t' := s.toks) (fun b o hb e => eb b o hb e) f0 f1 f3 f4 f5⟩
  ·exact wpAny_pyNext_wide_end (I.ok.hd hc) st hx fun h' eb => ⟨rfl, I.turned (t' := s.toks) (fun b o hb e => eb b o hb e) f0 f1 f3 f4 f5⟩
 self := fun _ _ _ _ _ st h => by
  rcases hty with rfl | rfl
  ·exact wpAny_pyIter_striter_ascii st h
  ·exact wpAny_pyIter_striter_wide st h
section
variable {X : Cx} {tg : Expr}
def iStr (tl : TE) : TI := fun σ H R => tl σ H fun x H1 => ∃ z, x = .str z ∧ R (Its z) H1
theorem pi_str {l : Expr} {tl : TE} (hl : PE X l tl) : PI X tg l (iStr tl) := by
 refine .mk ?_
 intro pins s σ H R I h
 refine thn (hl pins s σ H _ I h) fun v s1 ⟨x, H1, I1, r1, q1⟩ => ?_
 obtain ⟨z, e, q⟩ := q1
 subst e
 obtain ⟨t, rfl⟩ := r1
 have fin : ∀ ty : String, (ty = "str_ascii_iterator" ∨ ty = "str_iterator") → PIE X pins σ tg R (.ref s1.heap.objs.size) { s1 with heap := s1.heap.push { cls := .type ty, data := .fields #[.str z t, .int 0 0] } } := by
  intro ty hty
  refine ⟨s1.heap.objs.size, [s1.heap.objs.size], _, _, H1, rfl, I1.kept (t' := s1.toks) fun b o e => Heap.get?_push_of_some _ e, turn_str s1.heap.objs.size z t ty hty, ⟨_, Heap.get?_push_size _ rfl, rfl, rfl⟩, fun b hb => ?_, q⟩
  have e : b = s1.heap.objs.size := by simpa using hb
  subst e
  exact I1.fpOk (Nat.le_refl _) (I1.hok.fresh (Nat.le_refl _))
 cases ha : z.cps.all (· < 128)
 ·exact wpAny_pyIter_wide ha (fin _ (.inr rfl))
 ·exact wpAny_pyIter_ascii ha (fin _ (.inl rfl))
end
section
variable {own : List Str} {cap : List (Nat × Str)} {σ : St} {H1 : Hp} {D : Addr} {g : TG} {tc : TT} {te : TE} {QD : Hp → Prop}
end
end L2
set_option Elab.async false
set_option linter.all false
set_option maxRecDepth 100000
namespace L2
open PySem PySem.Spec PyProof.Rows
section
variable {prog : Program} {w : World} {A : Around} {E : Value → Shared → Prop} {s : Shared}
theorem nextT_item {j u : Addr} {i : Nat} {vs : Array Value} {v : Value} {Q : Value → Shared → Prop} (hj : s.heap.IsTupleIter j u i) (hu : s.heap.IsTuple u vs) (hv : vs[i]? = some v)
  (q : ∀ h', h'.IsTupleIter j u (i + 1) → Heap.SameBut j s.heap h' → Q v { s with heap := h' }) : wpAny (model prog w) A (Builtin.SmallTypes.nextOf (.ref j)) Q E s := by
 obtain ⟨ob, b1, b2, b3⟩ := id hj
 obtain ⟨ou, c1, _, nu, c3⟩ := hu
 unfold Builtin.SmallTypes.nextOf
 refine wpAny_bind (wpAny_callSpecial?_slot (name := Str.ofString "__next__") hj.typeIs F.slot_tuple_iterator_next (wpAny_call_entry F.slot_tuple_iterator_next hj.typeIs F.entry_tuple_iterator_next ?_ (F.args_tuple_iterator_next_1 _)))
 show wpAny _ _ (field (.ref j) 0 >>= _) _ _ s
 refine wpAny_bind (wpAny_field b1 b3 (x := .ref u) rfl ?_)
 show wpAny _ _ (if (Value.ref u == Value.none) = true then _ else _) _ _ s
 rw [if_neg (show ¬ ((Value.ref u == Value.none) = true) from Bool.false_ne_true)]
 show wpAny _ _ (field (.ref j) 1 >>= _) _ _ s
 refine wpAny_bind (wpAny_field b1 b3 (x := .int i 0) rfl ?_)
 show wpAny _ _ (seqItems? (.ref u) >>= _) _ _ s
 refine wpAny_bind (wpAny_seqItems c1 c3 ?_)
 simp only [Int.toNat_natCast, hv]
 refine wpAny_bind (wpAny_setField b1 b3 (by simp) (wpAny_pure ⟨v, rfl, wpAny_pure (q _ ?_ (Heap.SameBut.update ..))⟩))
 exact ⟨_, Heap.get?_update_self _ b1 (Obj.isFreed_of_fields (Obj.data_mapFields b3 _)), (Obj.cls_mapFields ..).trans b2, by rw [Obj.data_mapFields b3]; simp [rawInt]⟩
theorem nextT_end {j u : Addr} {i : Nat} {vs : Array Value} {Q : Value → Shared → Prop} (hh : A.handled = none) (hj : s.heap.IsTupleIter j u i) (hu : s.heap.IsTuple u vs) (hv : vs[i]? = none)
  (q : ∀ h' e, Heap.ExtBut j s.heap h' → (∃ o, h'.get? e = some o ∧ o.cls = .type "StopIteration") → E (.ref e) { s with heap := h' }) : wpAny (model prog w) A (Builtin.SmallTypes.nextOf (.ref j)) Q E s := by
 obtain ⟨ob, b1, b2, b3⟩ := id hj
 obtain ⟨ou, c1, _, nu, c3⟩ := hu
 unfold Builtin.SmallTypes.nextOf
 refine wpAny_bind (wpAny_callSpecial?_slot (name := Str.ofString "__next__") hj.typeIs F.slot_tuple_iterator_next (wpAny_call_entry F.slot_tuple_iterator_next hj.typeIs F.entry_tuple_iterator_next ?_ (F.args_tuple_iterator_next_1 _)))
 show wpAny _ _ (field (.ref j) 0 >>= _) _ _ s
 refine wpAny_bind (wpAny_field b1 b3 (x := .ref u) rfl ?_)
 show wpAny _ _ (if (Value.ref u == Value.none) = true then _ else _) _ _ s
 rw [if_neg (show ¬ ((Value.ref u == Value.none) = true) from Bool.false_ne_true)]
 show wpAny _ _ (field (.ref j) 1 >>= _) _ _ s
 refine wpAny_bind (wpAny_field b1 b3 (x := .int i 0) rfl ?_)
 show wpAny _ _ (seqItems? (.ref u) >>= _) _ _ s
 refine wpAny_bind (wpAny_seqItems c1 c3 ?_)
 simp only [Int.toNat_natCast, hv]
 refine wpAny_bind (wpAny_rule (wpAny_bind (wpAny_setField b1 b3 (by simp) ?_)))
 show wpAny _ _ (newExc (.type "StopIteration") [] >>= _) _ _ _
 refine wpAny_bind ?_
 simp only [newExc, newTuple]
 refine wpAny_bind (wpAny_newObj_type ?_ (by show 0 ≤ sizeLine; exact Nat.zero_le _))
 refine wpAny_bind (m := firstArgMember _ _) (wpAny_of_eq (a := Value.none) (by first | rfl | (simp only [firstArgMember] <;> rfl)) ?_)
 refine wpAny_newObj_type ?_ (by size_fits)
 simp only [raiseNew]
 refine wpAny_bind (wpAny_handled ?_)
 first | rw [show A.in1.handled = none from hh] | rw [hh]
 refine wpAny_bind (wpAny_pure (wpAny_throw ?_))
 exact q _ _ (((Heap.SameBut.update ..).extBut.push _).push _) ⟨_, Heap.get?_push_size _ rfl, rfl⟩
structure Apart (z p r j1 j2 u1 u2 : Addr) : Prop where
 pz : p ≠ z
 rz : r ≠ z
 j1z : j1 ≠ z
 j2z : j2 ≠ z
 pr : p ≠ r
 pj1 : p ≠ j1
 pj2 : p ≠ j2
 rj1 : r ≠ j1
 rj2 : r ≠ j2
 j12 : j1 ≠ j2
 u1z : u1 ≠ z
 u1r : u1 ≠ r
 u1j1 : u1 ≠ j1
 u1j2 : u1 ≠ j2
 u2z : u2 ≠ z
 u2r : u2 ≠ r
 u2j1 : u2 ≠ j1
 u2j2 : u2 ≠ j2
theorem itAt {h h' : Heap} {a t : Addr} {i : Nat} (x : h.IsTupleIter a t i) (e : ∀ o, h.get? a = some o → h'.get? a = some o) : h'.IsTupleIter a t i := let ⟨o, ho, r⟩ := x; ⟨o, e o ho, r⟩
theorem zipT_item {z p r j1 j2 u1 u2 : Addr} {i : Nat} {vs ws : Array Value} {x y a b : Value} {Q : Value → Shared → Prop} (D : Apart z p r j1 j2 u1 u2)
  (hz : IsZip s.heap z p r .none) (hp : IsPair s.heap p (.ref j1) (.ref j2)) (hr : IsPair s.heap r a b)
  (h1 : s.heap.IsTupleIter j1 u1 i) (h2 : s.heap.IsTupleIter j2 u2 i) (l1 : s.heap.IsTuple u1 vs) (l2 : s.heap.IsTuple u2 ws) (hx : vs[i]? = some x) (hy : ws[i]? = some y)
  (q : ∀ h', IsZip h' z p r (rawInt s.heap.objs.size) → IsPair h' r x y → h'.IsTupleIter j1 u1 (i + 1) → h'.IsTupleIter j2 u2 (i + 1) → IsPair h' s.heap.objs.size x y → h'.objs.size = s.heap.objs.size + 1 →
   (∀ c o, c ≠ z → c ≠ r → c ≠ j1 → c ≠ j2 → s.heap.get? c = some o → h'.get? c = some o) → Q (.ref s.heap.objs.size) { s with heap := h' }) :
  wpAny (model prog w) A (Builtin.«zip.__next__» ⟨[.ref z], []⟩) (fun fin s' => ∃ v, fin = .done (.ret v) ∧ Q v s') E s := by
 show wpAny _ _ (field (.ref z) 2 >>= _) _ _ _
 refine wpAny_bind (wpAny_field hz rfl (x := .bool false) rfl ?_)
 show wpAny _ _ (field (.ref z) 3 >>= _) _ _ _
 refine wpAny_bind (wpAny_field hz rfl (x := .ref p) rfl ?_)
 refine wpAny_bind (wpAny_seqItems hp rfl ?_)
 show wpAny _ _ (Builtin.SmallTypes.ownedTupleIsFree (.ref z) >>= _) _ _ _
 refine wpAny_bind ?_
 unfold Builtin.SmallTypes.ownedTupleIsFree
 refine wpAny_bind (wpAny_field hz rfl (x := .none) rfl (wpAny_pure ?_))
 simp only [if_true]
 refine wpAny_bind (wpAny_rule ?_)
 refine wpAny_bind (wpAny_field hz rfl (x := .ref r) rfl ?_)
 refine wpAny_bind (wpAny_setField_rec hz (by simp) fun g1 z1 e1 => ?_)
 replace z1 : IsZip g1 z p r .ellipsis := z1
 refine wpAny_bind ?_
 simp only [List.zipIdx_cons, List.zipIdx_nil, List.forIn_cons, List.forIn_nil]
 refine wpAny_bind (wpAny_bind (wpAny_onRaise ?_))
 show wpAny _ _ (Builtin.SmallTypes.nextOf (.ref j1) >>= _) _ _ _
 refine wpAny_bind (nextT_item (h1.extBut e1.extBut D.j1z) (l1.extBut e1.extBut D.u1z) hx fun g2 a2 e2 => wpAny_pure ?_)
 have r2 : IsPair g2 r a b := e2.extBut _ _ D.rj1 (e1.extBut _ _ D.rz hr)
 refine wpAny_bind (wpAny_seqItems r2 rfl ?_)
 refine wpAny_bind (wpAny_updateSeq_pair r2 fun g3 r3 e3 => ?_)
 replace r3 : IsPair g3 r x b := r3
 refine wpAny_bind (wpAny_letGo (wpAny_pure ?_))
 refine wpAny_bind (wpAny_bind (wpAny_onRaise ?_))
 show wpAny _ _ (Builtin.SmallTypes.nextOf (.ref j2) >>= _) _ _ _
 refine wpAny_bind (nextT_item (((h2.extBut e1.extBut D.j2z).extBut e2.extBut D.j12.symm).extBut e3.extBut D.rj2.symm) (((l2.extBut e1.extBut D.u2z).extBut e2.extBut D.u2j1).extBut e3.extBut D.u2r) hy fun g4 a4 e4 => wpAny_pure ?_)
 have r4 : IsPair g4 r x b := e4.extBut _ _ D.rj2 r3
 refine wpAny_bind (wpAny_seqItems r4 rfl ?_)
 refine wpAny_bind (wpAny_updateSeq_pair r4 fun g5 r5 e5 => ?_)
 replace r5 : IsPair g5 r x y := r5
 refine wpAny_bind (wpAny_letGo (wpAny_pure (wpAny_pure ?_)))
 refine wpAny_bind (wpAny_seqItems r5 rfl ?_)
 refine wpAny_bind (wpAny_newTuple ?_)
 have sz : g5.objs.size = s.heap.objs.size := by rw [e5.1, e4.1, e3.1, e2.1, e1.1]
 have z5 : IsZip g5 z p r .ellipsis := e5.extBut _ _ D.rz.symm (e4.extBut _ _ D.j2z.symm (e3.extBut _ _ D.rz.symm (e2.extBut _ _ D.j1z.symm z1)))
 have k5 : ∀ c o, c ≠ z → c ≠ r → c ≠ j1 → c ≠ j2 → s.heap.get? c = some o → g5.get? c = some o := fun c o n1 n2 n3 n4 e =>
  e5.extBut _ _ n2 (e4.extBut _ _ n4 (e3.extBut _ _ n2 (e2.extBut _ _ n3 (e1.extBut _ _ n1 e))))
 have b1 : g5.IsTupleIter j1 u1 (i + 1) := ((a2.extBut e3.extBut D.rj1.symm).extBut e4.extBut D.j12).extBut e5.extBut D.rj1.symm
 have b2 : g5.IsTupleIter j2 u2 (i + 1) := a4.extBut e5.extBut D.rj2.symm
 have zl : z < g5.objs.size := Heap.lt_size z5
 show wpAny _ _ (Builtin.SmallTypes.ownedTupleHandOut (.ref z) (.ref g5.objs.size) >>= _) _ _ _
 refine wpAny_bind ?_
 unfold Builtin.SmallTypes.ownedTupleHandOut
 have z6 : IsZip (g5.push { cls := .type "tuple", data := .seq #[x, y] }) z p r .ellipsis := Heap.get?_push_of_some _ z5
 refine wpAny_bind (wpAny_setField_rec z6 (by simp) fun g7 z7 e7 => ?_)
 replace z7 : IsZip g7 z p r (rawInt g5.objs.size) := z7
 refine wpAny_setField_rec z7 (by simp) fun g8 z8 e8 => ?_
 replace z8 : IsZip g8 z p r (rawInt g5.objs.size) := z8
 have up : ∀ c o, c ≠ z → g5.get? c = some o → g8.get? c = some o := fun c o n1 e => e8.extBut _ _ n1 (e7.extBut _ _ n1 (Heap.get?_push_of_some _ e))
 have t8 : IsPair g8 g5.objs.size x y := e8.extBut _ _ (Nat.ne_of_gt zl) (e7.extBut _ _ (Nat.ne_of_gt zl) (Heap.get?_push_size _ rfl))
 have s8 : g8.objs.size = g5.objs.size + 1 := by rw [e8.1, e7.1, Heap.size_push]
 rw [sz] at z8 t8 s8
 refine wpAny_pure ⟨_, rfl, ?_⟩
 show Q (.ref g5.objs.size) _
 rw [sz]
 exact q g8 z8 (up _ _ D.rz r5) (itAt b1 fun o e => up _ o D.j1z e) (itAt b2 fun o e => up _ o D.j2z e) t8 s8 fun c o n1 n2 n3 n4 e => up c o n1 (k5 c o n1 n2 n3 n4 e)
theorem zipT_end {z p r j1 j2 u1 u2 : Addr} {i : Nat} {vs ws : Array Value} {a b : Value} {Q : Fin → Shared → Prop} (hh : A.handled = none) (D : Apart z p r j1 j2 u1 u2)
  (hz : IsZip s.heap z p r .none) (hp : IsPair s.heap p (.ref j1) (.ref j2)) (hr : IsPair s.heap r a b)
  (h1 : s.heap.IsTupleIter j1 u1 i) (h2 : s.heap.IsTupleIter j2 u2 i) (l1 : s.heap.IsTuple u1 vs) (l2 : s.heap.IsTuple u2 ws) (hend : vs[i]? = none ∨ ws[i]? = none)
  (q : ∀ h' e, (∀ c o, c ≠ z → c ≠ r → c ≠ j1 → c ≠ j2 → s.heap.get? c = some o → h'.get? c = some o) → (∃ o, h'.get? e = some o ∧ o.cls = .type "StopIteration") → E (.ref e) { s with heap := h' }) :
  wpAny (model prog w) A (Builtin.«zip.__next__» ⟨[.ref z], []⟩) Q E s := by
 show wpAny _ _ (field (.ref z) 2 >>= _) _ _ _
 refine wpAny_bind (wpAny_field hz rfl (x := .bool false) rfl ?_)
 show wpAny _ _ (field (.ref z) 3 >>= _) _ _ _
 refine wpAny_bind (wpAny_field hz rfl (x := .ref p) rfl ?_)
 refine wpAny_bind (wpAny_seqItems hp rfl ?_)
 show wpAny _ _ (Builtin.SmallTypes.ownedTupleIsFree (.ref z) >>= _) _ _ _
 refine wpAny_bind ?_
 unfold Builtin.SmallTypes.ownedTupleIsFree
 refine wpAny_bind (wpAny_field hz rfl (x := .none) rfl (wpAny_pure ?_))
 simp only [if_true]
 refine wpAny_bind (wpAny_rule ?_)
 refine wpAny_bind (wpAny_field hz rfl (x := .ref r) rfl ?_)
 refine wpAny_bind (wpAny_setField_rec hz (by simp) fun g1 z1 e1 => ?_)
 replace z1 : IsZip g1 z p r .ellipsis := z1
 refine wpAny_bind ?_
 simp only [List.zipIdx_cons, List.zipIdx_nil, List.forIn_cons, List.forIn_nil]
 refine wpAny_bind (wpAny_bind (wpAny_onRaise ?_))
 show wpAny _ _ (Builtin.SmallTypes.nextOf (.ref j1) >>= _) _ _ _
 cases hx : vs[i]? with
 | none =>
  refine wpAny_bind (nextT_end hh (h1.extBut e1.extBut D.j1z) (l1.extBut e1.extBut D.u1z) hx fun g2 e e2 he => ?_)
  obtain ⟨oe, he1, he2⟩ := he
  have z2 : IsZip g2 z p r .ellipsis := e2 _ _ D.j1z.symm z1
  have nez : e ≠ z := fun x => by subst x; rw [z2] at he1; cases he1; simp at he2
  refine wpAny_setField_rec z2 (by simp) fun g3 _ e3 => q g3 e (fun c o n1 _ n3 _ x => e3.extBut _ _ n1 (e2 _ _ n3 (e1.extBut _ _ n1 x))) ⟨oe, e3.extBut _ _ nez he1, he2⟩
 | some x =>
  have hy : ws[i]? = none := by rcases hend with h | h; rw [hx] at h; cases h; exact h
  refine wpAny_bind (nextT_item (h1.extBut e1.extBut D.j1z) (l1.extBut e1.extBut D.u1z) hx fun g2 a2 e2 => wpAny_pure ?_)
  have r2 : IsPair g2 r a b := e2.extBut _ _ D.rj1 (e1.extBut _ _ D.rz hr)
  refine wpAny_bind (wpAny_seqItems r2 rfl ?_)
  refine wpAny_bind (wpAny_updateSeq_pair r2 fun g3 r3 e3 => ?_)
  refine wpAny_bind (wpAny_letGo (wpAny_pure ?_))
  refine wpAny_bind (wpAny_bind (wpAny_onRaise ?_))
  show wpAny _ _ (Builtin.SmallTypes.nextOf (.ref j2) >>= _) _ _ _
  refine wpAny_bind (nextT_end hh (((h2.extBut e1.extBut D.j2z).extBut e2.extBut D.j12.symm).extBut e3.extBut D.rj2.symm) (((l2.extBut e1.extBut D.u2z).extBut e2.extBut D.u2j1).extBut e3.extBut D.u2r) hy fun g4 e e4 he => ?_)
  obtain ⟨oe, he1, he2⟩ := he
  have z4 : IsZip g4 z p r .ellipsis := e4 _ _ D.j2z.symm (e3.extBut _ _ D.rz.symm (e2.extBut _ _ D.j1z.symm z1))
  have nez : e ≠ z := fun x => by subst x; rw [z4] at he1; cases he1; simp at he2
  refine wpAny_setField_rec z4 (by simp) fun g5 _ e5 => q g5 e (fun c o n1 n2 n3 n4 x => e5.extBut _ _ n1 (e4 _ _ n4 (e3.extBut _ _ n2 (e2.extBut _ _ n3 (e1.extBut _ _ n1 x))))) ⟨oe, e5.extBut _ _ nez he1, he2⟩
end
def Itz (K : PySem.W.Frag) (a b : Addr) : It :=
  ⟨fun i H => ∃ xs ys x y, SqT K H a xs ∧ SqT K H b ys ∧ xs[i]? = some x ∧ ys[i]? = some y,
   fun i H v H' => ∃ p x y, H p = none ∧ v = .ref p ∧ H' = upd H p (.tup [x, y]) ∧ (∀ xs, SqT K H a xs → xs[i]? = some x) ∧ (∀ ys, SqT K H b ys → ys[i]? = some y),
   fun i H => ∃ xs ys, SqT K H a xs ∧ SqT K H b ys ∧ (xs.length ≤ i ∨ ys.length ≤ i)⟩
theorem turn_zip {P : Program} {w : World} {K : PySem.W.Frag} {elts : List Expr} {kk : Nat} {pos : Pos} (a b z p r j1 j2 : Addr) (D : Apart z p r j1 j2 a b) :
  Turn P w K (.Tuple elts kk pos) (Itz K a b) [z, p, r, j1, j2] z (fun i h => IsZip h z p r .none ∧ IsPair h p (.ref j1) (.ref j2) ∧ (∃ u v, IsPair h r u v) ∧ h.IsTupleIter j1 a i ∧ h.IsTupleIter j2 b i) where
 mem := by simp
 obj := fun i h st c hc => by
  obtain ⟨hz, hp, ⟨u, v, hr⟩, ⟨o1, e1, _, d1⟩, ⟨o2, e2, _, d2⟩⟩ := st
  simp only [List.mem_cons, List.not_mem_nil, or_false] at hc
  rcases hc with rfl | rfl | rfl | rfl | rfl
  ·exact ⟨_, hz, fun v z => by have z' : Data.fields _ = Data.cell v := z; cases z'⟩
  ·exact ⟨_, hp, fun v z => by have z' : Data.seq _ _ = Data.cell v := z; cases z'⟩
  ·exact ⟨_, hr, fun v z => by have z' : Data.seq _ _ = Data.cell v := z; cases z'⟩
  ·exact ⟨o1, e1, fun v z => by rw [d1] at z; cases z⟩
  ·exact ⟨o2, e2, fun v z => by rw [d2] at z; cases z⟩
 keep := fun i h h' st k => by
  obtain ⟨hz, hp, ⟨u, v, hr⟩, h1, h2⟩ := st
  exact ⟨k z (by simp) _ hz, k p (by simp) _ hp, ⟨u, v, k r (by simp) _ hr⟩, itAt h1 fun o e => k j1 (by simp) o e, itAt h2 fun o e => k j2 (by simp) o e⟩
 item := by
  intro X hP hw hK hc i pins s σ H E I hf st hg
  subst hP hw hK
  obtain ⟨hz, hp, ⟨u, v, hr⟩, h1, h2⟩ := st
  obtain ⟨xs, ys, x, y, hxs, hys, hx, hy⟩ := hg
  obtain ⟨its, rv, pl, _⟩ := I.tuple hxs
  obtain ⟨its2, rv2, pl2, _⟩ := I.tuple hys
  obtain ⟨vx, ex, rx⟩ := rv.get hx
  obtain ⟨vy, ey, ry⟩ := rv2.get hy
  have hT : s.TypeIs (.ref z) "zip" := ⟨_, hz, rfl⟩
  have n0 : H s.heap.objs.size = none := I.hok.fresh (Nat.le_refl _)
  unfold pyNext
  refine wpAny_bind (wpAny_attempt (wpAny_callSpecial?_slot (name := Str.ofString "__next__") hT F.slot_zip_next (wpAny_call_entry F.slot_zip_next hT F.entry_zip_next
   (zipT_item D hz hp hr h1 h2 pl pl2 (by simpa using ex) (by simpa using ey) fun g a1 a2 a3 a4 a5 a6 a7 => wpAny_pure ?_) (F.args_zip_next_1 _))))
  refine ⟨_, rfl, ?_⟩
  refine wpAny_letOwnedTupleGo_zip a1 fun g2 b1 b2 => ?_
  have zl : z < s.heap.objs.size := Heap.lt_size hz
  have lt : ∀ c ∈ [z, p, r, j1, j2], c < s.heap.objs.size := fun c hc => by
   simp only [List.mem_cons, List.not_mem_nil, or_false] at hc
   obtain ⟨_, q1, _⟩ := h1
   obtain ⟨_, q2, _⟩ := h2
   rcases hc with rfl | rfl | rfl | rfl | rfl
   ·exact zl
   ·exact Heap.lt_size hp
   ·exact Heap.lt_size hr
   ·exact Heap.lt_size q1
   ·exact Heap.lt_size q2
  refine ⟨.ref s.heap.objs.size, upd H s.heap.objs.size (.tup [x, y]), ?_, rfl, ⟨_, x, y, n0, rfl, rfl, fun zs hzs => by rw [I.tuple_inj hzs hxs]; exact hx, fun zs hzs => by rw [I.tuple_inj hzs hys]; exact hy⟩, ⟨b1, ?_, ⟨vx, vy, ?_⟩, ?_, ?_⟩, fun c hc => ?_⟩
  ·refine I.turnedNew (t' := s.toks) (ch := [z, r, j1, j2]) (fun c o hc e => ?_) (fun c hc => hf c ?_) (Nat.le_refl _) ⟨by show 2 ≤ sizeLine; decide, [vx, vy], .cons rx (.cons ry .nil), ?_⟩
   ·simp only [List.mem_cons, List.not_mem_nil, or_false, not_or] at hc
    exact b2.extBut _ _ hc.1 (a7 c o hc.1 hc.2.1 hc.2.2.1 hc.2.2.2 e)
   ·simp only [List.mem_cons, List.not_mem_nil, or_false] at hc ⊢
    rcases hc with rfl | rfl | rfl | rfl <;> simp
   ·exact ⟨_, b2.extBut _ _ (Nat.ne_of_gt zl) a5, rfl, 0, rfl⟩
  ·exact b2.extBut _ _ D.pz (a7 _ _ D.pz D.pr D.pj1 D.pj2 hp)
  ·exact b2.extBut _ _ D.rz a2
  ·exact a3.extBut b2.extBut D.j1z
  ·exact a4.extBut b2.extBut D.j2z
  ·rw [upd_ne (Nat.ne_of_lt (lt c hc))]
   exact (hf c hc).1
 done := by
  intro X hP hw hK hc i pins s σ H E I hf st hg
  subst hP hw hK
  obtain ⟨hz, hp, ⟨u, v, hr⟩, h1, h2⟩ := st
  obtain ⟨xs, ys, hxs, hys, he⟩ := hg
  obtain ⟨its, rv, pl, _⟩ := I.tuple hxs
  obtain ⟨its2, rv2, pl2, _⟩ := I.tuple hys
  have l1 := rv.length
  have l2 := rv2.length
  have hend : its.toArray[i]? = none ∨ its2.toArray[i]? = none := he.imp (fun e => by simp; omega) (fun e => by simp; omega)
  have hT : s.TypeIs (.ref z) "zip" := ⟨_, hz, rfl⟩
  unfold pyNext
  refine wpAny_bind (wpAny_attempt (wpAny_callSpecial?_slot (name := Str.ofString "__next__") hT F.slot_zip_next (wpAny_call_entry F.slot_zip_next hT F.entry_zip_next
   (zipT_end (I.ok.hd hc) D hz hp hr h1 h2 pl pl2 hend fun g e kk he => ?_) (F.args_zip_next_1 _))))
  obtain ⟨o, ho, hcl⟩ := he
  refine wpAny_bind (wpAny_isInstance (T := "StopIteration") (b := true) ⟨o, ho, hcl⟩ isSubtype_stop ?_)
  refine wpAny_pure ⟨rfl, I.turnedAll (t' := s.toks) (ch := [z, r, j1, j2]) (fun c o hc e => ?_) (fun c hc => hf c ?_)⟩
  ·simp only [List.mem_cons, List.not_mem_nil, or_false, not_or] at hc
   exact kk c o hc.1 hc.2.1 hc.2.2.1 hc.2.2.2 e
  ·simp only [List.mem_cons, List.not_mem_nil, or_false] at hc ⊢
   rcases hc with rfl | rfl | rfl | rfl <;> simp
 self := fun _ _ _ _ _ st h => wpAny_pyIter_zip st.1 h
abbrev zH1 (h : Heap) (a : Addr) : Heap := h.push { cls := .type "tuple_iterator", data := .fields #[.ref a, .int 0 0] }
abbrev zH2 (h : Heap) (a b : Addr) : Heap := (zH1 h a).push { cls := .type "tuple_iterator", data := .fields #[.ref b, .int 0 0] }
abbrev zH3 (h : Heap) (a b : Addr) : Heap := (zH2 h a b).push { cls := .type "tuple", data := .seq #[.ref h.objs.size, .ref (zH1 h a).objs.size] }
abbrev zH4 (h : Heap) (a b : Addr) : Heap := (zH3 h a b).push { cls := .type "tuple", data := .seq #[.none, .none] }
abbrev zH5 (h : Heap) (a b : Addr) : Heap := (zH4 h a b).push { cls := .type "zip", data := .fields #[.none, .bool false, .bool false, .ref (zH2 h a b).objs.size, .ref (zH3 h a b).objs.size] }
theorem zipT_new (a b : Addr) (vs ws : Array Value) :
  Meets (Builtin.«zip.__new__» ⟨[.type "zip", .ref a, .ref b], []⟩) (fun _ R s => s.heap.IsTuple a vs ∧ s.heap.IsTuple b ws ∧ R (.ok (.ret (.ref (zH4 s.heap a b).objs.size))) { s with heap := zH5 s.heap a b }) :=
 .of_wp fun prog w A R s h => by
  obtain ⟨hp, g, d, tk, os⟩ := s; obtain ⟨la, lb, h⟩ := h
  have hsub := sub_zip
  have L1 : Heap.IsTuple (Shared.heap ⟨hp, g, d, tk, os⟩) a vs := la
  have L2 : Heap.IsTuple (Shared.heap ⟨hp.push { cls := .type "tuple_iterator", data := .fields #[.ref a, .int 0 0] }, g, d, tk, os⟩) b ws := Heap.IsTuple.push lb _
  wp_walk using wpAny_pyIter_tuple L1, wpAny_pyIter_tuple L2
  exact ⟨_, rfl, h⟩
theorem call_zipT {prog : Program} {w : World} {A : Around} {E : Value → Shared → Prop} {s : Shared} {a b : Addr} {vs ws : Array Value} {Q : Value → Shared → Prop} (la : s.heap.IsTuple a vs) (lb : s.heap.IsTuple b ws)
  (q : ∀ h', IsZip h' (s.heap.objs.size + 4) (s.heap.objs.size + 2) (s.heap.objs.size + 3) .none → IsPair h' (s.heap.objs.size + 2) (.ref s.heap.objs.size) (.ref (s.heap.objs.size + 1)) →
   IsPair h' (s.heap.objs.size + 3) .none .none → h'.IsTupleIter s.heap.objs.size a 0 → h'.IsTupleIter (s.heap.objs.size + 1) b 0 → (∀ c o, s.heap.get? c = some o → h'.get? c = some o) → Q (.ref (s.heap.objs.size + 4)) { s with heap := h' }) :
  wpAny (model prog w) A (call (.type "zip") [.ref a, .ref b]) Q E s := by
 refine callType_new F.called_zip (by decide) (F.typeCall_zip_2 _ _) (F.newCall_zip_2 _ _) (fun obj => F.args_object_init_3 obj _ _) F.entry_zip_new (zipT_new a b vs ws) ⟨la, lb, ?_⟩
 have z1 : (zH1 s.heap a).objs.size = s.heap.objs.size + 1 := Heap.size_push ..
 have z2 : (zH2 s.heap a b).objs.size = s.heap.objs.size + 2 := by rw [Heap.size_push, z1]
 have z3 : (zH3 s.heap a b).objs.size = s.heap.objs.size + 3 := by rw [Heap.size_push, z2]
 have z4 : (zH4 s.heap a b).objs.size = s.heap.objs.size + 4 := by rw [Heap.size_push, z3]
 have g5 : (zH5 s.heap a b).get? (zH4 s.heap a b).objs.size = some _ := Heap.get?_push_size _ rfl
 have g4 : (zH5 s.heap a b).get? (zH3 s.heap a b).objs.size = some _ := Heap.get?_push_of_some _ (Heap.get?_push_size _ rfl)
 have g3 : (zH5 s.heap a b).get? (zH2 s.heap a b).objs.size = some _ := Heap.get?_push_of_some _ (Heap.get?_push_of_some _ (Heap.get?_push_size _ rfl))
 have g2 : (zH5 s.heap a b).get? (zH1 s.heap a).objs.size = some _ := Heap.get?_push_of_some _ (Heap.get?_push_of_some _ (Heap.get?_push_of_some _ (Heap.get?_push_size _ rfl)))
 have g1 : (zH5 s.heap a b).get? s.heap.objs.size = some _ := Heap.get?_push_of_some _ (Heap.get?_push_of_some _ (Heap.get?_push_of_some _ (Heap.get?_push_of_some _ (Heap.get?_push_size _ rfl))))
 show _ ∧ _
 rw [z2, z3, z4] at g5
 rw [z1, z2] at g3
 rw [z3] at g4
 rw [z1] at g2
 rw [z4]
 exact ⟨⟨_, g5, rfl⟩, q _ g5 g3 g4 ⟨_, g1, rfl, rfl⟩ ⟨_, g2, rfl, rfl⟩ fun c o x => Heap.get?_push_of_some _ (Heap.get?_push_of_some _ (Heap.get?_push_of_some _ (Heap.get?_push_of_some _ (Heap.get?_push_of_some _ x))))⟩
theorem apart_new {n a b : Addr} (ha : a < n) (hb : b < n) : Apart (n + 4) (n + 2) (n + 3) n (n + 1) a b := by
 have ne : ∀ i j : Nat, i ≠ j → (Nat.add n i : Addr) ≠ Nat.add n j := fun i j h e => h (Nat.add_left_cancel e)
 have lo : ∀ (c : Addr) (i : Nat), c < n → c ≠ Nat.add n i := fun c i h => Nat.ne_of_lt (Nat.lt_of_lt_of_le h (Nat.le_add_right n i))
 exact ⟨ne 2 4 (by decide), ne 3 4 (by decide), ne 0 4 (by decide), ne 1 4 (by decide), ne 2 3 (by decide), ne 2 0 (by decide), ne 2 1 (by decide), ne 3 0 (by decide), ne 3 1 (by decide), ne 0 1 (by decide),
  lo a 4 ha, lo a 3 ha, lo a 0 ha, lo a 1 ha, lo b 4 hb, lo b 3 hb, lo b 0 hb, lo b 1 hb⟩
section
variable {X : Cx} {elts : List Expr} {kk : Nat} {tpos : Pos}
def iZip (K : PySem.W.Frag) (ta : TA) : TI := fun σ H R => ta σ H fun vs H1 => ∃ a b xs ys, vs = [.ref a, .ref b] ∧ SqT K H1 a xs ∧ SqT K H1 b ys ∧ R (Itz K a b) H1
theorem pi_zip {a b : Expr} {ta : TA} {p pos : Pos} (hg : Gl X "zip") (hm : X.mg "zip" = none) (ha : PA X [a, b] ta) (hs : starEach [a, b] X.env = [(false, eval a X.env), (false, eval b X.env)] := by rfl) (hs2 : starEach [b] X.env = [(false, eval b X.env)] := by rfl) :
  PI X (.Tuple elts kk tpos) (.Call (.Name "zip" p) [a, b] [] pos) (iZip X.K ta) := by
 refine .mk ?_
 intro pins s σ H R I h
 refine Call_ (ld_blt I hg hm boot_zip (PyProof.Rows.callWith_type1 (thn (ha pos pins s σ H _ I h) fun us s1 ⟨vs, H1, I1, r1, q1⟩ => ?_) (by rw [hs, hs2]) (by rw [hs2]; rfl)))
 obtain ⟨u1, u2, xs, ys, e, hx, hy, q⟩ := q1
 subst e
 cases r1 with
 | cons r rr =>
  cases rr with
  | cons r' rr =>
   cases rr
   cases r
   cases r'
   obtain ⟨its, rv, pl, _⟩ := I1.tuple hx
   obtain ⟨its2, rv2, pl2, _⟩ := I1.tuple hy
   obtain ⟨o1, e1, _⟩ := id pl
   obtain ⟨o2, e2, _⟩ := id pl2
   refine call_zipT pl pl2 fun h' hz hp hr j1 j2 k => ?_
   refine wpAny_pyIter_zip hz ?_
   refine ⟨s1.heap.objs.size + 4, [s1.heap.objs.size + 4, s1.heap.objs.size + 2, s1.heap.objs.size + 3, s1.heap.objs.size, s1.heap.objs.size + 1], _, _, H1, rfl, I1.kept (t' := s1.toks) k, turn_zip u1 u2 _ _ _ _ _ (apart_new (Heap.lt_size e1) (Heap.lt_size e2)), ⟨hz, hp, ⟨_, _, hr⟩, j1, j2⟩, fun c hc => ?_, q⟩
   have hc' : s1.heap.objs.size ≤ c := by
    simp only [List.mem_cons, List.not_mem_nil, or_false] at hc
    rcases hc with rfl | rfl | rfl | rfl | rfl <;> first | exact Nat.le_refl _ | exact Nat.le_add_right _ _
   exact I1.fpOk hc' (I1.hok.fresh hc')
end
section
variable {own : List Str} {cap : List (Nat × Str)} {σ : St} {H1 : Hp} {D : Addr} {g : TG} {tc : TT} {te : TE} {QD : Hp → Prop} {K : PySem.W.Frag} {a b : Addr} {xs ys : List V}
end
end L2
set_option Elab.async false
set_option linter.all false
set_option maxRecDepth 100000
namespace L2
open PySem PySem.Spec PyProof.Rows PySem.W PySem.Calls PySem.Builtin PySem.Builtin.ObjectAttr PySem.Builtin.Getset_descriptor
structure ExC (K : Frag) (D : Addr) : Prop where
 ga : findIn K (.ref D) "__getattribute__" = some (some (.builtin "BaseException.__getattribute__"))
 hk : findIn K (.ref D) "__getattr__" = some none
 cl : findIn K (.ref D) "__class__" = some (some (.builtin "object.__class__"))
 gt : specialIn K (.builtin "object.__class__") "__get__" = some (some (.builtin "getset_descriptor.__get__"))
 tk : takesIn K (.builtin "object.__class__") = some true
 ob : mroIn K D (.type "object") = some true
 bx : mroIn K D (.type "BaseException") = some true
 cd : (clsIn K D).isSome = true
def ExAt (x D : Addr) : Heap → Prop := fun h => ∃ o, h.get? x = some o ∧ o.cls = .ref D
section
variable {K : Frag} {x D : Addr}
theorem ExAt.type {M : Model} {h : Heap} (I : ExAt x D h) : Looks M h (typeOf (.ref x)) (.ref D) := by
 obtain ⟨o, e, c⟩ := I
 exact c ▸ (Looks.ld e).andThen .now
theorem exc_find {M : Model} {h : Heap} (X : K.In h) (F : ExC K D) : Looks M h (find (.ref x) (.ref D) "__class__") (.bind (.builtin "getset_descriptor.__get__") (.builtin "object.__class__")) := by
 have n1 := looks_findIn (M := M) X F.cl
 have n2 : Looks M h (getOf (some (.builtin "object.__class__"))) (some (.builtin "getset_descriptor.__get__")) := looks_specialIn X F.gt
 have n3 := looks_takesIn (M := M) X F.tk
 have n4 : Looks M h (dataDescriptor? (some (.builtin "object.__class__")) (some (.builtin "getset_descriptor.__get__"))) (some (.builtin "getset_descriptor.__get__", .builtin "object.__class__")) := n3.andThen .now
 exact n1.andThen (n2.andThen (n4.andThen (Looks.tag .now)))
variable {prog : Program} {w : World} {A : Around} {E : Value → Shared → Prop} {s : Shared}
theorem exc_class_get {tp : Value} {R : Result → Shared → Prop} (X : K.In s.heap) (F : ExC K D) (I : ExAt x D s.heap) (h : R (.ok (.ret (.ref D))) s) :
  codeAny (model prog w) A (.call (.builtin "getset_descriptor.__get__") ⟨[.builtin "object.__class__", .ref x, tp], []⟩) R s := by
 obtain ⟨hh, gg, dr, tt, os⟩ := s
 have n0 := I.type (M := model prog w)
 have n1 := looks_mroIn (M := model prog w) X F.ob
 refine codeAny_call_builtin KF.slot_gs.plain KF.entry_gs (KF.slot_gs.check _ _ _ _ _ _ _ _ KF.type_class (KF.args_gs _ _ _) ?_)
 unfold Builtin.«getset_descriptor.__get__» descrGet
 rw [dga_obj]
 refine wpAny_bind (wpAny_pure ?_)
 unfold descrGetter descrCheckInstance descrNameAndClass isInstance
 simp only [KF.owner_class]
 repeat lk
 refine ⟨Code.quiet_builtin _ (by decide +kernel), codeAny_builtin KF.entry_class ?_⟩
 unfold Builtin.«object.__class__» shownTypeOf
 repeat lk
 exact h
theorem exc_entry {tk : Tok} {Q : Fin → Shared → Prop} (X : K.In s.heap) (F : ExC K D) (I : ExAt x D s.heap) (h : Q (.done (.ret (.ref D))) s) :
  wpAny (model prog w) A (Builtin.«object.__getattribute__» ⟨[.ref x, .str "__class__" tk], []⟩) Q E s := by
 have n0 := I.type (M := model prog w)
 have n1 := exc_find (M := model prog w) (x := x) X F
 refine wpAny_bind (wpAny_pure ?_)
 refine wpAny_bind (wpAny_pure ?_)
 refine wpAny_bind (n0.at ?_)
 refine wpAny_bind (n1.at ?_)
 show wpAny _ _ (holding [.builtin "object.__class__"] (call (.builtin "getset_descriptor.__get__") [.builtin "object.__class__", .ref x, .ref D]) >>= ret) _ _ _
 exact wpAny_bind (wpAny_holding (wpAny_call (exc_class_get X F I (wpAny_pure h))))
theorem exc_check {nameV : Value} {Q : Unit → Shared → Prop} (X : K.In s.heap) (F : ExC K D) (I : ExAt x D s.heap) (h : Q () s) : wpAny (model prog w) A (checkBuiltinCall "BaseException.__getattribute__" ⟨[.ref x, nameV], []⟩) Q E s := by
 have b1 : builtinKind "BaseException.__getattribute__" = some .slot := by decide +kernel
 have b2 : splitId "BaseException.__getattribute__" = some ("BaseException", "__getattribute__") := by decide +kernel
 have n0 := I.type (M := model prog w)
 have n1 := looks_mroIn (M := model prog w) X F.bx
 have b3 := PySem.F.args_bexc_ga (.ref x) nameV
 obtain ⟨hh, gg, dr, tt, os⟩ := s
 simp only [checkBuiltinCall, b1, b2]
 refine wpAny_bind ?_
 unfold isInstance
 refine wpAny_bind (n0.at ?_)
 refine n1.at ?_
 rw [if_neg (by decide)]
 cases hsig : Manifest.signature? "BaseException.__getattribute__" with
 | none => exact wpAny_pure h
 | some sig =>
  simp only [argsOk, hsig] at b3
  have b4 : Bind.checkArgs "BaseException.__getattribute__" sig ⟨[.ref x, nameV], []⟩ = pure () := b3
  show wpAny _ _ (Bind.checkArgs "BaseException.__getattribute__" sig ⟨[.ref x, nameV], []⟩) _ _ _
  rw [b4]
  exact wpAny_pure h
theorem exc_call {tk : Tok} {R : Result → Shared → Prop} (X : K.In s.heap) (F : ExC K D) (I : ExAt x D s.heap) (h : R (.ok (.ret (.ref D))) s) :
  codeAny (model prog w) A (.call (.builtin "BaseException.__getattribute__") ⟨[.ref x, .str "__class__" tk], []⟩) R s :=
 codeAny_call_builtin (by decide +kernel) PySem.F.entry_bexc_ga (exc_check X F I (exc_entry X F I h))
theorem exc_ca {Q : Option Value → Shared → Prop} (X : K.In s.heap) (F : ExC K D) (I : ExAt x D s.heap) (h : Q (some (.ref D)) { s with toks := s.toks + 1 }) : wpAny (model prog w) A (getAttr? (.ref x) "__class__") Q E s := by
 obtain ⟨hh, gg, dr, tt, os⟩ := s
 have n0 := I.type (M := model prog w)
 have n1 := looks_findIn (M := model prog w) X F.ga
 have n2 := looks_findIn (M := model prog w) X F.hk
 unfold getAttr? getAttrBy? getAttrBy
 refine wpAny_bind (wpAny_mkText (wpAny_bind (wpAny_attempt (wpAny_holding (wpAny_bind (n0.at (wpAny_bind (n1.at ?_))))))))
 show wpAny _ _ (getAttrByItsOwn _ _ _ _ _ _) _ _ _
 unfold getAttrByItsOwn hookBefore
 refine wpAny_bind ?_
 refine n2.at ?_
 refine wpAny_bind (wpAny_attempt (wpAny_holding ?_))
 have b1 : bindSpecial (.builtin "BaseException.__getattribute__") (.ref x) = pure (.builtin "BaseException.__getattribute__", [.ref x]) := by kernel_rfl
 show wpAny _ _ (bindSpecial (.builtin "BaseException.__getattribute__") (.ref x) >>= _) _ _ _
 rw [b1]
 refine wpAny_bind (wpAny_pure ?_)
 refine wpAny_call (exc_call X F I ?_)
 exact wpAny_of_eq (handedOut_of rfl) (wpAny_pure h)
theorem kitx_exc (F : ExC K D) : KitX K (.ref x) (.ref D) (ExAt x D) where
 ty := fun _ _ _ I => I.type
 it := fun _ _ X _ => by
  obtain ⟨cd, hc⟩ := Option.isSome_iff_exists.mp F.cd
  unfold clsIn at hc
  split at hc
  ·rename_i c' d' cd' sl' ho
   intro A' Q' E' s' k q
   unfold isType loadHead
   exact wpAny_bind (wpAny_loadPart (k _ _ (X _ _ ho)) (wpAny_pure q))
  ·cases hc
 ne := fun h tp dd its n sl X htp => by
  obtain ⟨cd, hc⟩ := Option.isSome_iff_exists.mp F.cd
  refine Bool.eq_false_iff.mpr fun q => ?_
  have e : D = tp := Value.ref.inj (beq_iff_eq.mp q)
  subst e
  unfold clsIn at hc
  split at hc
  ·rename_i c' d' cd' sl' ho
   have z := (X _ _ ho).symm.trans htp
   cases z
  ·cases hc
 ca := fun X I k => exc_ca X F I k
end
end L2
set_option Elab.async false
set_option linter.all false
set_option maxRecDepth 100000
namespace L2
open PySem PySem.Spec PyProof.Rows
section
variable {X : Cx} {pins : List (Addr × Obj)} {σ : St} {H : Hp} {s : Shared} {scope : Scope} {cl : List (Str × Addr)} {own : List Str} {cap : List (Nat × Str)} {fp : List Addr} {E : Value → Shared → Prop}
end
def more (S : Str → Bool) (n : Nat) (k : Str) : Nat := if S k then n else n + 1
section
variable {X : Cx} {scope : Scope} {cl : List (Str × Addr)} {own : List Str} {cap : List (Nat × Str)} {tg iter elt : Expr} {wi : TI} {g : TG} {te : TE} {pos : Pos}
end
section
variable {P : Program} {w : World} {K : PySem.W.Frag} {a : Addr} {xs : List V} {g : TG} {te : TE} {own : List Str} {cap : List (Nat × Str)} {σ : St} {H1 : Hp} {QD : Hp → Prop} {D : Addr}
end
end L2
set_option Elab.async false
set_option linter.all false
set_option maxRecDepth 100000
namespace L2
open PySem PySem.Spec PyProof.Rows
section
variable {X : Cx}
end
end L2
set_option Elab.async false
set_option linter.all false
set_option maxRecDepth 100000
namespace L2
open PySem PySem.Spec PyProof.Rows
inductive ClsV : V → Value → Prop
 | own (a : Addr) : ClsV (.ref a) (.ref a)
 | ty (T : String) : ClsV (.ty T) (.type T)
inductive ClsVs : List V → List Value → Prop
 | nil : ClsVs [] []
 | cons {v : V} {c : Value} {vs : List V} {cs : List Value} : ClsV v c → ClsVs vs cs → ClsVs (v :: vs) (c :: cs)
theorem ClsV.rel {v : V} {c u : Value} (h : ClsV v c) (r : RelV v u) : u = c := by
 cases h with
 | own a => exact r
 | ty T => exact r
theorem ClsVs.rel : ∀ {vs : List V} {cs us : List Value}, ClsVs vs cs → Vals vs us → us = cs
 | _, _, _, .nil, .nil => rfl
 | _, _, _, .cons h t, .cons r rs => by rw [h.rel r, t.rel rs]
section
variable {X : Cx}
theorem call_instX : CallR X (.builtin "isinstance") (fun xs H Q => ∃ (x D : Addr) (cv : V) (c : Value) (b : Bool), xs = [.ref x, cv] ∧ ClsV cv c ∧ ExC X.K D ∧ H x = some (.ext (ExAt x D)) ∧ PySem.W.kitOne X.K (.ref D) c = some b ∧ Q (.bl b) H) := by
 intro pins s σ H xs us Q I r h
 obtain ⟨x, D, cv, c, b, rfl, hc, F, hx, e, q⟩ := h
 obtain ⟨u, w', rfl, ru, rw'⟩ := vals2 r
 cases ru
 have := hc.rel rw'
 subst this
 exact PySem.W.kia_one (kitx_exc F) I.kIn (I.hok x _ hx).1 e (fun z => nomatch z) fun tk => ⟨.bl b, H, I.tok tk, rfl, q⟩
theorem call_instXT : CallR X (.builtin "isinstance") (fun xs H Q => ∃ (x D p : Addr) (cvs : List V) (cs : List Value) (b : Bool), xs = [.ref x, .ref p] ∧ H p = some (.tup cvs) ∧ ClsVs cvs cs ∧ ExC X.K D ∧ H x = some (.ext (ExAt x D)) ∧ PySem.W.kitAny X.K (.ref D) cs = some b ∧ Q (.bl b) H) := by
 intro pins s σ H xs us Q I r h
 obtain ⟨x, D, p, cvs, cs, b, rfl, hp, hc, F, hx, e, q⟩ := h
 obtain ⟨u, w', rfl, ru, rw'⟩ := vals2 r
 cases ru
 cases rw'
 obtain ⟨_, its, rv, o, h1, h2, n, h3⟩ := (show ObjOk X.prog X.w H s.heap p (.tup cvs) from I.hok p _ hp)
 have := hc.rel rv
 subst this
 obtain ⟨oc, od, odt, osl⟩ := o
 cases h2
 cases h3
 exact PySem.W.kia_tup (kitx_exc F) I.kIn (I.hok x _ hx).1 h1 e (fun z => nomatch z) fun tk => ⟨.bl b, H, I.tok tk, rfl, q⟩
end
theorem drawsT {prog : Program} {w : World} {A : Around} (hh : A.handled = none) (it l : Addr) (hne : l ≠ it) (items : Array Value) :
  Draws prog w A it [it, l] items.size (fun i v => items[i]? = some v) (fun i h => h.IsTupleIter it l i ∧ h.IsTuple l items) where
 live := fun _ _ st => let ⟨o, ho, _⟩ := st.1; ⟨o, ho⟩
 frame := fun _ _ _ st hk => ⟨itAt st.1 fun o e => hk it (by simp) o e, st.2.at fun o e => hk l (by simp) o e⟩
 item := fun i s Q E hi st hQ => by
  refine nextT_item st.1 st.2 (v := items[i]) (by simp [hi]) fun h' hit' hs' => ?_
  exact hQ _ h' s.toks (by simp [hi]) ⟨hit', st.2.extBut hs'.extBut hne⟩ hs'
 done := fun s Q E st hE => nextT_end hh st.1 st.2 (by simp) hE
def Ite (K : PySem.W.Frag) (a : Addr) : It :=
  ⟨fun i H => ∃ xs x, SqT K H a xs ∧ xs[i]? = some x,
   fun i H v H' => ∃ p x, H p = none ∧ v = .ref p ∧ H' = upd H p (.tup [.int i, x]) ∧ (∀ xs, SqT K H a xs → xs[i]? = some x),
   fun i H => ∃ xs, SqT K H a xs ∧ xs.length = i⟩
theorem turn_enum {P : Program} {w : World} {K : PySem.W.Frag} {elts : List Expr} {kk : Nat} {pos : Pos} (a e it : Addr) (hei : e ≠ it) (hae : a ≠ e) (hai : a ≠ it) :
  Turn P w K (.Tuple elts kk pos) (Ite K a) [e, it] e (fun i h => (∃ old, IsEnum h e it i old) ∧ h.IsTupleIter it a i) where
 mem := by simp
 obj := fun i h st c hc => by
  obtain ⟨⟨old, he⟩, ⟨o1, e1, _, d1⟩⟩ := st
  simp only [List.mem_cons, List.not_mem_nil, or_false] at hc
  rcases hc with rfl | rfl
  ·exact ⟨_, he, fun v z => by have z' : Data.fields _ = Data.cell v := z; cases z'⟩
  ·exact ⟨o1, e1, fun v z => by rw [d1] at z; cases z⟩
 keep := fun i h h' st k => by
  obtain ⟨⟨old, he⟩, h1⟩ := st
  exact ⟨⟨old, k e (by simp) _ he⟩, itAt h1 fun o q => k it (by simp) o q⟩
 item := by
  intro X hP hw hK hc i pins s σ H E I hf st hg
  subst hP hw hK
  obtain ⟨⟨old, he⟩, h1⟩ := st
  obtain ⟨xs, x, hxs, hx⟩ := hg
  obtain ⟨its, rv, pl, _⟩ := I.tuple hxs
  obtain ⟨vx, ex, rx⟩ := rv.get hx
  have n0 : H s.heap.objs.size = none := I.hok.fresh (Nat.le_refl _)
  have hi : i < its.toArray.size := by
   have := (List.getElem?_eq_some_iff.mp ex).1
   simpa using this
  refine wpAny_pyNext_enum_itemD (drawsT (prog := X.prog) (w := X.w) (A := X.A.in1) (I.ok.hd hc) it a hai its.toArray) he ⟨h1, pl⟩ hi hei (by simp [hei, hae.symm]) fun v h' tk hv ho hs' ht hsz kk => ?_
  have hvx : v = vx := by
   have hv' : its[i]? = some v := by simpa using hv
   rw [ex] at hv'; exact (Option.some.inj hv').symm
  subst hvx
  refine ⟨_, rfl, wpAny_letOwnedTupleGo_enum ho fun g2 he2 hs2 => ?_⟩
  have el : e < s.heap.objs.size := Heap.lt_size he
  have il : it < s.heap.objs.size := by obtain ⟨_, q, _⟩ := h1; exact Heap.lt_size q
  refine ⟨.ref s.heap.objs.size, upd H s.heap.objs.size (.tup [.int i, x]), ?_, rfl, ⟨_, x, n0, rfl, rfl, fun zs hzs => by rw [I.tuple_inj hzs hxs]; exact hx⟩, ⟨⟨v, ?_⟩, ?_⟩, fun c hc => ?_⟩
  ·refine I.turnedNew (t' := tk + 1) (ch := [e, it]) (fun c o hc q => ?_) (fun c hc => hf c hc) (Nat.le_refl _) ⟨by show 2 ≤ sizeLine; decide, [.int i tk, v], .cons ⟨tk, rfl⟩ (.cons rx .nil), ?_⟩
   ·simp only [List.mem_cons, List.not_mem_nil, or_false, not_or] at hc
    exact (hs2.2 c hc.1).trans (kk c o hc.1 hc.2 q)
   ·exact ⟨_, (hs2.2 _ (Nat.ne_of_gt el)).trans ht, rfl, 0, rfl⟩
  ·have : ((i + 1 : Nat) : Int) = (i : Int) + 1 := by omega
   rw [this]; exact he2
  ·exact itAt hs'.1 fun o q => (hs2.2 it hei.symm).trans q
  ·have : c < s.heap.objs.size := by
    simp only [List.mem_cons, List.not_mem_nil, or_false] at hc
    rcases hc with rfl | rfl
    ·exact el
    ·exact il
   rw [upd_ne (Nat.ne_of_lt this)]
   exact (hf c hc).1
 done := by
  intro X hP hw hK hc i pins s σ H E I hf st hg
  subst hP hw hK
  obtain ⟨⟨old, he⟩, h1⟩ := st
  obtain ⟨xs, hxs, hl⟩ := hg
  obtain ⟨its, rv, pl, _⟩ := I.tuple hxs
  have l1 := rv.length
  have ei : i = its.toArray.size := by simp; omega
  subst ei
  refine wpAny_pyNext_enum_endD (drawsT (prog := X.prog) (w := X.w) (A := X.A.in1) (I.ok.hd hc) it a hai its.toArray) he ⟨h1, pl⟩ fun h' hx => ⟨rfl, ?_⟩
  obtain ⟨f0, f1, f2, f3, f4, f5⟩ := hf it (by simp)
  exact I.turned (t' := s.toks) (fun b o hb q => hx b o hb q) f0 f1 f3 f4 f5
 self := fun _ _ _ _ _ st h => by
  obtain ⟨⟨old, he⟩, _⟩ := st
  exact wpAny_pyIter_enum he h
theorem enumT_new (l : Addr) (items : Array Value) (n : Nat) (dct : Option Addr) (sl : Array (Option Value)) :
  Meets (Builtin.«enumerate.__new__» ⟨[.type "enumerate", .ref l], []⟩) (fun _ R s => s.heap.get? l = some { cls := .type "tuple", dict := dct, data := .seq items n, slots := sl } ∧
   R (.ok (.ret (.ref (s.heap.push { cls := .type "tuple_iterator", data := .fields #[.ref l, .int 0 0] }).objs.size)))
    { s with heap := (s.heap.push { cls := .type "tuple_iterator", data := .fields #[.ref l, .int 0 0] }).push { cls := .type "enumerate", data := .fields #[.none, .bool false, .ref s.heap.objs.size, rawInt 0, .none, .none] } }) :=
 .of_wp fun prog w A R s h => by
  obtain ⟨hp, g, d, tk, os⟩ := s; obtain ⟨hl, h⟩ := h
  have hsub := sub_enumerate
  have hL : Heap.IsTuple (Shared.heap ⟨hp, g, d, tk, os⟩) l items := ⟨_, hl, rfl, n, rfl⟩
  wp_walk using AutoSeq1.wpAny_loadPart' hl
  refine wpAny_stack_any fun st => wpAny_pure ?_
  split
  ·rename_i c _ _ _ _ _
   cases (c == Value.type "enumerate")
   ·wp_walk using AutoSeq1.wpAny_loadPart' hl, wpAny_pyIter_tuple hL
    exact ⟨_, rfl, h⟩
   ·wp_walk using AutoSeq1.wpAny_loadPart' hl, wpAny_pyIter_tuple hL
    exact ⟨_, rfl, h⟩
  ·wp_walk using AutoSeq1.wpAny_loadPart' hl, wpAny_pyIter_tuple hL
   exact ⟨_, rfl, h⟩
theorem call_enumT {prog : Program} {w : World} {A : Around} {E : Value → Shared → Prop} {s : Shared} {l : Addr} {items : Array Value} {Q : Value → Shared → Prop} (hL : s.heap.IsTuple l items)
  (h : ∀ h', IsEnum h' (s.heap.objs.size + 1) s.heap.objs.size 0 .none → h'.IsTupleIter s.heap.objs.size l 0 → (∀ b o, s.heap.get? b = some o → h'.get? b = some o) → Q (.ref (s.heap.objs.size + 1)) { s with heap := h' }) :
  wpAny (model prog w) A (call (.type "enumerate") [.ref l]) Q E s := by
 obtain ⟨⟨c, dct, dt, sl⟩, hl, hc, n, hd⟩ := hL
 replace hc : c = .type "tuple" := hc
 replace hd : dt = .seq items n := hd
 subst hc hd
 refine callType_new F.called_enumerate (by decide) (F.typeCall_enumerate_1 _) (F.newCall_enumerate_1 _) (fun obj => F.args_object_init_2 obj _) F.entry_enumerate_new
  (enumT_new l items n dct sl) ⟨hl, ?_⟩
 have hz : (s.heap.push { cls := .type "tuple_iterator", data := .fields #[.ref l, .int 0 0] }).objs.size = s.heap.objs.size + 1 := Heap.size_push ..
 show _ ∧ _
 rw [hz]
 have he : IsEnum ((s.heap.push { cls := .type "tuple_iterator", data := .fields #[.ref l, .int 0 0] }).push
   { cls := .type "enumerate", data := .fields #[.none, .bool false, .ref s.heap.objs.size, rawInt 0, .none, .none] }) (s.heap.objs.size + 1) s.heap.objs.size 0 .none := by
  have := Heap.get?_push_size (s.heap.push { cls := .type "tuple_iterator", data := .fields #[.ref l, .int 0 0] })
   (o := { cls := .type "enumerate", data := .fields #[.none, .bool false, .ref s.heap.objs.size, rawInt 0, .none, .none] }) rfl
  rw [hz] at this; exact this
 exact ⟨⟨_, he, rfl⟩, h _ he ⟨_, Heap.get?_push_of_some _ (Heap.get?_push_size _ rfl), rfl, rfl⟩ fun b o y => Heap.get?_push_of_some _ (Heap.get?_push_of_some _ y)⟩
section
variable {X : Cx} {elts : List Expr} {kk : Nat} {tpos : Pos}
def iEnum (K : PySem.W.Frag) (ta : TA) : TI := fun σ H R => ta σ H fun vs H1 => ∃ (a : Addr) (xs : List V), vs = [.ref a] ∧ SqT K H1 a xs ∧ R (Ite K a) H1
theorem pi_enum {a : Expr} {ta : TA} {p pos : Pos} (hg : Gl X "enumerate") (hm : X.mg "enumerate" = none) (ha : PA X [a] ta) (hs : starEach [a] X.env = [(false, eval a X.env)] := by rfl) :
  PI X (.Tuple elts kk tpos) (.Call (.Name "enumerate" p) [a] [] pos) (iEnum X.K ta) := by
 refine .mk ?_
 intro pins s σ H R I h
 refine Call_ (ld_blt I hg hm boot_enumerate (PyProof.Rows.callWith_type1 (thn (ha pos pins s σ H _ I h) fun us s1 ⟨vs, H1, I1, r1, q1⟩ => ?_) hs rfl))
 obtain ⟨u1, xs, e, hx, q⟩ := q1
 subst e
 cases r1 with
 | cons r rr =>
  cases rr
  cases r
  obtain ⟨its, rv, pl, _⟩ := I1.tuple hx
  obtain ⟨o1, e1, _⟩ := id pl
  have l1 := Heap.lt_size e1
  refine call_enumT pl fun h' he hi k => ?_
  refine wpAny_pyIter_enum he ?_
  refine ⟨s1.heap.objs.size + 1, [s1.heap.objs.size + 1, s1.heap.objs.size], _, _, H1, rfl, I1.kept (t' := s1.toks) k, turn_enum u1 _ _ (Nat.succ_ne_self _) (Nat.ne_of_lt (Nat.lt_succ_of_lt l1)) (Nat.ne_of_lt l1), ⟨⟨.none, he⟩, hi⟩, fun c hc => ?_, q⟩
  have hc' : s1.heap.objs.size ≤ c := by
   simp only [List.mem_cons, List.not_mem_nil, or_false] at hc
   rcases hc with rfl | rfl
   ·exact Nat.le_succ _
   ·exact Nat.le_refl _
  exact I1.fpOk hc' (I1.hok.fresh hc')
end
end L2
set_option Elab.async false
set_option linter.all false
set_option maxRecDepth 100000
namespace L2
open PySem PySem.Spec PyProof.Rows
section
variable {prog : Program} {w : World} {A : Around} {E : Value → Shared → Prop} {s : Shared}
abbrev ZipAt (h : Heap) (z p r : Addr) (own flag : Value) : Prop := h.get? z = some { cls := .type "zip", dict := none, data := .fields #[own, flag, .bool false, .ref p, .ref r], slots := #[] }
theorem zipT_kept {z p r j1 j2 u1 u2 t : Addr} {i : Nat} {vs ws : Array Value} {x y : Value} {fl : Bool} {ot : Obj} {Q : Value → Shared → Prop} (D : Apart z p r j1 j2 u1 u2) (tz : t ≠ z)
  (hz : ZipAt s.heap z p r (rawInt t) (.bool fl)) (ht : s.heap.get? t = some ot) (hp : IsPair s.heap p (.ref j1) (.ref j2))
  (h1 : s.heap.IsTupleIter j1 u1 i) (h2 : s.heap.IsTupleIter j2 u2 i) (l1 : s.heap.IsTuple u1 vs) (l2 : s.heap.IsTuple u2 ws) (hx : vs[i]? = some x) (hy : ws[i]? = some y)
  (q : ∀ h' T, s.heap.objs.size ≤ T → ZipAt h' z p r (rawInt t) (.bool true) → h'.IsTupleIter j1 u1 (i + 1) → h'.IsTupleIter j2 u2 (i + 1) → IsPair h' T x y →
   (∀ c o, c ≠ z → c ≠ j1 → c ≠ j2 → s.heap.get? c = some o → h'.get? c = some o) → Q (.ref T) { s with heap := h' }) :
  wpAny (model prog w) A (Builtin.«zip.__next__» ⟨[.ref z], []⟩) (fun fin s' => ∃ v, fin = .done (.ret v) ∧ Q v s') E s := by
 show wpAny _ _ (field (.ref z) 2 >>= _) _ _ _
 refine wpAny_bind (wpAny_field hz rfl (x := .bool false) rfl ?_)
 show wpAny _ _ (field (.ref z) 3 >>= _) _ _ _
 refine wpAny_bind (wpAny_field hz rfl (x := .ref p) rfl ?_)
 refine wpAny_bind (wpAny_seqItems hp rfl ?_)
 show wpAny _ _ (Builtin.SmallTypes.ownedTupleIsFree (.ref z) >>= _) _ _ _
 have own : wpAny (model prog w) A (Builtin.SmallTypes.ownedTupleIsFree (.ref z)) (fun b s' => b = false ∧ ∃ g1, s' = { s with heap := g1 } ∧ ZipAt g1 z p r (rawInt t) (.bool true) ∧ Heap.SameBut z s.heap g1) E s := by
  unfold Builtin.SmallTypes.ownedTupleIsFree
  refine wpAny_bind (wpAny_field hz rfl (x := rawInt t) rfl ?_)
  show wpAny _ _ (loadIfAlive ((t : Nat) : Int).toNat >>= _) _ _ _
  rw [Int.toNat_natCast]
  refine wpAny_bind (PySem.W.kdx_alive ht ?_)
  dsimp only [Option.isNone]
  rw [if_neg Bool.false_ne_true]
  refine wpAny_bind (wpAny_field hz rfl (x := .bool fl) rfl ?_)
  cases fl with
  | true => exact wpAny_pure ⟨rfl, s.heap, rfl, hz, Heap.SameBut.refl _ _⟩
  | false =>
   rw [if_pos (by decide)]
   exact wpAny_bind (wpAny_setField_rec hz (by simp) fun g1 z1 e1 => wpAny_pure ⟨rfl, g1, rfl, z1, e1⟩)
 refine wpAny_bind (wpAny_mono own (fun b s' hb => ?_) fun _ _ e => e)
 obtain ⟨rfl, g1, rfl, z1, e1⟩ := hb
 rw [if_neg Bool.false_ne_true]
 refine wpAny_bind ?_
 simp only [← Array.forIn_toList, List.forIn_cons, List.forIn_nil]
 refine wpAny_bind (wpAny_bind (wpAny_holding ?_))
 show wpAny _ _ (Builtin.SmallTypes.nextOf (.ref j1) >>= _) _ _ _
 refine wpAny_bind (nextT_item (h1.extBut e1.extBut D.j1z) (l1.extBut e1.extBut D.u1z) hx fun g2 a2 e2 => wpAny_pure ?_)
 refine wpAny_pure ?_
 dsimp only
 refine wpAny_bind (wpAny_bind (wpAny_holding ?_))
 show wpAny _ _ (Builtin.SmallTypes.nextOf (.ref j2) >>= _) _ _ _
 refine wpAny_bind (nextT_item ((h2.extBut e1.extBut D.j2z).extBut e2.extBut D.j12.symm) ((l2.extBut e1.extBut D.u2z).extBut e2.extBut D.u2j1) hy fun g3 a3 e3 => wpAny_pure ?_)
 refine wpAny_pure ?_
 dsimp only
 refine wpAny_pure ?_
 dsimp only
 have sz : g3.objs.size = s.heap.objs.size := by rw [e3.1, e2.1, e1.1]
 refine wpAny_bind (wpAny_newTuple (hsz := by show 2 ≤ sizeLine; decide) ?_)
 refine wpAny_pure ⟨_, rfl, ?_⟩
 have up : ∀ c o, g3.get? c = some o → (g3.push { cls := .type "tuple", data := .seq #[x, y] }).get? c = some o := fun c o e => Heap.get?_push_of_some _ e
 refine q _ g3.objs.size (by rw [sz]; exact Nat.le_refl _) (up _ _ (e3.extBut _ _ D.j2z.symm (e2.extBut _ _ D.j1z.symm z1))) (itAt (a2.extBut e3.extBut D.j12) fun o e => up _ o e) (itAt a3 fun o e => up _ o e) (Heap.get?_push_size _ rfl) fun c o n1 n2 n3 e => up _ o (e3.extBut _ _ n3 (e2.extBut _ _ n2 (e1.extBut _ _ n1 e)))
theorem zipT_kept_end {z p r j1 j2 u1 u2 t : Addr} {i : Nat} {vs : Array Value} {fl : Bool} {ot : Obj} {Q : Fin → Shared → Prop} (hh : A.handled = none) (D : Apart z p r j1 j2 u1 u2)
  (hz : ZipAt s.heap z p r (rawInt t) (.bool fl)) (ht : s.heap.get? t = some ot) (hp : IsPair s.heap p (.ref j1) (.ref j2))
  (h1 : s.heap.IsTupleIter j1 u1 i) (l1 : s.heap.IsTuple u1 vs) (hx : vs[i]? = none)
  (q : ∀ h' e, (∀ c o, c ≠ z → c ≠ j1 → c ≠ j2 → s.heap.get? c = some o → h'.get? c = some o) → (∃ o, h'.get? e = some o ∧ o.cls = .type "StopIteration") → E (.ref e) { s with heap := h' }) :
  wpAny (model prog w) A (Builtin.«zip.__next__» ⟨[.ref z], []⟩) Q E s := by
 show wpAny _ _ (field (.ref z) 2 >>= _) _ _ _
 refine wpAny_bind (wpAny_field hz rfl (x := .bool false) rfl ?_)
 show wpAny _ _ (field (.ref z) 3 >>= _) _ _ _
 refine wpAny_bind (wpAny_field hz rfl (x := .ref p) rfl ?_)
 refine wpAny_bind (wpAny_seqItems hp rfl ?_)
 show wpAny _ _ (Builtin.SmallTypes.ownedTupleIsFree (.ref z) >>= _) _ _ _
 have own : wpAny (model prog w) A (Builtin.SmallTypes.ownedTupleIsFree (.ref z)) (fun b s' => b = false ∧ ∃ g1, s' = { s with heap := g1 } ∧ Heap.SameBut z s.heap g1) E s := by
  unfold Builtin.SmallTypes.ownedTupleIsFree
  refine wpAny_bind (wpAny_field hz rfl (x := rawInt t) rfl ?_)
  show wpAny _ _ (loadIfAlive ((t : Nat) : Int).toNat >>= _) _ _ _
  rw [Int.toNat_natCast]
  refine wpAny_bind (PySem.W.kdx_alive ht ?_)
  dsimp only [Option.isNone]
  rw [if_neg Bool.false_ne_true]
  refine wpAny_bind (wpAny_field hz rfl (x := .bool fl) rfl ?_)
  cases fl with
  | true => exact wpAny_pure ⟨rfl, s.heap, rfl, Heap.SameBut.refl _ _⟩
  | false =>
   rw [if_pos (by decide)]
   exact wpAny_bind (wpAny_setField_rec hz (by simp) fun g1 z1 e1 => wpAny_pure ⟨rfl, g1, rfl, e1⟩)
 refine wpAny_bind (wpAny_mono own (fun b s' hb => ?_) fun _ _ e => e)
 obtain ⟨rfl, g1, rfl, e1⟩ := hb
 rw [if_neg Bool.false_ne_true]
 refine wpAny_bind ?_
 simp only [← Array.forIn_toList, List.forIn_cons, List.forIn_nil]
 refine wpAny_bind (wpAny_bind (wpAny_holding ?_))
 show wpAny _ _ (Builtin.SmallTypes.nextOf (.ref j1) >>= _) _ _ _
 exact wpAny_bind (nextT_end hh (h1.extBut e1.extBut D.j1z) (l1.extBut e1.extBut D.u1z) hx fun g2 e e2 he => q g2 e (fun c o n1 n2 n3 x => e2 _ _ n2 (e1.extBut _ _ n1 x)) he)
end
section
variable {X : Cx} {pins : List (Addr × Obj)} {σ : St} {H : Hp} {s : Shared} {z p r j1 j2 u1 u2 t : Addr} {xs ys : List V}
theorem FpOk.upd {b T : Addr} {o : HO} (h : FpOk X pins H b) (n : b ≠ T) : FpOk X pins (L2.upd H T o) b := ⟨by rw [upd_ne n]; exact h.1, h.2⟩
theorem next_kept {A : Around} {E : Value → Shared → Prop} {Q : Option Value → Shared → Prop} {i : Nat} {x y : V} {fl : Bool} {tv : List V} (I : Inv X pins σ H s) (D : Apart z p r j1 j2 u1 u2) (hf : ∀ b ∈ [z, p, r, j1, j2], FpOk X pins H b)
  (hz : ZipAt s.heap z p r (rawInt t) (.bool fl)) (ht : H t = some (.tup tv)) (hp : IsPair s.heap p (.ref j1) (.ref j2)) (hr : ∃ u v, IsPair s.heap r u v) (h1 : s.heap.IsTupleIter j1 u1 i) (h2 : s.heap.IsTupleIter j2 u2 i)
  (hxs : SqT X.K H u1 xs) (hys : SqT X.K H u2 ys) (hx : xs[i]? = some x) (hy : ys[i]? = some y)
  (q : ∀ T h', H T = none → Inv X pins σ (upd H T (.tup [x, y])) { s with heap := h' } → (∀ b ∈ [z, p, r, j1, j2], FpOk X pins (upd H T (.tup [x, y])) b) → ZipAt h' z p r (rawInt t) (.bool true) → IsPair h' p (.ref j1) (.ref j2) → (∃ u v, IsPair h' r u v) →
   h'.IsTupleIter j1 u1 (i + 1) → h'.IsTupleIter j2 u2 (i + 1) → Q (some (.ref T)) { s with heap := h' }) : wpAny (model X.prog X.w) A (pyNext (.ref z)) Q E s := by
 obtain ⟨its, rv, pl, _⟩ := I.tuple hxs
 obtain ⟨its2, rv2, pl2, _⟩ := I.tuple hys
 obtain ⟨vx, ex, rx⟩ := rv.get hx
 obtain ⟨vy, ey, ry⟩ := rv2.get hy
 have hT : s.TypeIs (.ref z) "zip" := ⟨_, hz, rfl⟩
 have tz : t ≠ z := fun e => by rw [e, (hf z (by simp)).1] at ht; cases ht
 obtain ⟨_, itt, _, ot, ho, _⟩ := (show ObjOk X.prog X.w H s.heap t (.tup tv) from I.hok t _ ht)
 unfold pyNext
 refine wpAny_bind (wpAny_attempt (wpAny_callSpecial?_slot (name := Str.ofString "__next__") hT F.slot_zip_next (wpAny_call_entry F.slot_zip_next hT F.entry_zip_next
  (zipT_kept D tz hz ho hp h1 h2 pl pl2 (by simpa using ex) (by simpa using ey) fun g T hT' a1 a3 a4 a5 a7 => wpAny_pure ?_) (F.args_zip_next_1 _))))
 have zl : z < s.heap.objs.size := Heap.lt_size hz
 have lt : ∀ c ∈ [z, p, r, j1, j2], c ≠ T := fun c hc e => by
  have h0 := (hf c hc)
  have : c < s.heap.objs.size := by
   simp only [List.mem_cons, List.not_mem_nil, or_false] at hc
   obtain ⟨_, q1, _⟩ := h1
   obtain ⟨_, q2, _⟩ := h2
   rcases hc with rfl | rfl | rfl | rfl | rfl
   ·exact zl
   ·exact Heap.lt_size hp
   ·obtain ⟨_, _, q3⟩ := hr
    exact Heap.lt_size q3
   ·exact Heap.lt_size q1
   ·exact Heap.lt_size q2
  exact absurd (e ▸ this) (Nat.not_lt.mpr hT')
 obtain ⟨ru, rv', hr'⟩ := hr
 refine q T g (I.hok.fresh hT') (I.turnedNew (t' := s.toks) (ch := [z, j1, j2]) (fun c o hc e => ?_) (fun c hc => hf c ?_) hT' ⟨by show 2 ≤ sizeLine; decide, [vx, vy], .cons rx (.cons ry .nil), ⟨_, a5, rfl, 0, rfl⟩⟩) (fun b hb => (hf b hb).upd (lt b hb)) a1 (a7 _ _ D.pz D.pj1 D.pj2 hp) ⟨ru, rv', a7 _ _ D.rz D.rj1 D.rj2 hr'⟩ a3 a4
 ·simp only [List.mem_cons, List.not_mem_nil, or_false, not_or] at hc
  exact a7 c o hc.1 hc.2.1 hc.2.2 e
 ·simp only [List.mem_cons, List.not_mem_nil, or_false] at hc ⊢
  rcases hc with rfl | rfl | rfl <;> simp
def Prs (H : Hp) (xs ys : List V) (ts : List Addr) : Prop := ∀ (j : Nat) (t : Addr), ts[j]? = some t → ∃ x y, xs[j]? = some x ∧ ys[j]? = some y ∧ H t = some (.tup [x, y])
theorem Prs.keep {H' : Hp} {ts : List Addr} (h : Prs H xs ys ts) (k : ∀ b v, H b = some (.tup v) → H' b = some (.tup v)) : Prs H' xs ys ts := fun j t e => by
 obtain ⟨x, y, a, b, c⟩ := h j t e
 exact ⟨x, y, a, b, k _ _ c⟩
theorem Prs.snoc {T : Addr} {x y : V} {ts : List Addr} (h : Prs H xs ys ts) (hx : xs[ts.length]? = some x) (hy : ys[ts.length]? = some y) (hT : H T = some (.tup [x, y])) : Prs H xs ys (ts ++ [T]) := fun j t e => by
 by_cases hj : j < ts.length
 ·rw [List.getElem?_append_left hj] at e; exact h j t e
 ·rw [List.getElem?_append_right (by omega)] at e
  have : j - ts.length = 0 := by
   by_cases h0 : j - ts.length = 0
   ·exact h0
   ·rw [List.getElem?_eq_none (by simp; omega)] at e; cases e
  have ej : j = ts.length := by omega
  subst ej
  simp at e
  subst e
  exact ⟨x, y, hx, hy, hT⟩
theorem SqT.step {K : PySem.W.Frag} {H' : Hp} {S a : Addr} {ls vs : List V} (k : ∀ b o, b ≠ S → H b = some o → H' b = some o) (hS : H S = some (.lst ls)) (h : SqT K H a vs) : SqT K H' a vs := by
 rcases h with (h | ⟨o, h⟩) | h
 ·exact .inl (.inl (k a _ (ne_of h hS (by intro z; cases z)) h))
 ·exact .inl (.inr ⟨o, k a _ (ne_of h hS (by intro z; cases z)) h⟩)
 ·exact .inr h
theorem ext_loopZ {A : Around} {R : Result → Shared → Prop} {res : Value} {S : Addr} (hh : A.handled = none) (D : Apart z p r j1 j2 u1 u2) (hlen : xs.length = ys.length) (hn : xs.length ≤ sizeLine) :
  ∀ (k i : Nat) (s : Shared) (H : Hp) (t : Addr) (fl : Bool) (tv : List V) (ts : List Addr), xs.length - i = k → i ≤ xs.length → Inv X pins σ H s → (∀ b ∈ [z, p, r, j1, j2], FpOk X pins H b) →
   ZipAt s.heap z p r (rawInt t) (.bool fl) → H t = some (.tup tv) → IsPair s.heap p (.ref j1) (.ref j2) → (∃ u v, IsPair s.heap r u v) → s.heap.IsTupleIter j1 u1 i → s.heap.IsTupleIter j2 u2 i → SqT X.K H u1 xs → SqT X.K H u2 ys →
   H S = some (.lst (ts.map V.ref)) → ts.length = i → Prs H xs ys ts →
   (∀ s' H' ts', Inv X pins σ H' s' → (∀ b o, b ≠ S → H b = some o → H' b = some o) → H' S = some (.lst (ts'.map V.ref)) → ts'.length = xs.length → Prs H' xs ys ts' → R (.ok (.ret res)) s') →
   codeAny (model X.prog X.w) A (.builtin "list.extend.loop" ⟨[.ref S, .ref z, res], []⟩) R s := by
 intro k
 induction k with
 | zero =>
  intro i s H t fl tv ts hk hi I hf hz ht hp hr h1 h2 hxs hys hS hl hP hR
  have ei : i = xs.length := by omega
  subst ei
  refine codeAny_builtin F.entry_extend_loop ?_
  rw [Around.under_plainId F.plain_extend_loop _]
  show wpAny _ A.in1 (pyNext (.ref z) >>= _) _ _ s
  obtain ⟨its, rv, pl, _⟩ := I.tuple hxs
  have l1 := rv.length
  have hT : s.TypeIs (.ref z) "zip" := ⟨_, hz, rfl⟩
  obtain ⟨_, itt, _, ot, ho, _⟩ := (show ObjOk X.prog X.w H s.heap t (.tup tv) from I.hok t _ ht)
  refine wpAny_bind ?_
  unfold pyNext
  refine wpAny_bind (wpAny_attempt (wpAny_callSpecial?_slot (name := Str.ofString "__next__") hT F.slot_zip_next (wpAny_call_entry F.slot_zip_next hT F.entry_zip_next
   (zipT_kept_end hh D hz ho hp h1 pl (by simp; omega) fun g e kk he => ?_) (F.args_zip_next_1 _))))
  obtain ⟨o, ho', hcl⟩ := he
  refine wpAny_bind (wpAny_isInstance (T := "StopIteration") (b := true) ⟨o, ho', hcl⟩ isSubtype_stop ?_)
  refine wpAny_pure (wpAny_pure (hR _ H ts (I.turnedAll (t' := s.toks) (ch := [z, j1, j2]) (fun c o hc e => ?_) (fun c hc => hf c ?_)) (fun _ _ _ h => h) hS hl hP))
  ·simp only [List.mem_cons, List.not_mem_nil, or_false, not_or] at hc
   exact kk c o hc.1 hc.2.1 hc.2.2 e
  ·simp only [List.mem_cons, List.not_mem_nil, or_false] at hc ⊢
   rcases hc with rfl | rfl | rfl <;> simp
 | succ k ih =>
  intro i s H t fl tv ts hk hi I hf hz ht hp hr h1 h2 hxs hys hS hl hP hR
  have hlt : i < xs.length := by omega
  have hlt2 : i < ys.length := by omega
  refine codeAny_builtin F.entry_extend_loop ?_
  rw [Around.under_plainId F.plain_extend_loop _]
  show wpAny _ A.in1 (pyNext (.ref z) >>= _) _ _ s
  have hx : xs[i]? = some xs[i] := List.getElem?_eq_getElem hlt
  have hy : ys[i]? = some ys[i] := List.getElem?_eq_getElem hlt2
  refine wpAny_bind (next_kept I D hf hz ht hp hr h1 h2 hxs hys hx hy fun T g hTn I1 hf1 z1 p1 r1 a1 a2 => ?_)
  have hS1 : (upd H T (.tup [xs[i], ys[i]])) S = some (.lst (ts.map V.ref)) := by rw [upd_ne (ne_of_none hS hTn)]; exact hS
  obtain ⟨zz, its, n, rv, hl', e⟩ := I1.lstM hS1
  have ST : S ≠ T := ne_of_none hS hTn
  show wpAny _ A.in1 (updateSeq S (·.push (.ref T)) >>= _) _ _ _
  refine wpAny_bind ?_
  have I2 := I1.lset (its' := its ++ [.ref T]) (ys := ts.map V.ref ++ [.ref T]) (f := (·.push (Value.ref T))) (t' := s.toks) hS1 e (by simp) (rv.append (.cons (show RelV (.ref T) (.ref T) from rfl) .nil)) (by rw [List.length_append, List.length_map, List.length_singleton]; omega)
  have st : ∀ b o, b ≠ S → H b = some o → (upd (upd H T (.tup [xs[i], ys[i]])) S (.lst (ts.map V.ref ++ [.ref T]))) b = some o := fun b o hb h => by rw [upd_ne hb, upd_ne (ne_of_none h hTn)]; exact h
  have sp : ∀ b ∈ [z, p, r, j1, j2], b ≠ S := fun b hb e => by have := (hf b hb).1; rw [e, hS] at this; cases this
  have kp : ∀ b o, b ≠ S → g.get? b = some o → (g.update S (Obj.mapSeq (·.push (Value.ref T)))).get? b = some o := fun b o hb e => (Heap.get?_update_other _ _ (Ne.symm hb)).trans e
  refine wpAny_updateSeq e rfl (wpAny_pure ⟨plainId_quiet F.plain_extend_loop _, ih (i + 1) _ _ t true tv (ts ++ [T]) (by omega) hlt I2 (fun b hb => (hf1 b hb).upd (sp b hb)) (kp _ _ (sp z (by simp)) z1) ?_ (kp _ _ (sp p (by simp)) p1) ?_ (itAt a1 fun o e => kp _ o (sp j1 (by simp)) e) (itAt a2 fun o e => kp _ o (sp j2 (by simp)) e) ?_ ?_ ?_ ?_ ?_ ?_⟩) (by simp; rw [← hl', List.length_map]; omega) (by simp; rw [← hl', List.length_map]; omega)
  ·exact st t _ (ne_of ht hS (by intro z; cases z)) ht
  ·obtain ⟨u, v, q⟩ := r1
   exact ⟨u, v, kp _ _ (sp r (by simp)) q⟩
  ·exact hxs.step st hS
  ·exact hys.step st hS
  ·rw [upd_same, List.map_append]; rfl
  ·rw [List.length_append, hl]; rfl
  ·exact (hP.keep fun b v h => st b _ (ne_of h hS (by intro z; cases z)) h).snoc (by rw [hl]; exact hx) (by rw [hl]; exact hy) (by rw [upd_ne ST.symm]; exact upd_same)
  ·intro s' H' ts' I' k' hS' hl'' hP'
   exact hR s' H' ts' I' (fun b o hb h => k' b o hb (st b o hb h)) hS' hl'' hP'
end
theorem zip_no_len : typeLookup (.type "zip") "__len__" = pure none := by rw [typeLookup_type, builtinLookup_eq_fast]; kernel_rfl
theorem zip_no_hint : typeLookup (.type "zip") "__length_hint__" = pure none := by rw [typeLookup_type, builtinLookup_eq_fast]; kernel_rfl
section
variable {X : Cx} {pins : List (Addr × Obj)} {σ : St} {H : Hp} {s : Shared} {z p r j1 j2 u1 u2 : Addr} {xs ys : List V}
theorem ext_loopZ0 {A : Around} {R : Result → Shared → Prop} {res : Value} {S : Addr} (hh : A.handled = none) (D : Apart z p r j1 j2 u1 u2) (hlen : xs.length = ys.length) (hn : xs.length ≤ sizeLine)
  (I : Inv X pins σ H s) (hf : ∀ b ∈ [z, p, r, j1, j2], FpOk X pins H b) (hz : IsZip s.heap z p r .none) (hp : IsPair s.heap p (.ref j1) (.ref j2)) (hr : ∃ u v, IsPair s.heap r u v) (h1 : s.heap.IsTupleIter j1 u1 0) (h2 : s.heap.IsTupleIter j2 u2 0)
  (hxs : SqT X.K H u1 xs) (hys : SqT X.K H u2 ys) (hS : H S = some (.lst []))
  (hR : ∀ s' H' ts', Inv X pins σ H' s' → (∀ b o, b ≠ S → H b = some o → H' b = some o) → H' S = some (.lst (ts'.map V.ref)) → ts'.length = xs.length → Prs H' xs ys ts' → R (.ok (.ret res)) s') :
  codeAny (model X.prog X.w) A (.builtin "list.extend.loop" ⟨[.ref S, .ref z, res], []⟩) R s := by
 obtain ⟨ra, rb, hr⟩ := hr
 obtain ⟨its, rv, pl, _⟩ := I.tuple hxs
 obtain ⟨its2, rv2, pl2, _⟩ := I.tuple hys
 have l1 := rv.length
 have l2 := rv2.length
 have hT : s.TypeIs (.ref z) "zip" := ⟨_, hz, rfl⟩
 refine codeAny_builtin F.entry_extend_loop ?_
 rw [Around.under_plainId F.plain_extend_loop _]
 show wpAny _ A.in1 (pyNext (.ref z) >>= _) _ _ s
 refine wpAny_bind ?_
 unfold pyNext
 by_cases h0 : 0 < xs.length
 ·have hx : xs[0]? = some xs[0] := List.getElem?_eq_getElem h0
  have hy : ys[0]? = some ys[0] := List.getElem?_eq_getElem (by omega)
  obtain ⟨vx, ex, rx⟩ := rv.get hx
  obtain ⟨vy, ey, ry⟩ := rv2.get hy
  refine wpAny_bind (wpAny_attempt (wpAny_callSpecial?_slot (name := Str.ofString "__next__") hT F.slot_zip_next (wpAny_call_entry F.slot_zip_next hT F.entry_zip_next
   (zipT_item D hz hp hr h1 h2 pl pl2 (by simpa using ex) (by simpa using ey) fun g a1 a2 a3 a4 a5 a6 a7 => wpAny_pure ?_) (F.args_zip_next_1 _))))
  have lt : ∀ c ∈ [z, p, r, j1, j2], c ≠ s.heap.objs.size := fun c hc e => by
   have : c < s.heap.objs.size := by
    simp only [List.mem_cons, List.not_mem_nil, or_false] at hc
    obtain ⟨_, q1, _⟩ := h1
    obtain ⟨_, q2, _⟩ := h2
    rcases hc with rfl | rfl | rfl | rfl | rfl
    ·exact Heap.lt_size hz
    ·exact Heap.lt_size hp
    ·exact Heap.lt_size hr
    ·exact Heap.lt_size q1
    ·exact Heap.lt_size q2
   exact absurd this (by rw [e]; exact Nat.lt_irrefl _)
  have hTn : H s.heap.objs.size = none := I.fresh
  generalize hT0 : s.heap.objs.size = T at a1 a5 a6 hTn lt
  have I1 : Inv X pins σ (upd H T (.tup [xs[0], ys[0]])) { s with heap := g } := by
   refine I.turnedNew (t' := s.toks) (ch := [z, r, j1, j2]) (fun c o hc e => ?_) (fun c hc => hf c ?_) (by rw [hT0]; exact Nat.le_refl _) ⟨by show 2 ≤ sizeLine; decide, [vx, vy], .cons rx (.cons ry .nil), ⟨_, a5, rfl, 0, rfl⟩⟩
   ·simp only [List.mem_cons, List.not_mem_nil, or_false, not_or] at hc
    exact a7 c o hc.1 hc.2.1 hc.2.2.1 hc.2.2.2 e
   ·simp only [List.mem_cons, List.not_mem_nil, or_false] at hc ⊢
    rcases hc with rfl | rfl | rfl | rfl <;> simp
  have hS1 : (upd H T (.tup [xs[0], ys[0]])) S = some (.lst []) := by rw [upd_ne (ne_of_none hS hTn)]; exact hS
  obtain ⟨zz, its', n, rv', hl', e⟩ := I1.lstM hS1
  have ST : S ≠ T := ne_of_none hS hTn
  show wpAny _ A.in1 (updateSeq S (·.push (.ref T)) >>= _) _ _ _
  refine wpAny_bind ?_
  have I2 := I1.lset (its' := its' ++ [.ref T]) (ys := [] ++ [.ref T]) (f := (·.push (Value.ref T))) (t' := s.toks) hS1 e (by simp) (rv'.append (.cons (show RelV (.ref T) (.ref T) from rfl) .nil)) (by show 1 ≤ sizeLine; decide)
  have st : ∀ b o, b ≠ S → H b = some o → (upd (upd H T (.tup [xs[0], ys[0]])) S (.lst ([] ++ [.ref T]))) b = some o := fun b o hb h => by rw [upd_ne hb, upd_ne (ne_of_none h hTn)]; exact h
  have sp : ∀ b ∈ [z, p, r, j1, j2], b ≠ S := fun b hb e => by have := (hf b hb).1; rw [e, hS] at this; cases this
  have kp : ∀ b o, b ≠ S → g.get? b = some o → (g.update S (Obj.mapSeq (·.push (Value.ref T)))).get? b = some o := fun b o hb e => (Heap.get?_update_other _ _ (Ne.symm hb)).trans e
  have li : its'.length = 0 := by rw [← hl']; rfl
  refine wpAny_updateSeq e rfl (wpAny_pure ⟨plainId_quiet F.plain_extend_loop _, ext_loopZ (S := S) hh D hlen hn _ 1 _ _ T false [xs[0], ys[0]] [T] rfl h0 I2 (fun b hb => ((hf b hb).upd (lt b hb)).upd (sp b hb)) (kp _ _ (sp z (by simp)) a1) ?_ (kp _ _ (sp p (by simp)) (a7 _ _ D.pz D.pr D.pj1 D.pj2 hp)) ⟨vx, vy, kp _ _ (sp r (by simp)) a2⟩ (itAt a3 fun o e => kp _ o (sp j1 (by simp)) e) (itAt a4 fun o e => kp _ o (sp j2 (by simp)) e) (hxs.step st hS) (hys.step st hS) upd_same rfl ?_ ?_⟩) (by simp; omega) (by simp; omega)
  ·rw [upd_ne ST.symm]; exact upd_same
  ·have : Prs (upd (upd H T (.tup [xs[0], ys[0]])) S (.lst ([] ++ [.ref T]))) xs ys ([] ++ [T]) := Prs.snoc (fun j t e => by simp at e) hx hy (by rw [upd_ne ST.symm]; exact upd_same)
   exact this
  ·intro s' H' ts' I' k' hS' hl'' hP'
   exact hR s' H' ts' I' (fun b o hb h => k' b o hb (st b o hb h)) hS' hl'' hP'
 ·have e0 : xs.length = 0 := by omega
  refine wpAny_bind (wpAny_attempt (wpAny_callSpecial?_slot (name := Str.ofString "__next__") hT F.slot_zip_next (wpAny_call_entry F.slot_zip_next hT F.entry_zip_next
   (zipT_end hh D hz hp hr h1 h2 pl pl2 (.inl (by rw [List.getElem?_toArray]; exact List.getElem?_eq_none (by omega))) fun g e kk he => ?_) (F.args_zip_next_1 _))))
  obtain ⟨o, ho', hcl⟩ := he
  refine wpAny_bind (wpAny_isInstance (T := "StopIteration") (b := true) ⟨o, ho', hcl⟩ isSubtype_stop ?_)
  refine wpAny_pure (wpAny_pure (hR _ H [] (I.turnedAll (t' := s.toks) (ch := [z, r, j1, j2]) (fun c o hc e => ?_) (fun c hc => hf c ?_)) (fun _ _ _ h => h) hS e0.symm (fun j t e => by simp at e)))
  ·simp only [List.mem_cons, List.not_mem_nil, or_false, not_or] at hc
   exact kk c o hc.1 hc.2.1 hc.2.2.1 hc.2.2.2 e
  ·simp only [List.mem_cons, List.not_mem_nil, or_false] at hc ⊢
   rcases hc with rfl | rfl | rfl | rfl <;> simp
theorem call_list_zip {Q : Value → Shared → Prop} {E : Value → Shared → Prop} (hh : X.A.handled = none) (D : Apart z p r j1 j2 u1 u2) (hlen : xs.length = ys.length)
  (I : Inv X pins σ H s) (hf : ∀ b ∈ [z, p, r, j1, j2], FpOk X pins H b) (hz : IsZip s.heap z p r .none) (hp : IsPair s.heap p (.ref j1) (.ref j2)) (hr : ∃ u v, IsPair s.heap r u v) (h1 : s.heap.IsTupleIter j1 u1 0) (h2 : s.heap.IsTupleIter j2 u2 0)
  (hxs : SqT X.K H u1 xs) (hys : SqT X.K H u2 ys)
  (hQ : ∀ L s' H' ts', H L = none → Inv X pins σ H' s' → (∀ b o, H b = some o → H' b = some o) → H' L = some (.lst (ts'.map V.ref)) → ts'.length = xs.length → Prs H' xs ys ts' → Q (.ref L) s') :
  wpAny (model X.prog X.w) X.A (call (.type "list") [.ref z]) Q E s := by
 obtain ⟨its, rv, pl, hn⟩ := I.tuple hxs
 refine callType_codes (Q₁ := fun obj s₁ => obj = .ref s.heap.objs.size ∧ s₁ = { s with heap := s.heap.push { cls := .type "list", data := .seq #[] } }) F.called_list (F.typeCall_list_1 _) F.entry_list_init
  (code_list_new _ ⟨rfl, rfl⟩) fun obj s₁ h₁ => ?_
 obtain ⟨rfl, rfl⟩ := h₁
 have hS : (s.heap.push { cls := .type "list", data := .seq #[] }).get? s.heap.objs.size = some { cls := .type "list", data := .seq #[] } := Heap.get?_push_size _ rfl
 have I1 := I.lnew (ys := []) (its := []) (t' := s.toks) .nil (Nat.zero_le _)
 have hSn : H s.heap.objs.size = none := I.fresh
 have lt : ∀ c ∈ [z, p, r, j1, j2], c < s.heap.objs.size := fun c hc => by
  simp only [List.mem_cons, List.not_mem_nil, or_false] at hc
  obtain ⟨_, q1, _⟩ := h1
  obtain ⟨_, q2, _⟩ := h2
  obtain ⟨_, _, q3⟩ := hr
  rcases hc with rfl | rfl | rfl | rfl | rfl
  ·exact Heap.lt_size hz
  ·exact Heap.lt_size hp
  ·exact Heap.lt_size q3
  ·exact Heap.lt_size q1
  ·exact Heap.lt_size q2
 generalize hSS : s.heap.objs.size = S at hS I1 hSn lt ⊢
 have k0 : ∀ b o, s.heap.get? b = some o → (s.heap.push { cls := .type "list", data := .seq #[] }).get? b = some o := fun b o e => Heap.get?_push_of_some _ e
 refine ⟨⟨_, hS, rfl⟩, F.args_list_init_2 _ _, ?_⟩
 show wpAny _ X.A.in1.in1 (do let old ← Builtin.List.listItems (.ref S); Builtin.List.listUpdate (.ref S) (fun _ => #[]); letGo old.toList.reverse; Builtin.List.listExtendWith (.ref S) (.ref z) .none) _ _ _
 refine wpAny_bind ?_
 unfold Builtin.List.listItems
 refine wpAny_bind (wpAny_seqItems hS rfl (wpAny_pure ?_))
 show wpAny _ X.A.in1.in1 (updateSeq S (fun _ => #[]) >>= fun _ => letGo (#[] : Array Value).toList.reverse >>= fun _ => Builtin.List.listExtendWith (.ref S) (.ref z) .none) _ _ _
 refine wpAny_bind (wpAny_updateSeq hS rfl ?_)
 have I2 := I1.lset (ys := []) (its' := []) (f := fun _ => (#[] : Array Value)) (t' := s.toks) upd_same hS rfl .nil (Nat.zero_le _)
 have hS₂ := Heap.get?_update_self (Obj.mapSeq (fun _ => (#[] : Array Value))) hS rfl
 refine wpAny_bind (wpAny_letGo ?_)
 unfold Builtin.List.listExtendWith
 have sp : ∀ b ∈ [z, p, r, j1, j2], b ≠ S := fun b hb => Nat.ne_of_lt (lt b hb)
 have hSz : S ≠ z := (sp z (by simp)).symm
 have oth : ∀ b o, b ≠ S → s.heap.get? b = some o → ((s.heap.push { cls := .type "list", data := .seq #[] }).update S (Obj.mapSeq (fun _ => (#[] : Array Value)))).get? b = some o := fun b o hb e => (Heap.get?_update_other _ _ (Ne.symm hb)).trans (k0 b o e)
 have hT : Shared.TypeIs { s with heap := (s.heap.push { cls := .type "list", data := .seq #[] }).update S (Obj.mapSeq (fun _ => (#[] : Array Value))) } (.ref z) "zip" := ⟨_, oth _ _ (sp z (by simp)) hz, rfl⟩
 refine wpAny_bind (wpAny_typeOf hT ?_)
 have g1 : Builtin.List.listSameRef (.ref S) (.ref z) = false := by simp [Builtin.List.listSameRef, hSz]
 have g2 : (Value.type "zip" == Value.type "list") = false := by decide
 have g3 : (Value.type "zip" == Value.type "tuple") = false := by decide
 simp only [g1, g2, g3, Bool.or_false, Bool.false_eq_true, if_false]
 refine wpAny_bind (wpAny_pyIter_zip (oth _ _ (sp z (by simp)) hz) ?_)
 refine wpAny_bind (wpAny_holding ?_)
 unfold Builtin.List.listLengthHint
 refine wpAny_bind (wpAny_specialOf hT zip_no_len ?_)
 show wpAny _ X.A.in1.in1 (specialOf (Value.ref z) (Str.ofString "__length_hint__") >>= _) _ _ _
 refine wpAny_bind (wpAny_specialOf hT zip_no_hint ?_)
 refine wpAny_pure ?_
 show wpAny _ X.A.in1.in1 (rule "list.extend.makes-room" >>= fun _ => Builtin.List.listTouch (.ref S) >>= fun _ =>
  again (.builtin "list.extend.loop" ⟨[.ref S, .ref z, .none], []⟩)) _ _ _
 refine wpAny_bind (wpAny_rule ?_)
 refine wpAny_bind ?_
 show wpAny _ X.A.in1.in1 (updateSeq S (·.push .none) >>= fun _ => updateSeq S (·.pop)) _ _ _
 refine wpAny_bind (wpAny_updateSeq hS₂ rfl ?_)
 have I3 := I2.lset (ys := [.non]) (its' := [.none]) (f := (·.push Value.none)) (t' := s.toks) upd_same hS₂ rfl (.cons rfl .nil) (by show 1 ≤ sizeLine; decide)
 have hS₃ := Heap.get?_update_self (Obj.mapSeq (·.push Value.none)) hS₂ rfl
 refine wpAny_updateSeq (hz := by seq_fits) hS₃ rfl ?_
 have I4 := I3.lset (ys := []) (its' := []) (f := (·.pop)) (t' := s.toks) upd_same hS₃ rfl .nil (Nat.zero_le _)
 have oth2 : ∀ b o, b ≠ S → s.heap.get? b = some o → ((((s.heap.push { cls := .type "list", data := .seq #[] }).update S (Obj.mapSeq (fun _ => (#[] : Array Value)))).update S (Obj.mapSeq (·.push Value.none))).update S (Obj.mapSeq (·.pop))).get? b = some o := fun b o hb e =>
  (Heap.get?_update_other _ _ (Ne.symm hb)).trans ((Heap.get?_update_other _ _ (Ne.symm hb)).trans (oth b o hb e))
 have st : ∀ b o, H b = some o → (upd (upd (upd (upd H S (.lst [])) S (.lst [])) S (.lst [.non])) S (.lst [])) b = some o := fun b o h => by
  have := ne_of_none h hSn
  rw [upd_ne this, upd_ne this, upd_ne this, upd_ne this]; exact h
 obtain ⟨ra, rb, hr⟩ := hr
 have sq : ∀ {a : Addr} {vs : List V}, SqT X.K H a vs → SqT X.K (upd (upd (upd (upd H S (.lst [])) S (.lst [])) S (.lst [.non])) S (.lst [])) a vs := fun h => by
  rcases h with (h | ⟨o, h⟩) | h
  ·exact .inl (.inl (st _ _ h))
  ·exact .inl (.inr ⟨o, st _ _ h⟩)
  ·exact .inr h
 refine wpAny_pure ⟨plainId_quiet F.plain_extend_loop _, ext_loopZ0 (S := S) (A := X.A.in1) hh D hlen hn I4 (fun b hb => ((((hf b hb).upd (sp b hb)).upd (sp b hb)).upd (sp b hb)).upd (sp b hb)) (oth2 _ _ (sp z (by simp)) hz) (oth2 _ _ (sp p (by simp)) hp) ⟨ra, rb, oth2 _ _ (sp r (by simp)) hr⟩
  (itAt h1 fun o e => oth2 _ o (sp j1 (by simp)) e) (itAt h2 fun o e => oth2 _ o (sp j2 (by simp)) e) (sq hxs) (sq hys) upd_same fun s' H' ts' I' k' hS' hl' hP' => ?_⟩
 exact ⟨rfl, hQ S s' H' ts' hSn I' (fun b o h => k' b o (ne_of_none h hSn) (st b o h)) hS' hl' hP'⟩
end
end L2
set_option Elab.async false
set_option linter.all false
set_option maxRecDepth 100000
namespace L2
open PySem PySem.Spec PyProof.Rows
section
variable {X : Cx} {a b : Expr} {ta : TA} {p1 p2 pos1 pos2 : Pos}
def tLZ (K : PySem.W.Frag) (ta : TA) : TE := fun σ H Q => ta σ H fun vs H1 => ∃ (u1 u2 : Addr) (xs ys : List V), vs = [.ref u1, .ref u2] ∧ SqT K H1 u1 xs ∧ SqT K H1 u2 ys ∧ xs.length = ys.length ∧
 ∀ (L : Addr) (H' : Hp) (ts : List Addr), H1 L = none → Kp [] H1 H' → H' L = some (.lst (ts.map V.ref)) → ts.length = xs.length → Prs H' xs ys ts → Q (.ref L) H'
theorem pe_listzip (hc : X.calm = true) (hg : Gl X "list") (hm : X.mg "list" = none) (hg2 : Gl X "zip") (hm2 : X.mg "zip" = none) (ha : PA X [a, b] ta)
  (hs : starEach [a, b] X.env = [(false, eval a X.env), (false, eval b X.env)] := by rfl) (hs2 : starEach [b] X.env = [(false, eval b X.env)] := by rfl)
  (hz : starEach [.Call (.Name "zip" p2) [a, b] [] pos2] X.env = [(false, eval (.Call (.Name "zip" p2) [a, b] [] pos2) X.env)] := by rfl) :
  PE X (.Call (.Name "list" p1) [.Call (.Name "zip" p2) [a, b] [] pos2] [] pos1) (tLZ X.K ta) := by
 refine .mk ?_
 intro pins s σ H Q I h
 refine Call_ (ld_blt I hg hm boot_list (PyProof.Rows.callWith_type1 ?_ (by rw [hz]; rfl) rfl))
 rw [hz]
 refine Calls.spliced_cons ?_
 refine Call_ (ld_blt I hg2 hm2 boot_zip (PyProof.Rows.callWith_type1 (thn (ha pos2 pins s σ H _ I h) fun us s1 ⟨vs, H1, I1, r1, q1⟩ => ?_) (by rw [hs, hs2]) (by rw [hs2]; rfl)))
 obtain ⟨u1, u2, xs, ys, e, hx, hy, hl, q⟩ := q1
 subst e
 cases r1 with
 | cons r rr =>
  cases rr with
  | cons r' rr =>
   cases rr
   cases r
   cases r'
   obtain ⟨its, rv, pl, _⟩ := I1.tuple hx
   obtain ⟨its2, rv2, pl2, _⟩ := I1.tuple hy
   obtain ⟨o1, e1, _⟩ := id pl
   obtain ⟨o2, e2, _⟩ := id pl2
   refine call_zipT pl pl2 fun h' hz hp hr j1 j2 k => ?_
   refine Calls.spliced_nil ?_
   have I2 : Inv X pins σ H1 { s1 with heap := h' } := I1.kept (t' := s1.toks) k
   refine call_list_zip (I.ok.hd hc) (apart_new (Heap.lt_size e1) (Heap.lt_size e2)) hl I2 (fun c hc => ?_) hz hp ⟨_, _, hr⟩ j1 j2 hx hy fun L s' H' ts hL I' k' hS hl' hP => ⟨.ref L, H', I', rfl, q L H' ts hL (fun b o _ h => k' b o h) hS hl' hP⟩
   have hc' : s1.heap.objs.size ≤ c := by
    simp only [List.mem_cons, List.not_mem_nil, or_false] at hc
    rcases hc with rfl | rfl | rfl | rfl | rfl <;> first | exact Nat.le_refl _ | exact Nat.le_add_right _ _
   have f := I1.fpOk hc' (I1.hok.fresh hc')
   exact f
theorem rv_str : SlB X (fun x H Q => ∃ z : Str, x = .str z ∧ z.length ≤ sizeLine ∧ ∀ y : Str, y.length ≤ z.length → Q (.str y) H) := by
 intro pins s σ H x v vs sl Q I rx hs ps h
 obtain ⟨z, rfl, hz, q⟩ := h
 obtain ⟨t, rfl⟩ := rx
 refine ⟨"str", _, F.slot_str_getitem.lookup, typeIs_str _ z t, ?_⟩
 obtain ⟨o, h1, h2, h3⟩ := hs
 cases ps with
 | int j t' =>
  refine wpAny_getItem_str_slice (l := none) (u := none) (st := some (-1, t')) ⟨o, h1, h2, h3⟩ rfl ?_
  unfold sliceMade slicePicked
  show (if ((-1 : Int) == 1 && (Builtin.Str.strSliceIndices none none (-1) z.length).length == z.length) = true then Made.val (.str z t) else .str ⟨((Builtin.Str.strSliceIndices none none (-1) z.length).filterMap (z.cps[·]?)).toArray⟩).post (EP X pins σ Q) s
  rw [if_neg (by rw [show ((-1 : Int) == 1) = false from rfl, Bool.false_and]; exact Bool.false_ne_true)]
  have hl : (Str.mk ((Builtin.Str.strSliceIndices none none (-1) z.length).filterMap (z.cps[·]?)).toArray).length ≤ z.length := by
   show ((Builtin.Str.strSliceIndices none none (-1) z.length).filterMap (z.cps[·]?)).toArray.size ≤ z.length
   rw [List.size_toArray]
   refine Nat.le_trans (List.length_filterMap_le _ _) ?_
   rw [picked_rev, List.length_map, List.length_range]
   exact Nat.le_refl _
  exact ⟨Nat.le_trans hl hz, .str _, H, I.tok _, ⟨_, rfl⟩, q _ hl⟩
end
end L2
set_option Elab.async false
set_option linter.all false
set_option maxRecDepth 100000
namespace L2
open PySem PySem.Spec PyProof.Rows
section
variable {X : Cx}
theorem op_eqNil (hu : X.A.units < cLine) : OpR X (compareOp .Eq) (fun x y H Q => ∃ a b xs, x = .ref a ∧ y = .ref b ∧ SqL X.K H a xs ∧ SqL X.K H b [] ∧ Q (.bl xs.isEmpty) H) := by
 intro pins s σ H x y v u Q I rx ry h
 obtain ⟨a, b, xs, rfl, rfl, ha, hb, q⟩ := h
 cases rx
 cases ry
 obtain ⟨its, rv, pl, hz⟩ := I.list ha
 obtain ⟨its2, rv2, pl2, hz2⟩ := I.list hb
 cases rv2
 cases xs with
 | nil =>
  cases rv
  exact SeqAt.eq_listAt (e := fun _ => true) pl.isList pl2.isList rfl hu (fun j h1 _ => absurd h1 (by simp)) ⟨.bl true, H, I, rfl, q⟩
 | cons x r =>
  cases rv with
  | cons r1 r2 => exact SeqAt.eq_list_lengthsAt pl.isList pl2.isList (by simp) hu ⟨.bl false, H, I, rfl, q⟩
end
end L2
set_option Elab.async false
set_option linter.all false
set_option maxRecDepth 100000
namespace L2
open PySem PySem.Spec PyProof.Rows
section
variable {X : Cx}
theorem mt_index : MtR X "list.index" (fun x vs H Q => ∃ (p : Addr) (xs : List V) (y : V) (j : Nat), x = .ref p ∧ vs = [y] ∧ SqL X.K H p xs ∧ flatV y = true ∧ xs.all flatV = true ∧ (∃ z, xs[j]? = some z ∧ eqV z y = true) ∧ (∀ m z, m < j → xs[m]? = some z → eqV z y = false) ∧ Q (.int j) H) := by
 intro pins s σ H x vs v us Q I rx rv h
 obtain ⟨p, xs, y, j, rfl, rfl, hq, fy, fs, ⟨z, hj, hz⟩, hno, q⟩ := h
 cases rx
 obtain ⟨u, rfl, ru⟩ := vals1 rv
 obtain ⟨its, r, ⟨⟨cls, dd, data, sl⟩, n, e, hc, hd, ho⟩, hl⟩ := I.list hq
 simp only at hc hd ho
 subst hc hd ho
 have lens := r.length
 obtain ⟨hjl, _⟩ := List.getElem?_eq_some_iff.mp hj
 have at_ : ∀ m (hm : m < its.length) (z : V), xs[m]? = some z → eqU y its[m] = eqV z y := fun m hm z hz => by
  obtain ⟨u', e', r'⟩ := r.get hz
  rw [List.getElem?_eq_getElem hm] at e'
  cases e'
  exact eqU_of r' (List.all_eq_true.mp fs z (List.mem_of_getElem? hz))
 have hs : sizeLine = 16777216 := sizeLine_eq
 refine call_meets PySem.F.slot_list_index ⟨_, e, rfl⟩ PySem.F.entry_list_index (PySem.F.args_list_index_2 _ _) (SeqAt.list_indexAt p its.toArray n none sl u (eqU y) j (by simp; omega) (by omega) ?_ ?_) ⟨e, fun w hw => mem_eqAt ru fy r fs w (by simpa using hw), ⟨.int j, H, I.tok _, ⟨_, rfl⟩, q⟩⟩
 ·have : its.toArray[j]'(by simp; omega) = its[j]'(by omega) := by simp
  rw [this, at_ j (by omega) z hj]
  exact hz
 ·intro m hm hlt
  have hm' : m < its.length := by simpa using hm
  have : its.toArray[m]'hm = its[m]'hm' := by simp
  rw [this]
  have hx : m < xs.length := by omega
  rw [at_ m hm' xs[m] (by simp [hx])]
  exact hno m _ hlt (by simp [hx])
end
end L2
namespace L2
open PySem PySem.Spec PyProof.Rows
section
variable {X : Cx}
theorem op_eqT0 (hu : X.A.units < cLine) : OpR X (compareOp .Eq) (fun x y H Q => ∃ a b xs, x = .ref a ∧ y = .ref b ∧ H a = some (.tup xs) ∧ H b = some (.tup []) ∧ Q (.bl xs.isEmpty) H) := by
 intro pins s σ H x y v u Q I rx ry h
 obtain ⟨a, b, xs, rfl, rfl, ha, hb, q⟩ := h
 cases rx
 cases ry
 obtain ⟨its, rv, pl, hz⟩ := I.tuple (SqT.of (K := X.K) ha)
 obtain ⟨its2, rv2, pl2, hz2⟩ := I.tuple (SqT.of (K := X.K) hb)
 cases rv2
 refine SeqAt.eq_tupleAt (e := fun _ => true) pl pl2 hu (fun j h1 h2 => absurd h2 (by simp)) ⟨.bl xs.isEmpty, H, I, ?_, q⟩
 show _ = Value.bool _
 congr 1
 cases xs with
 | nil => cases rv; rfl
 | cons x r => cases rv with | cons r1 r2 => simp
end
end L2
set_option Elab.async false
set_option linter.all false
set_option maxRecDepth 100000
namespace L3
open PySem PySem.Spec L2
open PyProof.Rows hiding St
inductive T where
 | non | bl (b : Bool) | int (i : Int) | str (z : Str) | tup (ts : List T) | ref (a : Addr) | ty (n : String)
 /-- a list that nobody changes (the script) -/
 | scr (K : PySem.W.Frag) (a : Addr) (ts : List T)
def SqC (K : PySem.W.Frag) (H : Hp) (a : Addr) (vs : List V) : Prop := (∃ o, H a = some (.frz o (.lst vs))) ∨
 ∃ (o : Obj) (its : Array Value) (n : Nat), K.lookup a = some o ∧ o.cls = .type "list" ∧ o.dict = none ∧ o.data = .seq its n ∧ its.size ≤ sizeLine ∧ Vals vs its.toList
inductive O where
 | lst (ts : List T)
 | ins (C dx : Addr) (fs : List (Str × T))
 | own (x : Addr)
 | dK (kvs : List (Key × T))
 | ext (φ : Heap → Prop)
abbrev Gp := Addr → Option O
def up (Γ : Gp) (a : Addr) (o : O) : Gp := fun b => if b = a then some o else Γ b
theorem up_same {Γ : Gp} {a : Addr} {o : O} : up Γ a o a = some o := by unfold up; rw [if_pos rfl]
theorem up_ne {Γ : Gp} {a b : Addr} {o : O} (h : b ≠ a) : up Γ a o b = Γ b := by unfold up; rw [if_neg h]
theorem gne {Γ : Gp} {a b : Addr} {o u : O} (h : Γ a = some o) (h' : Γ b = some u) (d : o ≠ u) : a ≠ b := by
 intro e; subst e; rw [h] at h'; exact d (Option.some.inj h')
theorem gnn {Γ : Gp} {a b : Addr} {o : O} (h : Γ a = some o) (h' : Γ b = none) : a ≠ b := by
 intro e; subst e; rw [h] at h'; cases h'
section
mutual
def R (H : Hp) : V → T → Prop
 | v, .non => v = .non
 | v, .bl b => v = .bl b
 | v, .int i => v = .int i
 | v, .str z => v = .str z
 | v, .ref a => v = .ref a
 | v, .ty n => v = .ty n
 | v, .tup ts => ∃ a vs, v = .ref a ∧ H a = some (.tup vs) ∧ Rs H vs ts
 | v, .scr K a ts => v = .ref a ∧ ∃ vs, SqC K H a vs ∧ Rs H vs ts
def Rs (H : Hp) : List V → List T → Prop
 | vs, [] => vs = []
 | vs, t :: r => ∃ v ws, vs = v :: ws ∧ R H v t ∧ Rs H ws r
end
def Tq (H H' : Hp) : Prop := (∀ a vs, H a = some (.tup vs) → H' a = some (.tup vs)) ∧ ∀ a o u, H a = some (.frz o u) → H' a = some (.frz o u)
end
section
variable {H H' : Hp}
theorem Tq.refl : Tq H H := ⟨fun _ _ h => h, fun _ _ _ h => h⟩
theorem Tq.trans {H1 : Hp} (a : Tq H H1) (b : Tq H1 H') : Tq H H' := ⟨fun x vs h => b.1 x vs (a.1 x vs h), fun x o u h => b.2 x o u (a.2 x o u h)⟩
theorem SqC.mono (t : Tq H H') {K : PySem.W.Frag} {a : Addr} {vs : List V} (h : SqC K H a vs) : SqC K H' a vs := by
 rcases h with ⟨o, h⟩ | h
 ·exact .inl ⟨o, t.2 _ _ _ h⟩
 ·exact .inr h
mutual
theorem R.mono (t : Tq H H') : ∀ {x : T} {v : V}, R H v x → R H' v x
 | .non, v, h => by unfold R at h ⊢; exact h
 | .bl _, v, h => by unfold R at h ⊢; exact h
 | .int _, v, h => by unfold R at h ⊢; exact h
 | .str _, v, h => by unfold R at h ⊢; exact h
 | .ref _, v, h => by unfold R at h ⊢; exact h
 | .ty _, v, h => by unfold R at h ⊢; exact h
 | .tup ts, v, h => by
  unfold R at h ⊢
  obtain ⟨a, vs, e, s, q⟩ := h
  exact ⟨a, vs, e, t.1 a vs s, Rs.mono t q⟩
 | .scr K a ts, v, h => by
  unfold R at h ⊢
  obtain ⟨e, vs, s, q⟩ := h
  exact ⟨e, vs, s.mono t, Rs.mono t q⟩
theorem Rs.mono (t : Tq H H') : ∀ {xs : List T} {vs : List V}, Rs H vs xs → Rs H' vs xs
 | [], vs, h => by unfold Rs at h ⊢; exact h
 | x :: r, vs, h => by
  unfold Rs at h ⊢
  obtain ⟨v, ws, e, p, q⟩ := h
  exact ⟨v, ws, e, R.mono t p, Rs.mono t q⟩
end
theorem Rs.length : ∀ {xs : List T} {vs : List V}, Rs H vs xs → vs.length = xs.length
 | [], vs, h => by unfold Rs at h; subst h; rfl
 | x :: r, vs, h => by
  unfold Rs at h
  obtain ⟨v, ws, e, _, q⟩ := h
  rw [e, List.length_cons, List.length_cons, Rs.length q]
theorem Rs.get : ∀ {xs : List T} {vs : List V} {i : Nat} {x : T}, Rs H vs xs → xs[i]? = some x → ∃ v, vs[i]? = some v ∧ R H v x
 | [], vs, i, x, h, e => by simp at e
 | y :: r, vs, i, x, h, e => by
  unfold Rs at h
  obtain ⟨v, ws, e1, p, q⟩ := h
  subst e1
  cases i with
  | zero => cases e; exact ⟨v, rfl, p⟩
  | succ i => exact Rs.get (i := i) q e
theorem Rs.getV {xs : List T} {vs : List V} {i : Nat} {v : V} (h : Rs H vs xs) (e : vs[i]? = some v) : ∃ x, xs[i]? = some x ∧ R H v x := by
 have hl := h.length
 obtain ⟨hi, _⟩ := List.getElem?_eq_some_iff.mp e
 have hi' : i < xs.length := by omega
 obtain ⟨v', e', r⟩ := h.get (i := i) (x := xs[i]) (by simp [hi'])
 rw [e] at e'; cases e'
 exact ⟨xs[i], by simp [hi'], r⟩
theorem Rs.app : ∀ {xs ys : List T} {vs ws : List V}, Rs H vs xs → Rs H ws ys → Rs H (vs ++ ws) (xs ++ ys)
 | [], ys, vs, ws, h, h' => by unfold Rs at h; subst h; exact h'
 | x :: r, ys, vs, ws, h, h' => by
  unfold Rs at h
  obtain ⟨v, us, e, p, q⟩ := h
  subst e
  show Rs H (v :: (us ++ ws)) (x :: (r ++ ys))
  unfold Rs
  exact ⟨v, _, rfl, p, Rs.app q h'⟩
theorem rs_nil : Rs H [] [] := by unfold Rs; rfl
theorem rs_cons {v : V} {x : T} {vs : List V} {xs : List T} (a : R H v x) (b : Rs H vs xs) : Rs H (v :: vs) (x :: xs) := by
 unfold Rs; exact ⟨v, vs, rfl, a, b⟩
theorem rs_inv {vs : List V} {x : T} {xs : List T} (h : Rs H vs (x :: xs)) : ∃ v ws, vs = v :: ws ∧ R H v x ∧ Rs H ws xs := by unfold Rs at h; exact h
theorem rs_inv0 {vs : List V} (h : Rs H vs []) : vs = [] := by unfold Rs at h; exact h
theorem Rs.drop : ∀ {xs : List T} {vs : List V} (n : Nat), Rs H vs xs → Rs H (vs.drop n) (xs.drop n)
 | xs, vs, 0, h => h
 | [], vs, n + 1, h => by rw [rs_inv0 h]; exact rs_nil
 | x :: r, vs, n + 1, h => by
  obtain ⟨v, ws, e, _, q⟩ := rs_inv h
  subst e
  exact Rs.drop n q
theorem Rs.take : ∀ {xs : List T} {vs : List V} (n : Nat), Rs H vs xs → Rs H (vs.take n) (xs.take n)
 | xs, vs, 0, h => by rw [List.take_zero, List.take_zero]; exact rs_nil
 | [], vs, n + 1, h => by rw [rs_inv0 h]; exact rs_nil
 | x :: r, vs, n + 1, h => by
  obtain ⟨v, ws, e, p, q⟩ := rs_inv h
  subst e
  exact rs_cons p (Rs.take n q)
theorem Rs.reverse : ∀ {xs : List T} {vs : List V}, Rs H vs xs → Rs H vs.reverse xs.reverse
 | [], vs, h => by rw [rs_inv0 h]; exact rs_nil
 | x :: r, vs, h => by
  obtain ⟨v, ws, e, p, q⟩ := rs_inv h
  subst e
  rw [List.reverse_cons, List.reverse_cons]
  exact Rs.app (Rs.reverse q) (rs_cons p rs_nil)
theorem Rs.set : ∀ {xs : List T} {vs : List V} {v : V} {x : T} (n : Nat), Rs H vs xs → R H v x → Rs H (vs.set n v) (xs.set n x)
 | [], vs, v, x, n, h, p => by rw [rs_inv0 h]; exact rs_nil
 | y :: r, vs, v, x, 0, h, p => by
  obtain ⟨u, ws, e, _, q⟩ := rs_inv h
  subst e
  exact rs_cons p q
 | y :: r, vs, v, x, n + 1, h, p => by
  obtain ⟨u, ws, e, p', q⟩ := rs_inv h
  subst e
  exact rs_cons p' (Rs.set n q p)
end
def Fs (H : Hp) : List (Str × V) → List (Str × T) → Prop := Paired fun (p : Str × V) (q : Str × T) => p.1 = q.1 ∧ R H p.2 q.2
def Ks (H : Hp) : List (Key × V) → List (Key × T) → Prop := Paired fun (p : Key × V) (q : Key × T) => p.1 = q.1 ∧ R H p.2 q.2
theorem paired_imp {α β : Type} {P Q : α → β → Prop} (h : ∀ a b, P a b → Q a b) : ∀ {xs : List α} {ys : List β}, Paired P xs ys → Paired Q xs ys
 | _, _, .nil => .nil
 | _, _, .cons a b => .cons (h _ _ a) (paired_imp h b)
theorem Fs.mono {H H' : Hp} (t : Tq H H') {a : List (Str × V)} {b : List (Str × T)} (h : Fs H a b) : Fs H' a b := paired_imp (fun _ _ q => ⟨q.1, q.2.mono t⟩) h
theorem Ks.mono {H H' : Hp} (t : Tq H H') {a : List (Key × V)} {b : List (Key × T)} (h : Ks H a b) : Ks H' a b := paired_imp (fun _ _ q => ⟨q.1, q.2.mono t⟩) h
def Ho (H : Hp) (a : Addr) : O → Prop
 | .lst ts => ∃ vs, H a = some (.lst vs) ∧ Rs H vs ts
 | .ins C dx fs => ∃ gs, H a = some (.ins C dx gs) ∧ Fs H gs fs
 | .own x => H a = some (.own x)
 | .dK kvs => ∃ us, H a = some (.dK us) ∧ Ks H us kvs
 | .ext φ => H a = some (.ext φ)
def HR (H : Hp) (Γ : Gp) : Prop := ∀ a o, Γ a = some o → Ho H a o
structure Stp (H : Hp) (Γ : Gp) (H' : Hp) (Γ' : Gp) : Prop where
 tq : Tq H H'
 dom : ∀ a, H a ≠ none → H' a ≠ none
 new : ∀ a, H a ≠ none → Γ a = none → Γ' a = none
 frm : ∀ a o, H a = some o → Γ a = none → H' a = some o
section
variable {H H' H1 : Hp} {Γ Γ' Γ1 : Gp}
theorem Stp.refl : Stp H Γ H Γ := ⟨.refl, fun _ h => h, fun _ _ h => h, fun _ _ h _ => h⟩
theorem Stp.trans (a : Stp H Γ H1 Γ1) (b : Stp H1 Γ1 H' Γ') : Stp H Γ H' Γ' :=
 ⟨a.tq.trans b.tq, fun x h => b.dom x (a.dom x h), fun x h g => b.new x (a.dom x h) (a.new x h g), fun x o h g => b.frm x o (a.frm x o h g) (a.new x (by rw [h]; exact fun z => (nomatch z)) g)⟩
theorem Ho.mono {a : Addr} {o : O} (t : Tq H H') (e : ∀ u, H a = some u → H' a = some u) (h : Ho H a o) : Ho H' a o := by
 cases o with
 | lst ts => obtain ⟨vs, h, r⟩ := h; exact ⟨vs, e _ h, r.mono t⟩
 | ins C dx fs => obtain ⟨vs, h, r⟩ := h; exact ⟨vs, e _ h, r.mono t⟩
 | own x => exact e _ h
 | dK kvs => obtain ⟨vs, h, r⟩ := h; exact ⟨vs, e _ h, r.mono t⟩
 | ext φ => exact e _ h
theorem Ho.some {a : Addr} {o : O} (h : Ho H a o) : ∃ u, H a = some u ∧ (∀ vs : List V, u ≠ .tup vs) ∧ ∀ b w, u ≠ .frz b w := by
 cases o with
 | lst ts => obtain ⟨vs, h, r⟩ := h; exact ⟨_, h, ⟨fun _ z => (nomatch z), fun _ _ z => (nomatch z)⟩⟩
 | ins C dx fs => obtain ⟨vs, h, r⟩ := h; exact ⟨_, h, ⟨fun _ z => (nomatch z), fun _ _ z => (nomatch z)⟩⟩
 | own x => exact ⟨_, h, ⟨fun _ z => (nomatch z), fun _ _ z => (nomatch z)⟩⟩
 | dK kvs => obtain ⟨vs, h, r⟩ := h; exact ⟨_, h, ⟨fun _ z => (nomatch z), fun _ _ z => (nomatch z)⟩⟩
 | ext φ => exact ⟨_, h, ⟨fun _ z => (nomatch z), fun _ _ z => (nomatch z)⟩⟩
theorem HR.free (h : HR H Γ) {a : Addr} (n : H a = none) : Γ a = none := by
 cases e : Γ a with
 | none => rfl
 | some o =>
  obtain ⟨u, hu, _⟩ := (h a o e).some
  rw [n] at hu; cases hu
theorem tq_kp (k : ∀ b o, H b = some o → H' b = some o) : Tq H H' := ⟨fun a vs h => k _ _ h, fun a o u h => k _ _ h⟩
theorem Stp.keep (k : ∀ b o, H b = some o → H' b = some o) : Stp H Γ H' Γ :=
 ⟨tq_kp k, fun a h z => by
  cases e : H a with
  | none => exact h e
  | some o => exact (by rw [k a o e] at z; cases z), fun _ _ h => h, fun a o h _ => k a o h⟩
theorem HR.keep (h : HR H Γ) (k : ∀ b o, H b = some o → H' b = some o) : HR H' Γ := fun a o e => (h a o e).mono (tq_kp k) (k a)
theorem keep_new {p : Addr} {o : HO} (h : H p = none) : ∀ b u, H b = some u → upd H p o b = some u := fun b u q => by rw [upd_ne (ne_of_none q h)]; exact q
theorem Stp.make {p : Addr} {o : HO} {o3 : O} (h : H p = none) : Stp H Γ (upd H p o) (up Γ p o3) := by
 refine ⟨tq_kp (keep_new h), fun a q z => ?_, fun a q g => ?_, fun a u q _ => keep_new h a u q⟩
 ·by_cases e : a = p
  ·subst e; exact q h
  ·rw [upd_ne e] at z; exact q z
 ·have e : a ≠ p := fun e => q (by rw [e]; exact h)
  rw [up_ne e]; exact g
theorem HR.make (hr : HR H Γ) {p : Addr} {o : HO} {o3 : O} (h : H p = none) (k : Ho (upd H p o) p o3) : HR (upd H p o) (up Γ p o3) := fun a u e => by
 by_cases z : a = p
 ·subst z; rw [up_same] at e; cases e; exact k
 ·rw [up_ne z] at e
  exact (hr a u e).mono (tq_kp (keep_new h)) fun _ q => by rw [upd_ne z]; exact q
theorem tq_set {a : Addr} {o u : HO} (h : H a = some u) (n : (∀ vs : List V, u ≠ .tup vs) ∧ ∀ b w, u ≠ .frz b w) : Tq H (upd H a o) := ⟨fun x vs q => by
 have : x ≠ a := fun e => by subst e; rw [h] at q; exact n.1 vs (Option.some.inj q)
 rw [upd_ne this]; exact q, fun x b w q => by
 have : x ≠ a := fun e => by subst e; rw [h] at q; exact n.2 b w (Option.some.inj q)
 rw [upd_ne this]; exact q⟩
theorem Stp.set {a : Addr} {o : HO} {o2 o3 : O} (hr : HR H Γ) (g : Γ a = some o2) : Stp H Γ (upd H a o) (up Γ a o3) := by
 obtain ⟨u, hu, n⟩ := (hr a o2 g).some
 refine ⟨tq_set hu n, fun x q z => ?_, fun x q g' => ?_, fun x w q g' => ?_⟩
 ·by_cases e : x = a
  ·subst e; rw [upd_same] at z; cases z
  ·rw [upd_ne e] at z; exact q z
 ·have e : x ≠ a := fun e => by subst e; rw [g] at g'; cases g'
  rw [up_ne e]; exact g'
 ·have e : x ≠ a := fun e => by subst e; rw [g] at g'; cases g'
  rw [upd_ne e]; exact q
theorem HR.set {a : Addr} {o : HO} {o2 o3 : O} (hr : HR H Γ) (g : Γ a = some o2) (k : Ho (upd H a o) a o3) : HR (upd H a o) (up Γ a o3) := fun x u e => by
 obtain ⟨w, hw, n⟩ := (hr a o2 g).some
 by_cases z : x = a
 ·subst z; rw [up_same] at e; cases e; exact k
 ·rw [up_ne z] at e
  exact (hr x u e).mono (tq_set hw n) fun _ q => by rw [upd_ne z]; exact q
theorem HR.hide {a : Addr} {o u : HO} (hr : HR H Γ) (g : Γ a = none) (h : H a = some u) (n : (∀ vs : List V, u ≠ .tup vs) ∧ ∀ b w, u ≠ .frz b w) : HR (upd H a o) Γ := fun x w e => by
 have z : x ≠ a := fun z => by subst z; rw [g] at e; cases e
 exact (hr x w e).mono (tq_set h n) fun _ q => by rw [upd_ne z]; exact q
end
abbrev S3 := List (Option T)
abbrev X3 := S3 → Value → Gp → Prop
abbrev K3 := T → Gp → Prop
abbrev E3 := X3 → S3 → Gp → K3 → Prop
abbrev T3 := X3 → S3 → Gp → (Bool → Gp → Prop) → Prop
abbrev A3 := X3 → S3 → Gp → (List T → Gp → Prop) → Prop
structure D3 where
 nx : S3 → Gp → Prop
 rt : K3
 bk : S3 → Gp → Prop := fun _ _ => False
 ct : S3 → Gp → Prop := fun _ _ => False
abbrev C3 := X3 → D3 → S3 → Gp → Prop
def RO1 (H : Hp) : Option V → Option T → Prop
 | _, none => True
 | some v, some x => R H v x
 | none, some _ => False
def RS (H : Hp) : St → S3 → Prop
 | [], [] => True
 | v :: r, x :: q => RO1 H v x ∧ RS H r q
 | _, _ => False
section
variable {H H' : Hp} {Γ Γ' : Gp}
theorem RO1.mono (t : Tq H H') {v : Option V} {x : Option T} (h : RO1 H v x) : RO1 H' v x := by
 cases x with
 | none => exact trivial
 | some x => cases v with
  | none => exact h.elim
  | some v => exact R.mono t h
theorem RS.mono (t : Tq H H') : ∀ {σ : St} {τ : S3}, RS H σ τ → RS H' σ τ
 | [], [], _ => trivial
 | _ :: _, _ :: _, h => ⟨h.1.mono t, RS.mono t h.2⟩
 | [], _ :: _, h => h.elim
 | _ :: _, [], h => h.elim
theorem RS.get : ∀ {σ : St} {τ : S3} {i : Nat} {x : T}, RS H σ τ → τ[i]? = some (some x) → ∃ v, σ[i]? = some (some v) ∧ R H v x
 | [], [], i, x, _, e => by simp at e
 | v :: r, y :: q, i, x, h, e => by
  cases i with
  | zero =>
   cases e
   cases v with
   | none => exact h.1.elim
   | some v => exact ⟨v, rfl, h.1⟩
  | succ i => exact RS.get (i := i) h.2 e
 | [], _ :: _, _, _, h, _ => h.elim
 | _ :: _, [], _, _, h, _ => h.elim
theorem RS.set {v : V} {x : T} (r : R H v x) : ∀ {σ : St} {τ : S3} (i : Nat), RS H σ τ → RS H (σ.set i (some v)) (τ.set i (some x))
 | [], [], _, _ => trivial
 | _ :: _, _ :: _, 0, h => ⟨r, h.2⟩
 | _ :: _, _ :: _, i + 1, h => ⟨h.1, RS.set r i h.2⟩
 | [], _ :: _, _, h => h.elim
 | _ :: _, [], _, h => h.elim
theorem RS.len : ∀ {σ : St} {τ : S3}, RS H σ τ → σ.length = τ.length
 | [], [], _ => rfl
 | _ :: _, _ :: _, h => by rw [List.length_cons, List.length_cons, RS.len h.2]
 | [], _ :: _, h => h.elim
 | _ :: _, [], h => h.elim
def XR (H : Hp) (Γ : Gp) (Y : X3) (E : St → XK) : Prop := ∀ σ τ C H' Γ', Stp H Γ H' Γ' → HR H' Γ' → RS H' σ τ → Y τ C Γ' → E σ C none H'
theorem XR.mono {Y : X3} {E : St → XK} (x : XR H Γ Y E) (s : Stp H Γ H' Γ') : XR H' Γ' Y E := fun σ τ C H2 Γ2 s2 h2 r y => x σ τ C H2 Γ2 (s.trans s2) h2 r y
def VR (H : Hp) (Γ : Gp) (Z : K3) (Q : VK) : Prop := ∀ v x H' Γ', Stp H Γ H' Γ' → HR H' Γ' → R H' v x → Z x Γ' → Q v H'
theorem VR.mono {Z : K3} {Q : VK} (x : VR H Γ Z Q) (s : Stp H Γ H' Γ') : VR H' Γ' Z Q := fun v x' H2 Γ2 s2 h2 r y => x v x' H2 Γ2 (s.trans s2) h2 r y
def NR (H : Hp) (Γ : Gp) (Z : S3 → Gp → Prop) (Q : St → Hp → Prop) : Prop := ∀ σ τ H' Γ', Stp H Γ H' Γ' → HR H' Γ' → RS H' σ τ → Z τ Γ' → Q σ H'
theorem NR.mono {Z : S3 → Gp → Prop} {Q : St → Hp → Prop} (x : NR H Γ Z Q) (s : Stp H Γ H' Γ') : NR H' Γ' Z Q := fun v x' H2 Γ2 s2 h2 r y => x v x' H2 Γ2 (s.trans s2) h2 r y
structure DR (H : Hp) (Γ : Gp) (Z : D3) (Q : Ends) : Prop where
 nx : NR H Γ Z.nx Q.nx
 rt : VR H Γ Z.rt Q.rt
 bk : NR H Γ Z.bk Q.bk
 ct : NR H Γ Z.ct Q.ct
theorem DR.mono {Z : D3} {Q : Ends} (x : DR H Γ Z Q) (s : Stp H Γ H' Γ') : DR H' Γ' Z Q := ⟨x.nx.mono s, x.rt.mono s, x.bk.mono s, x.ct.mono s⟩
end
section
variable (E : St → XK)
def liE (t : E3) : TE := fun σ H Q => ∃ τ Γ Y Z, RS H σ τ ∧ HR H Γ ∧ t Y τ Γ Z ∧ VR H Γ Z Q ∧ XR H Γ Y E
def liT (t : T3) : TT := fun σ H Q => ∃ τ Γ Y Z, RS H σ τ ∧ HR H Γ ∧ t Y τ Γ Z ∧ (∀ b H' Γ', Stp H Γ H' Γ' → HR H' Γ' → Z b Γ' → Q b H') ∧ XR H Γ Y E
def liA (t : A3) : TA := fun σ H Q => ∃ τ Γ Y Z, RS H σ τ ∧ HR H Γ ∧ t Y τ Γ Z ∧ (∀ vs xs H' Γ', Stp H Γ H' Γ' → HR H' Γ' → Rs H' vs xs → Z xs Γ' → Q vs H') ∧ XR H Γ Y E
def liS (t : C3) : TS := fun D σ H => ∃ τ Γ Y Z, RS H σ τ ∧ HR H Γ ∧ t Y Z τ Γ ∧ DR H Γ Z D ∧ XR H Γ Y E
end
end L3
set_option Elab.async false
set_option linter.all false
set_option maxRecDepth 100000
namespace L3
open PySem PySem.Spec L2
open PyProof.Rows hiding St
section
variable {X : Cx} {E : St → XK}
theorem weakE {e : Expr} {t t' : TE} (h : PE X e t) (w : ∀ σ H Q, t' σ H Q → t σ H Q) : PE X e t' := ⟨fun pins s σ H Q I q => h.run pins s σ H Q I (w _ _ _ q)⟩
theorem weakT {e : Expr} {t t' : TT} (h : PT X e t) (w : ∀ σ H Q, t' σ H Q → t σ H Q) : PT X e t' := ⟨fun pins s σ H Q I q => h.run pins s σ H Q I (w _ _ _ q)⟩
theorem weakW {e : Expr} {t t' : TT} (h : PW X e t) (w : ∀ σ H Q, t' σ H Q → t σ H Q) : PW X e t' := ⟨fun wh pins s σ H Q I q => h.run wh pins s σ H Q I (w _ _ _ q)⟩
theorem weakA {e : List Expr} {t t' : TA} (h : PA X e t) (w : ∀ σ H Q, t' σ H Q → t σ H Q) : PA X e t' := ⟨fun pos pins s σ H Q I q => h.run pos pins s σ H Q I (w _ _ _ q)⟩
theorem weakS {e : Stmt} {t t' : TS} (h : PS X e t) (w : ∀ D σ H, t' D σ H → t D σ H) : PS X e t' := ⟨fun pins s σ H D I q => h.run pins s σ H D I (w _ _ _ q)⟩
theorem weakSs {e : List Stmt} {t t' : TS} (h : PSs X e t) (w : ∀ D σ H, t' D σ H → t D σ H) : PSs X e t' := ⟨fun pins s σ H D I q => h.run pins s σ H D I (w _ _ _ q)⟩
theorem weakG {e : Expr} {t t' : TG} (h : PG X e t) (w : ∀ v σ H Q, t' v σ H Q → t v σ H Q) : PG X e t' := ⟨fun pins s σ H v u Q I r q => h.run pins s σ H v u Q I r (w _ _ _ _ q)⟩
theorem weakGs {e : List Expr} {t t' : TGs} (h : PGs X e t) (w : ∀ v σ H Q, t' v σ H Q → t v σ H Q) : PGs X e t' := ⟨fun pins s σ H v u Q I r q => h.run pins s σ H v u Q I r (w _ _ _ _ q)⟩
theorem weakI {tg e : Expr} {t t' : TI} (h : PI X tg e t) (w : ∀ σ H Q, t' σ H Q → t σ H Q) : PI X tg e t' := ⟨fun pins s σ H Q I q => h.run pins s σ H Q I (w _ _ _ q)⟩
theorem weakTs {e : List Expr} {t t' : TT} (h : PTs X e t) (w : ∀ σ H Q, t' σ H Q → t σ H Q) : PTs X e t' := ⟨fun pins s σ H Q I q => h.run pins s σ H Q I (w _ _ _ q)⟩
theorem weakE3 {e : Expr} {t0 : TE} {t : E3} (h : PE X e t0) (w : ∀ σ H Q τ Γ Y Z, RS H σ τ → HR H Γ → t Y τ Γ Z → VR H Γ Z Q → XR H Γ Y E → t0 σ H Q) : PE X e (liE E t) :=
 weakE h (by rintro σ H Q ⟨τ, Γ, Y, Z, rs, hr, q, vr, xr⟩; exact w σ H Q τ Γ Y Z rs hr q vr xr)
theorem weakT3 {e : Expr} {t0 : TT} {t : T3} (h : PT X e t0) (w : ∀ σ H Q τ Γ Y Z, RS H σ τ → HR H Γ → t Y τ Γ Z → (∀ b H' Γ', Stp H Γ H' Γ' → HR H' Γ' → Z b Γ' → Q b H') → XR H Γ Y E → t0 σ H Q) : PT X e (liT E t) :=
 weakT h (by rintro σ H Q ⟨τ, Γ, Y, Z, rs, hr, q, vr, xr⟩; exact w σ H Q τ Γ Y Z rs hr q vr xr)
theorem weakW3 {e : Expr} {t0 : TT} {t : T3} (h : PW X e t0) (w : ∀ σ H Q τ Γ Y Z, RS H σ τ → HR H Γ → t Y τ Γ Z → (∀ b H' Γ', Stp H Γ H' Γ' → HR H' Γ' → Z b Γ' → Q b H') → XR H Γ Y E → t0 σ H Q) : PW X e (liT E t) :=
 weakW h (by rintro σ H Q ⟨τ, Γ, Y, Z, rs, hr, q, vr, xr⟩; exact w σ H Q τ Γ Y Z rs hr q vr xr)
theorem weakA3 {e : List Expr} {t0 : TA} {t : A3} (h : PA X e t0) (w : ∀ σ H Q τ Γ Y Z, RS H σ τ → HR H Γ → t Y τ Γ Z → (∀ vs xs H' Γ', Stp H Γ H' Γ' → HR H' Γ' → Rs H' vs xs → Z xs Γ' → Q vs H') → XR H Γ Y E → t0 σ H Q) : PA X e (liA E t) :=
 weakA h (by rintro σ H Q ⟨τ, Γ, Y, Z, rs, hr, q, vr, xr⟩; exact w σ H Q τ Γ Y Z rs hr q vr xr)
theorem weakTs3 {e : List Expr} {t0 : TT} {t : T3} (h : PTs X e t0) (w : ∀ σ H Q τ Γ Y Z, RS H σ τ → HR H Γ → t Y τ Γ Z → (∀ b H' Γ', Stp H Γ H' Γ' → HR H' Γ' → Z b Γ' → Q b H') → XR H Γ Y E → t0 σ H Q) : PTs X e (liT E t) :=
 weakTs h (by rintro σ H Q ⟨τ, Γ, Y, Z, rs, hr, q, vr, xr⟩; exact w σ H Q τ Γ Y Z rs hr q vr xr)
theorem weakS3 {e : Stmt} {t0 : TS} {t : C3} (h : PS X e t0) (w : ∀ D σ H τ Γ Y Z, RS H σ τ → HR H Γ → t Y Z τ Γ → DR H Γ Z D → XR H Γ Y E → t0 D σ H) : PS X e (liS E t) :=
 weakS h (by rintro D σ H ⟨τ, Γ, Y, Z, rs, hr, q, dr, xr⟩; exact w D σ H τ Γ Y Z rs hr q dr xr)
theorem weakSs3 {e : List Stmt} {t0 : TS} {t : C3} (h : PSs X e t0) (w : ∀ D σ H τ Γ Y Z, RS H σ τ → HR H Γ → t Y Z τ Γ → DR H Γ Z D → XR H Γ Y E → t0 D σ H) : PSs X e (liS E t) :=
 weakSs h (by rintro D σ H ⟨τ, Γ, Y, Z, rs, hr, q, dr, xr⟩; exact w D σ H τ Γ Y Z rs hr q dr xr)
section
variable {H : Hp}
theorem r_non : R H .non .non := by unfold R; rfl
theorem r_bl {b : Bool} : R H (.bl b) (.bl b) := by unfold R; rfl
theorem r_int {i : Int} : R H (.int i) (.int i) := by unfold R; rfl
theorem r_str {z : Str} : R H (.str z) (.str z) := by unfold R; rfl
theorem r_ref {a : Addr} : R H (.ref a) (.ref a) := by unfold R; rfl
theorem r_ty {a : String} : R H (.ty a) (.ty a) := by unfold R; rfl
theorem r_tup {a : Addr} {vs : List V} {ts : List T} (h : H a = some (.tup vs)) (r : Rs H vs ts) : R H (.ref a) (.tup ts) := by unfold R; exact ⟨a, vs, rfl, h, r⟩
theorem i_non {v : V} (h : R H v .non) : v = .non := by unfold R at h; exact h
theorem i_bl {v : V} {b : Bool} (h : R H v (.bl b)) : v = .bl b := by unfold R at h; exact h
theorem i_int {v : V} {b : Int} (h : R H v (.int b)) : v = .int b := by unfold R at h; exact h
theorem i_str {v : V} {b : Str} (h : R H v (.str b)) : v = .str b := by unfold R at h; exact h
theorem i_ref {v : V} {b : Addr} (h : R H v (.ref b)) : v = .ref b := by unfold R at h; exact h
theorem i_ty {v : V} {b : String} (h : R H v (.ty b)) : v = .ty b := by unfold R at h; exact h
theorem i_scr {K : PySem.W.Frag} {v : V} {a : Addr} {ts : List T} (h : R H v (.scr K a ts)) : v = .ref a ∧ ∃ vs, SqC K H a vs ∧ Rs H vs ts := by unfold R at h; exact h
theorem r_scr {K : PySem.W.Frag} {a : Addr} {vs : List V} {ts : List T} (h : SqC K H a vs) (q : Rs H vs ts) : R H (.ref a) (.scr K a ts) := by unfold R; exact ⟨rfl, vs, h, q⟩
theorem SqC.sq {K : PySem.W.Frag} {a : Addr} {vs : List V} (h : SqC K H a vs) : SqL K H a vs := by
 rcases h with ⟨o, h⟩ | h
 ·exact .inl (.inr ⟨o, h⟩)
 ·exact .inr h
theorem i_tup {v : V} {ts : List T} (h : R H v (.tup ts)) : ∃ a vs, v = .ref a ∧ H a = some (.tup vs) ∧ Rs H vs ts := by unfold R at h; exact h
end
def eVar (i : Nat) : E3 := fun _ τ Γ Z => ∃ x, τ[i]? = some (some x) ∧ Z x Γ
def eC (x : T) : E3 := fun _ _ Γ Z => Z x Γ
theorem qv (i : Nat) {x : Str} {pos : Pos} (hN : X.N[i]? = some x := by rfl) (hv : Vis X.env.scope x := by first | exact Or.inl rfl | exact Or.inr (Or.inl rfl) | exact Or.inr (Or.inr rfl)) (hd : (x == ("__debug__" : Str)) = false := by decide)
  (hcd : (x == ("__classdict__" : Str)) = false := by decide) : PE X (.Name x pos) (liE E (eVar i)) :=
 weakE3 (pe_var hN hv hd hcd) fun σ H Q τ Γ Y Z rs hr q0 vr xr => by
  obtain ⟨x, e, z⟩ := q0
  obtain ⟨v, hv, r⟩ := rs.get e
  exact ⟨v, hv, vr v x H Γ .refl hr r z⟩
theorem q_c {e : Expr} {v : V} {x : T} (h : PE X e (tC v)) (r : ∀ H, R H v x) : PE X e (liE E (eC x)) :=
 weakE3 h fun σ H Q τ Γ Y Z rs hr z vr xr => vr v x H Γ .refl hr (r H) z
theorem qe_int {i j pos} : PE X (.Constant (.int i) j pos) (liE E (eC (.int i))) := q_c pe_int fun _ => r_int
theorem qe_bl {b j pos} : PE X (.Constant (.bool b) j pos) (liE E (eC (.bl b))) := q_c pe_bl fun _ => r_bl
theorem qe_non {j pos} : PE X (.Constant .none j pos) (liE E (eC .non)) := q_c pe_non fun _ => r_non
theorem qe_str {x j pos} : PE X (.Constant (.str x) j pos) (liE E (eC (.str x))) := q_c pe_str fun _ => r_str
def GlobIs (u : Value) (x : T) : Prop := ∃ v, RelV v u ∧ ∀ H, R H v x
theorem qe_glob {x : Str} {t : T} {u : Value} {pos : Pos} (hg : Gl X x) (hm : X.mg x = some u) (r : GlobIs u t) (hd : (x == ("__debug__" : Str)) = false := by decide) : PE X (.Name x pos) (liE E (eC t)) := by
 obtain ⟨v, r, h⟩ := r
 exact q_c (pe_glob hg hm r hd) h
theorem gl_int {i : Int} {u : Value} (h : RelV (.int i) u) : GlobIs u (.int i) := ⟨_, h, fun _ => r_int⟩
theorem gl_ref {i : Addr} : GlobIs (.ref i) (.ref i) := ⟨.ref i, rfl, fun _ => r_ref⟩
theorem qe_bltn {x : Str} {n : String} {u : Value} {pos : Pos} (hg : Gl X x) (hm : X.mg x = none) (hv : bootBuiltins x = some u) (r : RelV (.ty n) u) (hn : x ≠ "__name__" := by decide) (hd : (x == ("__debug__" : Str)) = false := by decide) : PE X (.Name x pos) (liE E (eC (.ty n))) :=
 q_c (pe_bltn hg hm hv r hn hd) fun _ => r_ty
abbrev R3 := T → T → Gp → K3 → Prop
def OpQ (X : Cx) (f : Value → Value → Sem Value) (r3 : R3) : Prop := ∃ r : R2, OpR X f r ∧ ∀ x y a b H Γ Q Z, R H x a → R H y b → HR H Γ → r3 a b Γ Z → VR H Γ Z Q → r x y H Q
def eOp (r3 : R3) (ta tb : E3) : E3 := fun Y τ Γ Z => ta Y τ Γ fun x Γ1 => tb Y τ Γ1 fun y Γ2 => r3 x y Γ2 Z
theorem op_sim {r : R2} {r3 : R3} {ta tb : E3} (h : ∀ x y a b H Γ Q Z, R H x a → R H y b → HR H Γ → r3 a b Γ Z → VR H Γ Z Q → r x y H Q) (σ : St) (H : Hp) (Q : VK) (q : liE E (eOp r3 ta tb) σ H Q) : tOp r (liE E ta) (liE E tb) σ H Q := by
 obtain ⟨τ, Γ, Y, Z, rs, hr, t, vr, xr⟩ := q
 refine ⟨τ, Γ, Y, _, rs, hr, t, fun v x H1 Γ1 s1 h1 r1 z1 => ?_, xr⟩
 refine ⟨τ, Γ1, Y, _, rs.mono s1.tq, h1, z1, fun u y H2 Γ2 s2 h2 r2 z2 => ?_, xr.mono s1⟩
 exact h v u x y H2 Γ2 Q Z (r1.mono s2.tq) r2 h2 z2 (vr.mono (s1.trans s2))
section
variable {a b c : Expr} {ta tb tc : E3} {pos : Pos} {op op' : CmpOp} {r3 r3' : R3}
theorem qe_op {op : Operator} (ho : OpQ X (binaryOp op) r3) (ha : PE X a (liE E ta)) (hb : PE X b (liE E tb)) : PE X (.BinOp a op b pos) (liE E (eOp r3 ta tb)) := by
 obtain ⟨r, ho, h⟩ := ho
 exact weakE (pe_op ho ha hb) (op_sim h)
theorem qe_cmpR (ho : OpQ X (compareOp op) r3) (ha : PE X a (liE E ta)) (hb : PE X b (liE E tb)) (hm : behindInMarks op b = false) : PE X (.Compare a [op] [b] pos) (liE E (eOp r3 ta tb)) := by
 obtain ⟨r, ho, h⟩ := ho
 exact weakE (pe_cmpR ho ha hb hm) (op_sim h)
def eT (t : E3) : T3 := fun Y τ Γ Z => t Y τ Γ fun x Γ1 => ∃ k, x = .bl k ∧ Z k Γ1
theorem test_sim {t2 : TE} {t : E3} (h : ∀ σ H Q, liE E t σ H Q → t2 σ H Q) (σ : St) (H : Hp) (Q : Bool → Hp → Prop) (q : liT E (eT t) σ H Q) : tTest t2 σ H Q := by
 obtain ⟨τ, Γ, Y, Z, rs, hr, t, vr, xr⟩ := q
 refine h σ H _ ⟨τ, Γ, Y, _, rs, hr, t, fun v x H1 Γ1 s1 h1 r1 z1 => ?_, xr⟩
 obtain ⟨k, rfl, z⟩ := z1
 exact ⟨k, i_bl r1, vr k H1 Γ1 s1 h1 z⟩
theorem qt_cmpR (ho : OpQ X (compareOp op) r3) (ha : PE X a (liE E ta)) (hb : PE X b (liE E tb)) (hm : behindInMarks op b = false) : PT X (.Compare a [op] [b] pos) (liT E (eT (eOp r3 ta tb))) := by
 obtain ⟨r, ho, h⟩ := ho
 exact weakT (pt_cmpR ho ha hb hm) (test_sim (op_sim h))
def eChain (r r' : R3) (ta tb tc : E3) : E3 := fun Y τ Γ Z => ta Y τ Γ fun x Γ1 => tb Y τ Γ1 fun y Γ2 => r x y Γ2 fun z Γ3 => ∃ k, z = .bl k ∧ (if k = true then tc Y τ Γ3 fun w' Γ4 => r' y w' Γ4 Z else Z (.bl false) Γ3)
theorem chain_sim {r r' : R2} (h : ∀ x y a b H Γ Q Z, R H x a → R H y b → HR H Γ → r3 a b Γ Z → VR H Γ Z Q → r x y H Q) (h' : ∀ x y a b H Γ Q Z, R H x a → R H y b → HR H Γ → r3' a b Γ Z → VR H Γ Z Q → r' x y H Q)
  (σ : St) (H : Hp) (Q : VK) (q : liE E (eChain r3 r3' ta tb tc) σ H Q) : tChain r r' (liE E ta) (liE E tb) (liE E tc) σ H Q := by
 obtain ⟨τ, Γ, Y, Z, rs, hr, t, vr, xr⟩ := q
 refine ⟨τ, Γ, Y, _, rs, hr, t, fun v x H1 Γ1 s1 h1 r1 z1 => ?_, xr⟩
 refine ⟨τ, Γ1, Y, _, rs.mono s1.tq, h1, z1, fun u y H2 Γ2 s2 h2 r2 z2 => ?_, xr.mono s1⟩
 refine h v u x y H2 Γ2 _ _ (r1.mono s2.tq) r2 h2 z2 fun d z H3 Γ3 s3 h3 r3 z3 => ?_
 obtain ⟨k, rfl, z3⟩ := z3
 refine ⟨k, i_bl r3, ?_⟩
 cases k with
 | false => exact vr _ _ H3 Γ3 ((s1.trans s2).trans s3) h3 r_bl z3
 | true =>
  refine ⟨τ, Γ3, Y, _, rs.mono ((s1.trans s2).trans s3).tq, h3, z3, fun w' y' H4 Γ4 s4 h4 r4 z4 => ?_, xr.mono ((s1.trans s2).trans s3)⟩
  exact h' u w' y y' H4 Γ4 Q Z (r2.mono (s3.trans s4).tq) r4 h4 z4 (vr.mono (((s1.trans s2).trans s3).trans s4))
theorem qt_chain (ho : OpQ X (compareOp op) r3) (ho' : OpQ X (compareOp op') r3') (ha : PE X a (liE E ta)) (hb : PE X b (liE E tb)) (hc : PE X c (liE E tc)) (hm : lastMarks [op, op'] [b, c] = false := by with_unfolding_all rfl) :
  PT X (.Compare a [op, op'] [b, c] pos) (liT E (eT (eChain r3 r3' ta tb tc))) := by
 obtain ⟨r, ho, h⟩ := ho
 obtain ⟨r', ho', h'⟩ := ho'
 exact weakT (pt_chain ho ho' ha hb hc hm) (test_sim (chain_sim h h'))
def eAnd (ta tb : E3) : E3 := fun Y τ Γ Z => ta Y τ Γ fun x Γ1 => ∃ c, x = .bl c ∧ if c = true then tb Y τ Γ1 Z else Z (.bl false) Γ1
def eOr (ta tb : E3) : E3 := fun Y τ Γ Z => ta Y τ Γ fun x Γ1 => ∃ c, x = .bl c ∧ if c = true then Z (.bl true) Γ1 else tb Y τ Γ1 Z
def eNot (ta : E3) : E3 := fun Y τ Γ Z => ta Y τ Γ fun x Γ1 => ∃ c, x = .bl c ∧ Z (.bl (!c)) Γ1
theorem qe_one {op} (h : PE X a (liE E ta)) : PE X (.BoolOp op [a] pos) (liE E ta) := pe_one h
theorem qe_and {rest : List Expr} (ha : PE X a (liE E ta)) (hb : PE X (.BoolOp .And (b :: rest) pos) (liE E tb)) : PE X (.BoolOp .And (a :: b :: rest) pos) (liE E (eAnd ta tb)) :=
 weakE3 (pe_and ha hb) fun σ H Q τ Γ Y Z rs hr t vr xr => by
  refine ⟨τ, Γ, Y, _, rs, hr, t, fun v x H1 Γ1 s1 h1 r1 z1 => ?_, xr⟩
  obtain ⟨k, rfl, z1⟩ := z1
  refine ⟨k, i_bl r1, ?_⟩
  cases k with
  | false => exact vr _ _ H1 Γ1 s1 h1 r_bl z1
  | true => exact ⟨τ, Γ1, Y, Z, rs.mono s1.tq, h1, z1, vr.mono s1, xr.mono s1⟩
theorem qe_not (ha : PE X a (liE E ta)) : PE X (.UnaryOp .Not a pos) (liE E (eNot ta)) :=
 weakE3 (pe_not ha) fun σ H Q τ Γ Y Z rs hr t vr xr => by
  refine ⟨τ, Γ, Y, _, rs, hr, t, fun v x H1 Γ1 s1 h1 r1 z1 => ?_, xr⟩
  obtain ⟨k, rfl, z1⟩ := z1
  exact ⟨k, i_bl r1, vr _ _ H1 Γ1 s1 h1 r_bl z1⟩
variable {tA tB : T3}
def bAnd (t u : T3) : T3 := fun Y τ Γ Z => t Y τ Γ fun c Γ1 => if c = true then u Y τ Γ1 Z else Z false Γ1
def bOr (t u : T3) : T3 := fun Y τ Γ Z => t Y τ Γ fun c Γ1 => if c = true then Z true Γ1 else u Y τ Γ1 Z
def bNot (t : T3) : T3 := fun Y τ Γ Z => t Y τ Γ fun c Γ1 => Z (!c) Γ1
theorem qw_and1 (ha : PT X a (liT E tA)) : PW X (.BoolOp .And [a] pos) (liT E tA) := pw_and1 ha
theorem qw_or1 (ha : PT X a (liT E tA)) : PW X (.BoolOp .Or [a] pos) (liT E tA) := pw_or1 ha
theorem qw_and {rest : List Expr} (ha : PT X a (liT E tA)) (hb : PW X (.BoolOp .And (b :: rest) pos) (liT E tB)) : PW X (.BoolOp .And (a :: b :: rest) pos) (liT E (bAnd tA tB)) :=
 weakW3 (pw_and ha hb) fun σ H Q τ Γ Y Z rs hr t vr xr => by
  refine ⟨τ, Γ, Y, _, rs, hr, t, fun k H1 Γ1 s1 h1 z1 => ?_, xr⟩
  cases k with
  | false => exact vr _ H1 Γ1 s1 h1 z1
  | true => exact ⟨τ, Γ1, Y, Z, rs.mono s1.tq, h1, z1, fun b H2 Γ2 s2 h2 z2 => vr b H2 Γ2 (s1.trans s2) h2 z2, xr.mono s1⟩
theorem qw_or {rest : List Expr} (ha : PT X a (liT E tA)) (hb : PW X (.BoolOp .Or (b :: rest) pos) (liT E tB)) : PW X (.BoolOp .Or (a :: b :: rest) pos) (liT E (bOr tA tB)) :=
 weakW3 (pw_or ha hb) fun σ H Q τ Γ Y Z rs hr t vr xr => by
  refine ⟨τ, Γ, Y, _, rs, hr, t, fun k H1 Γ1 s1 h1 z1 => ?_, xr⟩
  cases k with
  | true => exact vr _ H1 Γ1 s1 h1 z1
  | false => exact ⟨τ, Γ1, Y, Z, rs.mono s1.tq, h1, z1, fun b H2 Γ2 s2 h2 z2 => vr b H2 Γ2 (s1.trans s2) h2 z2, xr.mono s1⟩
theorem qt_not (ha : PT X a (liT E tA)) : PT X (.UnaryOp .Not a pos) (liT E (bNot tA)) :=
 weakT3 (pt_not ha) fun σ H Q τ Γ Y Z rs hr t vr xr => ⟨τ, Γ, Y, _, rs, hr, t, fun k H1 Γ1 s1 h1 z1 => vr _ H1 Γ1 s1 h1 z1, xr⟩
theorem qt_val {e : Expr} {t : E3} (h : PE X e (liE E t)) (he : ∀ whole, isTrue e X.env whole = (do let v ← whole; standAt e.pos; holding [v] (truthy v)) := by intro _; rfl) : PT X e (liT E (eT t)) :=
 weakT (pt_val h he) (test_sim (t2 := liE E t) fun _ _ _ q => q)
def eIf (c : T3) (ta tb : E3) : E3 := fun Y τ Γ Z => c Y τ Γ fun k Γ1 => if k = true then ta Y τ Γ1 Z else tb Y τ Γ1 Z
end
section
variable {e : Expr} {es : List Expr} {te : E3} {t : A3} {pos : Pos}
def aNil : A3 := fun _ _ Γ Z => Z [] Γ
def aCons (ta : E3) (tr : A3) : A3 := fun Y τ Γ Z => ta Y τ Γ fun x Γ1 => tr Y τ Γ1 fun xs Γ2 => Z (x :: xs) Γ2
theorem qa_nil : PA X [] (liA E aNil) := weakA3 pa_nil fun σ H Q τ Γ Y Z rs hr t vr xr => vr [] [] H Γ .refl hr rs_nil t
theorem qa_cons (ha : PE X e (liE E te)) (hr : PA X es (liA E t)) (hs : starEach (e :: es) X.env = (false, eval e X.env) :: starEach es X.env := by rfl) : PA X (e :: es) (liA E (aCons te t)) :=
 weakA3 (pa_cons ha hr hs) fun σ H Q τ Γ Y Z rs hr t vr xr => by
  refine ⟨τ, Γ, Y, _, rs, hr, t, fun v x H1 Γ1 s1 h1 r1 z1 => ?_, xr⟩
  exact ⟨τ, Γ1, Y, _, rs.mono s1.tq, h1, z1, fun vs xs H2 Γ2 s2 h2 r2 z2 => vr (v :: vs) (x :: xs) H2 Γ2 (s1.trans s2) h2 (rs_cons (r1.mono s2.tq) r2) z2, xr.mono s1⟩
def eTup (t : A3) : E3 := fun Y τ Γ Z => t Y τ Γ fun xs Γ1 => xs.length ≤ sizeLine ∧ Z (.tup xs) Γ1
def eLst (t : A3) : E3 := fun Y τ Γ Z => t Y τ Γ fun xs Γ1 => xs.length ≤ sizeLine ∧ ∀ p, Γ1 p = none → Z (.ref p) (up Γ1 p (.lst xs))
theorem qe_tup {x1} (h : PA X es (liA E t)) : PE X (.Tuple es x1 pos) (liE E (eTup t)) :=
 weakE3 (pe_tup h) fun σ H Q τ Γ Y Z rs hr t vr xr => by
  refine ⟨τ, Γ, Y, _, rs, hr, t, fun vs xs H1 Γ1 s1 h1 r1 z1 => ?_, xr⟩
  refine ⟨by rw [r1.length]; exact z1.1, fun p hp => ?_⟩
  have k := keep_new (o := .tup vs) hp
  exact vr _ _ _ Γ1 (s1.trans (.keep k)) (h1.keep k) (r_tup upd_same (r1.mono (tq_kp k))) z1.2
theorem qe_lst (h : PA X es (liA E t)) : PE X (.List es pos) (liE E (eLst t)) :=
 weakE3 (pe_lst h) fun σ H Q τ Γ Y Z rs hr t vr xr => by
  refine ⟨τ, Γ, Y, _, rs, hr, t, fun vs xs H1 Γ1 s1 h1 r1 z1 => ?_, xr⟩
  refine ⟨by rw [r1.length]; exact z1.1, fun p hp => ?_⟩
  have k := keep_new (o := .lst vs) hp
  exact vr _ _ _ _ (s1.trans (.make hp)) (h1.make (o3 := .lst xs) hp ⟨vs, upd_same, r1.mono (tq_kp k)⟩) r_ref (z1.2 p (h1.free hp))
end
abbrev Sp3 := List T → Gp → K3 → (Value → Gp → Prop) → Prop
def liSp (sp : Sp3) : Sp := fun vs H Q E => ∃ ts Γ Z Y, Rs H vs ts ∧ HR H Γ ∧ sp ts Γ Z Y ∧ VR H Γ Z Q ∧ ∀ C H' Γ', Stp H Γ H' Γ' → HR H' Γ' → Y C Γ' → E C none H'
abbrev Cl3 (P : Program) (w : World) (K : PySem.W.Frag) (mg : Str → Option Value) (base : Heap) (x : Str) (k : Nat) (ps : List Str) (sp : Sp3) : Prop := Callee P w K mg base x k ps (liSp sp)
abbrev Clx (P : Program) (w : World) (K : PySem.W.Frag) (mg : Str → Option Value) (base : Heap) (x : Str) (k : Nat) (ps : List Str) (sp : Sp3) : Prop := CalleeX P w K mg base x k ps (liSp sp)
def eCall (sp : Sp3) (t : A3) : E3 := fun Y τ Γ Z => t Y τ Γ fun xs Γ1 => sp xs Γ1 Z fun _ _ => False
def eCallX (sp : Sp3) (t : A3) : E3 := fun Y τ Γ Z => t Y τ Γ fun xs Γ1 => sp xs Γ1 Z (Y τ)
section
variable {x : Str} {k j : Nat} {ps : List Str} {sp : Sp3} {p pos : Pos} {e : Expr} {es : List Expr} {t : A3}
theorem qe_call (c : Cl3 X.prog X.w X.K X.mg X.base x k ps sp) (hr : Room j X.A) (hk : k ≤ j) (hg : Gl X x) (ha : PA X (e :: es) (liA E t)) (hdb : (x == ("__debug__" : Str)) = false := by decide)
  (he : starEach (e :: es) X.env = (false, eval e X.env) :: starEach es X.env := by rfl) (hpl : (backTo pos (starEach es X.env)).any (·.1) = false := by rfl) : PE X (.Call (.Name x p) (e :: es) [] pos) (liE E (eCall sp t)) :=
 weakE3 (pe_callC c hr hk hg ha hdb he hpl) fun σ H Q τ Γ Y Z rs hr t vr xr => by
  refine ⟨τ, Γ, Y, _, rs, hr, t, fun vs xs H1 Γ1 s1 h1 r1 z1 => ?_, xr⟩
  show liSp sp (vs ++ []) H1 Q E0
  rw [List.append_nil]
  exact ⟨xs, Γ1, Z, _, r1, h1, z1, vr.mono s1, fun _ _ _ _ _ z => z.elim⟩
theorem qe_callX (c : Clx X.prog X.w X.K X.mg X.base x k ps sp) (hr : Room j X.A) (hk : k ≤ j) (hg : Gl X x) (hx : PassesW X E) (ha : PA X (e :: es) (liA E t)) (hdb : (x == ("__debug__" : Str)) = false := by decide)
  (he : starEach (e :: es) X.env = (false, eval e X.env) :: starEach es X.env := by rfl) (hpl : (backTo pos (starEach es X.env)).any (·.1) = false := by rfl) : PE X (.Call (.Name x p) (e :: es) [] pos) (liE E (eCallX sp t)) :=
 weakE3 (pe_callW c hr hk hg hx ha hdb he hpl) fun σ H Q τ Γ Y Z rs hr t vr xr => by
  refine ⟨τ, Γ, Y, _, rs, hr, t, fun vs xs H1 Γ1 s1 h1 r1 z1 => ?_, xr⟩
  exact ⟨xs, Γ1, Z, Y τ, r1, h1, z1, vr.mono s1, fun C H' Γ' s' h' y => xr σ τ C H' Γ' (s1.trans s') h' (rs.mono (s1.trans s').tq) y⟩
end
end
end L3
set_option Elab.async false
set_option linter.all false
set_option maxRecDepth 100000
namespace L3
open PySem PySem.Spec L2
open PyProof.Rows hiding St
section
variable {X : Cx} {E : St → XK} {st : Stmt} {sts : List Stmt} {e : Expr} {te : E3} {pos : Pos} {t u : C3}
def cNext : C3 := fun _ D τ Γ => D.nx τ Γ
def cCont : C3 := fun _ D τ Γ => D.ct τ Γ
def cSeq (t u : C3) : C3 := fun Y D τ Γ => t Y { D with nx := u Y D } τ Γ
def cDrop (te : E3) : C3 := fun Y D τ Γ => te Y τ Γ fun _ Γ1 => D.nx τ Γ1
def cRet (te : E3) : C3 := fun Y D τ Γ => te Y τ Γ D.rt
def cRetN : C3 := fun _ D _ Γ => D.rt .non Γ
def cIf (c : T3) (t u : C3) : C3 := fun Y D τ Γ => c Y τ Γ fun b Γ1 => if b = true then t Y D τ Γ1 else u Y D τ Γ1
theorem qss_nil : PSs X [] (liS E cNext) := weakSs3 pss_nil fun D σ H τ Γ Y Z rs hr t dr xr => dr.nx σ τ H Γ .refl hr rs t
theorem qss_cons (h1 : PS X st (liS E t)) (h2 : PSs X sts (liS E u)) : PSs X (st :: sts) (liS E (cSeq t u)) :=
 weakSs3 (pss_cons h1 h2) fun D σ H τ Γ Y Z rs hr t dr xr =>
  ⟨τ, Γ, Y, _, rs, hr, t, ⟨fun σ' τ' H' Γ' s h r z => ⟨τ', Γ', Y, Z, r, h, z, dr.mono s, xr.mono s⟩, dr.rt, dr.bk, dr.ct⟩, xr⟩
theorem qs_expr (he : PE X e (liE E te)) (hs : swapsWith e none pos.line X.env = pure false := by rfl) : PS X (.Expr e pos) (liS E (cDrop te)) :=
 weakS3 (ps_expr he hs) fun D σ H τ Γ Y Z rs hr t dr xr => ⟨τ, Γ, Y, _, rs, hr, t, fun v x H' Γ' s h r z => dr.nx σ τ H' Γ' s h (rs.mono s.tq) z, xr⟩
theorem qs_ret (he : PE X e (liE E te)) : PS X (.Return (some e) pos) (liS E (cRet te)) :=
 weakS3 (ps_ret he) fun D σ H τ Γ Y Z rs hr t dr xr => ⟨τ, Γ, Y, _, rs, hr, t, dr.rt, xr⟩
theorem qs_if {c : Expr} {a b : List Stmt} {tc : T3} (hc : PT X c (liT E tc)) (ha : PSs X a (liS E t)) (hb : PSs X b (liS E u)) : PS X (.If c a b pos) (liS E (cIf tc t u)) :=
 weakS3 (ps_if hc ha hb) fun D σ H τ Γ Y Z rs hr t dr xr => by
  refine ⟨τ, Γ, Y, _, rs, hr, t, fun k H1 Γ1 s1 h1 z1 => ?_, xr⟩
  cases k with
  | true => exact ⟨τ, Γ1, Y, Z, rs.mono s1.tq, h1, z1, dr.mono s1, xr.mono s1⟩
  | false => exact ⟨τ, Γ1, Y, Z, rs.mono s1.tq, h1, z1, dr.mono s1, xr.mono s1⟩
def cCut (t : C3) : C3 := fun Y D τ Γ => ∃ P : S3 → Gp → Prop, t Y { D with nx := P } τ Γ ∧ ∀ τ Γ, P τ Γ → D.nx τ Γ
theorem qs_cut (h : PS X st (liS E t)) : PS X st (liS E (cCut t)) :=
 weakS3 h fun D σ H τ Γ Y Z rs hr q0 dr xr => by obtain ⟨P, t, k⟩ := q0; exact ⟨τ, Γ, Y, _, rs, hr, t, ⟨fun σ' τ' H' Γ' s h r z => dr.nx σ' τ' H' Γ' s h r (k _ _ z), dr.rt, dr.bk, dr.ct⟩, xr⟩
abbrev G3 := X3 → T → S3 → Gp → (S3 → Gp → Prop) → Prop
abbrev Gs3 := X3 → List T → S3 → Gp → (S3 → Gp → Prop) → Prop
def liG (E : St → XK) (g : G3) : TG := fun v σ H Q => ∃ x τ Γ Y Z, R H v x ∧ RS H σ τ ∧ HR H Γ ∧ g Y x τ Γ Z ∧ NR H Γ Z Q ∧ XR H Γ Y E
def liGs (E : St → XK) (g : Gs3) : TGs := fun v σ H Q => ∃ x τ Γ Y Z, Rs H v x ∧ RS H σ τ ∧ HR H Γ ∧ g Y x τ Γ Z ∧ NR H Γ Z Q ∧ XR H Γ Y E
theorem weakG3 {e : Expr} {t0 : TG} {t : G3} (h : PG X e t0) (w : ∀ v σ H Q x τ Γ Y Z, R H v x → RS H σ τ → HR H Γ → t Y x τ Γ Z → NR H Γ Z Q → XR H Γ Y E → t0 v σ H Q) : PG X e (liG E t) :=
 weakG h (by rintro v σ H Q ⟨x, τ, Γ, Y, Z, r, rs, hr, q, nr, xr⟩; exact w v σ H Q x τ Γ Y Z r rs hr q nr xr)
theorem weakGs3 {e : List Expr} {t0 : TGs} {t : Gs3} (h : PGs X e t0) (w : ∀ v σ H Q x τ Γ Y Z, Rs H v x → RS H σ τ → HR H Γ → t Y x τ Γ Z → NR H Γ Z Q → XR H Γ Y E → t0 v σ H Q) : PGs X e (liGs E t) :=
 weakGs h (by rintro v σ H Q ⟨x, τ, Γ, Y, Z, r, rs, hr, q, nr, xr⟩; exact w v σ H Q x τ Γ Y Z r rs hr q nr xr)
def hName (i : Nat) : G3 := fun _ x τ Γ Z => Z (τ.set i (some x)) Γ
def hNil : Gs3 := fun _ xs τ Γ Z => xs = [] ∧ Z τ Γ
def hCons (g : G3) (gs : Gs3) : Gs3 := fun Y xs τ Γ Z => ∃ x r, xs = x :: r ∧ g Y x τ Γ fun τ1 Γ1 => gs Y r τ1 Γ1 Z
def hTup (n : Nat) (gs : Gs3) : G3 := fun Y x τ Γ Z => ∃ ts, x = .tup ts ∧ ts.length = n ∧ gs Y ts τ Γ Z
theorem qg_name {i : Nat} {x : Str} (hN : X.N.Nodup) (hi : X.N[i]? = some x) (hx : Loc X.env.scope x) (hf : X.fn x = true ∨ X.env.scope.names.lookup x = some .local := by first | exact .inl rfl | exact .inr rfl | assumption) : PG X (.Name x pos) (liG E (hName i)) :=
 weakG3 (pg_name hN hi hx hf) fun v σ H Q x τ Γ Y Z r rs hr t nr xr => nr _ _ H Γ .refl hr (rs.set r i) t
theorem qgs_nil : PGs X [] (liGs E hNil) := weakGs3 pgs_nil fun v σ H Q x τ Γ Y Z r rs hr q0 nr xr => by
 obtain ⟨e, t⟩ := q0
 subst e
 exact ⟨rs_inv0 r, nr _ _ H Γ .refl hr rs t⟩
theorem qgs_cons {es : List Expr} {g : G3} {gs : Gs3} (h1 : PG X e (liG E g)) (h2 : PGs X es (liGs E gs)) (hs : (assignEach (e :: es) X.env).map (·.2) = assign e X.env :: (assignEach es X.env).map (·.2) := by rfl) : PGs X (e :: es) (liGs E (hCons g gs)) :=
 weakGs3 (pgs_cons h1 h2 hs) fun v σ H Q x τ Γ Y Z r rs hr q0 nr xr => by
  obtain ⟨y, ys, e, t⟩ := q0
  subst e
  obtain ⟨w, ws, rfl, r1, r2⟩ := rs_inv r
  refine ⟨w, ws, rfl, y, τ, Γ, Y, _, r1, rs, hr, t, fun σ' τ' H' Γ' s h r z => ?_, xr⟩
  exact ⟨ys, τ', Γ', Y, Z, r2.mono s.tq, r, h, z, nr.mono s, xr.mono s⟩
theorem qg_tup {es : List Expr} {k : Nat} {gs : Gs3} {n : Nat} (hc : X.calm = true) (h : PGs X es (liGs E gs))
  (hn : (assignEach es X.env).length = n := by rfl) (hst : (assignEach es X.env).findIdx? (·.1) = none := by rfl) : PG X (.Tuple es k pos) (liG E (hTup n gs)) :=
 weakG3 (pg_tup hc h hn hst) fun v σ H Q x τ Γ Y Z r rs hr q0 nr xr => by
  obtain ⟨ts, e, l, t⟩ := q0
  subst e
  obtain ⟨a, vs, rfl, ha, r⟩ := i_tup r
  exact ⟨a, vs, rfl, SqT.of ha, by rw [r.length]; exact l, ts, τ, Γ, Y, Z, r, rs, hr, t, nr, xr⟩
def hSub (to ti : E3) : G3 := fun Y v τ Γ Z => to Y τ Γ fun o Γ1 => ti Y τ Γ1 fun i Γ2 => ∃ a ts k j, o = .ref a ∧ i = .int k ∧ Γ2 a = some (.lst ts) ∧ ixN ts.length k = some j ∧ Z τ (up Γ2 a (.lst (ts.set j v)))
theorem qg_sub {o i : Expr} {to ti : E3} (ho : PE X o (liE E to)) (hi : PE X i (liE E ti))
  (ha : ∀ v, assign (.Subscript o i pos) X.env v = (do
   let ov ← holding [v] (eval o X.env)
   let iv ← holding [v, ov] (eval i X.env)
   standAt pos
   holding [v, ov, iv] (setItem ov iv v)
   release [v, ov, iv] []) := by intro _; rfl) : PG X (.Subscript o i pos) (liG E (hSub to ti)) :=
 weakG3 (pg_sub ho hi set_list ha) fun v σ H Q x τ Γ Y Z r rs hr t nr xr => by
  refine ⟨τ, Γ, Y, _, rs, hr, t, fun ov o H1 Γ1 s1 h1 r1 z1 => ?_, xr⟩
  refine ⟨τ, Γ1, Y, _, rs.mono s1.tq, h1, z1, fun iv i H2 Γ2 s2 h2 r2 z2 => ?_, xr.mono s1⟩
  obtain ⟨a, ts, k, j, rfl, rfl, ga, hj, z⟩ := z2
  obtain ⟨vs, hv, rv⟩ := h2 a _ ga
  refine ⟨a, vs, k, j, i_ref r1, i_int r2, hv, by rw [rv.length]; exact hj, ?_⟩
  have s3 : Stp H2 Γ2 (upd H2 a (.lst (vs.set j v))) (up Γ2 a (.lst (ts.set j x))) := .set h2 ga
  exact nr σ τ _ _ ((s1.trans s2).trans s3) (h2.set ga ⟨_, upd_same, Rs.set j (rv.mono s3.tq) (r.mono ((s1.trans s2).trans s3).tq)⟩) (rs.mono ((s1.trans s2).trans s3).tq) z
def cAsg (te : E3) (g : G3) : C3 := fun Y D τ Γ => te Y τ Γ fun x Γ1 => g Y x τ Γ1 D.nx
theorem asg_sim {te : E3} {g : G3} (D : Ends) (σ : St) (H : Hp) (q : liS E (cAsg te g) D σ H) : tAsg (liE E te) (liG E g) D σ H := by
 obtain ⟨τ, Γ, Y, Z, rs, hr, t, dr, xr⟩ := q
 exact ⟨τ, Γ, Y, _, rs, hr, t, fun v x H1 Γ1 s1 h1 r1 z1 => ⟨x, τ, Γ1, Y, _, r1, rs.mono s1.tq, h1, z1, dr.nx.mono s1, xr.mono s1⟩, xr⟩
theorem qs_asg {tg e : Expr} {te : E3} {g : G3} (he : PE X e (liE E te)) (hg : PG X tg (liG E g)) (hs : swapsWithSole [tg] e pos.line X.env = pure false := by rfl) (hw : swappedStores [tg] e X.env = pure none := by rfl)
  (h1 : (assignEach [tg] X.env).map (·.2) = [assign tg X.env] := by rfl) : PS X (.Assign [tg] e pos) (liS E (cAsg te g)) := weakS (ps_asg he hg hs hw h1) asg_sim
def cSet (i : Nat) (te : E3) : C3 := fun Y D τ Γ => te Y τ Γ fun x Γ1 => D.nx (τ.set i (some x)) Γ1
theorem qs_set {i : Nat} {x : Str} {e : Expr} {te : E3} {pos' : Pos} (hN : X.N.Nodup) (hi : X.N[i]? = some x) (hx : Loc X.env.scope x) (he : PE X e (liE E te)) (hs : swapsWith e (some (.Name x pos')) pos.line X.env = pure false := by rfl) (hf : X.fn x = true ∨ X.env.scope.names.lookup x = some .local := by first | exact .inl rfl | exact .inr rfl | assumption) :
  PS X (.Assign [.Name x pos'] e pos) (liS E (cSet i te)) := weakS3 (ps_set hN hi hx he hs hf) fun D σ H τ Γ Y Z rs hr t dr xr =>
   ⟨τ, Γ, Y, _, rs, hr, t, fun v x H1 Γ1 s1 h1 r1 z1 => dr.nx _ _ H1 Γ1 s1 h1 ((rs.mono s1.tq).set r1 i) z1, xr⟩
structure Walks (J : It) (ts : List T) (gd : Gp → Prop) (H0 : Hp) : Prop where
 go : ∀ i H Γ, Tq H0 H → HR H Γ → gd Γ → i < ts.length → J.go i H
 yld : ∀ i H Γ x H', Tq H0 H → HR H Γ → gd Γ → i < ts.length → J.yld i H x H' → Stp H Γ H' Γ ∧ HR H' Γ ∧ ∃ t, ts[i]? = some t ∧ R H' x t
 stop : ∀ H Γ, Tq H0 H → HR H Γ → gd Γ → J.stop ts.length H
abbrev I3 := X3 → S3 → Gp → (List T → (Gp → Prop) → Gp → Prop) → Prop
def liI (E : St → XK) (wi : I3) : TI := fun σ H Q => ∃ τ Γ Y Z, RS H σ τ ∧ HR H Γ ∧ wi Y τ Γ Z ∧ (∀ J ts gd H' Γ', Stp H Γ H' Γ' → HR H' Γ' → Walks J ts gd H' → Z ts gd Γ' → Q J H') ∧ XR H Γ Y E
theorem weakI3 {tg e : Expr} {t0 : TI} {t : I3} (h : PI X tg e t0) (w : ∀ σ H Q τ Γ Y Z, RS H σ τ → HR H Γ → t Y τ Γ Z → (∀ J ts gd H' Γ', Stp H Γ H' Γ' → HR H' Γ' → Walks J ts gd H' → Z ts gd Γ' → Q J H') → XR H Γ Y E → t0 σ H Q) : PI X tg e (liI E t) :=
 weakI h (by rintro σ H Q ⟨τ, Γ, Y, Z, rs, hr, q, vr, xr⟩; exact w σ H Q τ Γ Y Z rs hr q vr xr)
def wFor (gd : Gp → Prop) (g : G3) (tb : C3) (Y : X3) (D : D3) (ts : List T) (τ : S3) (Γ : Gp) : Prop := ∃ P : List T → S3 → Gp → Prop, P ts τ Γ ∧ (∀ τ Γ, P [] τ Γ → gd Γ ∧ D.nx τ Γ) ∧
 ∀ x r τ Γ, P (x :: r) τ Γ → gd Γ ∧ g Y x τ Γ fun τ2 Γ2 => tb Y { D with nx := P r, ct := P r, bk := D.nx } τ2 Γ2
def cFor (wi : I3) (g : G3) (tb : C3) : C3 := fun Y D τ Γ => wi Y τ Γ fun ts gd Γ1 => wFor gd g tb Y D ts τ Γ1
theorem drop_cons {α : Type} {xs : List α} {i : Nat} (h : i < xs.length) : xs.drop i = xs[i] :: xs.drop (i + 1) := List.drop_eq_getElem_cons h
theorem qs_for {iter : Expr} {body : List Stmt} {wi : I3} {g : G3} {tb : C3} {tg : Expr} (hp : PassesOwn (model X.prog X.w) X.A X.env X.xe) (hc : X.calm = true) (hi : PI X tg iter (liI E wi)) (hg : PG X tg (liG E g)) (hb : PSs X body (liS E tb))
  (hs : ∀ x, foldedSetIterable iter X.env x = pure x := by intro _; rfl) : PS X (.For tg iter body [] pos) (liS E (cFor wi g tb)) :=
 weakS3 (ps_for hp hc hi hg hb hs) fun D σ H τ Γ Y Z rs hr t dr xr => by
  refine ⟨τ, Γ, Y, _, rs, hr, t, fun J ts gd H1 Γ1 s1 h1 wk ⟨P, z1, p0, pc⟩ => ?_, xr⟩
  refine ⟨fun i m σ' H' => ∃ τ' Γ', i ≤ ts.length ∧ m = ts.length - i ∧ RS H' σ' τ' ∧ HR H' Γ' ∧ Stp H1 Γ1 H' Γ' ∧ P (ts.drop i) τ' Γ', ⟨ts.length, τ, Γ1, Nat.zero_le _, rfl, rs.mono s1.tq, h1, .refl, z1⟩, ?_⟩
  rintro i m σ2 H2 ⟨τ2, Γ2, hi, rfl, rs2, h2, s2, w2⟩
  by_cases hlt : i < ts.length
  ·rw [drop_cons hlt] at w2
   obtain ⟨g2, w2⟩ := pc _ _ _ _ w2
   refine .inr ⟨wk.go i H2 Γ2 s2.tq h2 g2 hlt, fun σ' H' => ∃ τ' Γ', RS H' σ' τ' ∧ HR H' Γ' ∧ Stp H1 Γ1 H' Γ' ∧ P (ts.drop (i + 1)) τ' Γ', fun σ' H' ⟨τ', Γ', a, b, c, d⟩ => ⟨ts.length - (i + 1), by omega, τ', Γ', hlt, rfl, a, b, c, d⟩, fun x H3 yl => ?_⟩
   obtain ⟨s3, h3, x3, e3, r3⟩ := wk.yld i H2 Γ2 x H3 s2.tq h2 g2 hlt yl
   rw [List.getElem?_eq_getElem hlt] at e3
   cases e3
   refine ⟨_, τ2, Γ2, Y, _, r3, rs2.mono s3.tq, h3, w2, fun σ4 τ4 H4 Γ4 s4 h4 r4 z4 => ?_, xr.mono ((s1.trans s2).trans s3)⟩
   have s5 := (s2.trans s3).trans s4
   refine ⟨τ4, Γ4, Y, _, r4, h4, z4, ⟨fun σ' τ' H' Γ' s h r z => ⟨τ', Γ', r, h, s5.trans s, z⟩, dr.rt.mono (s1.trans s5), dr.nx.mono (s1.trans s5), fun σ' τ' H' Γ' s h r z => ⟨τ', Γ', r, h, s5.trans s, z⟩⟩, xr.mono (s1.trans s5)⟩
  ·have e : i = ts.length := by omega
   subst e
   rw [List.drop_length] at w2
   have w2 := p0 _ _ w2
   exact .inl ⟨wk.stop H2 Γ2 s2.tq h2 w2.1, dr.nx σ2 τ2 H2 Γ2 (s1.trans s2) h2 rs2 w2.2⟩
def cWhile (c : T3) (tb : C3) : C3 := fun Y D τ Γ => ∃ W : Nat → S3 → Gp → Prop, (∃ m, W m τ Γ) ∧ ∀ m τ Γ, W m τ Γ →
 c Y τ Γ fun b Γ1 => if b = true then ∃ N : S3 → Gp → Prop, (∀ τ' Γ', N τ' Γ' → ∃ m', m' < m ∧ W m' τ' Γ') ∧ tb Y { D with nx := N, ct := N, bk := D.nx } τ Γ1 else D.nx τ Γ1
theorem qs_while {c : Expr} {body : List Stmt} {tc : T3} {tb : C3} (hp : PassesOwn (model X.prog X.w) X.A X.env X.xe) (hc : PT X c (liT E tc)) (hb : PSs X body (liS E tb)) : PS X (.While c body [] pos) (liS E (cWhile tc tb)) :=
 weakS3 (ps_while hp hc hb) fun D σ H τ Γ Y Z rs hr q0 dr xr => by
  obtain ⟨W, ⟨m0, w0⟩, turn⟩ := q0
  refine ⟨fun m σ' H' => ∃ τ' Γ', RS H' σ' τ' ∧ HR H' Γ' ∧ Stp H Γ H' Γ' ∧ W m τ' Γ', ⟨m0, τ, Γ, rs, hr, .refl, w0⟩, ?_⟩
  rintro m σ1 H1 ⟨τ1, Γ1, rs1, h1, s1, w1⟩
  refine ⟨τ1, Γ1, Y, _, rs1, h1, turn m τ1 Γ1 w1, fun k H2 Γ2 s2 h2 z2 => ?_, xr.mono s1⟩
  cases k with
  | false => exact dr.nx σ1 τ1 H2 Γ2 (s1.trans s2) h2 (rs1.mono s2.tq) z2
  | true =>
   obtain ⟨N, hN, z2⟩ := z2
   refine ⟨fun σ' H' => ∃ τ' Γ', RS H' σ' τ' ∧ HR H' Γ' ∧ Stp H Γ H' Γ' ∧ N τ' Γ', fun σ' H' ⟨τ', Γ', a, b, c, d⟩ => ?_, ?_⟩
   ·obtain ⟨m', hm, w'⟩ := hN τ' Γ' d
    exact ⟨m', hm, τ', Γ', a, b, c, w'⟩
   ·have s3 := s1.trans s2
    exact ⟨τ1, Γ2, Y, _, rs1.mono s2.tq, h2, z2, ⟨fun σ' τ' H' Γ' s h r z => ⟨τ', Γ', r, h, s3.trans s, z⟩, dr.rt.mono s3, dr.nx.mono s3, fun σ' τ' H' Γ' s h r z => ⟨τ', Γ', r, h, s3.trans s, z⟩⟩, xr.mono s3⟩
def cSt (own : List Str) (cap : List (Nat × Str)) (τ : S3) : S3 := List.replicate own.length none ++ cap.map fun p => (τ[p.1]?).getD none
theorem rs_app {H : Hp} : ∀ {a : St} {b : S3} {c : St} {d : S3}, RS H a b → RS H c d → RS H (a ++ c) (b ++ d)
 | [], [], _, _, _, h => h
 | _ :: _, _ :: _, _, _, h, q => ⟨h.1, rs_app h.2 q⟩
 | [], _ :: _, _, _, h, _ => h.elim
 | _ :: _, [], _, _, h, _ => h.elim
theorem rs_rep {H : Hp} : ∀ n : Nat, RS H (List.replicate n none) (List.replicate n none)
 | 0 => trivial
 | n + 1 => ⟨trivial, rs_rep n⟩
theorem rs_comp {H : Hp} {σ : St} {τ : S3} (own : List Str) (h : RS H σ τ) : ∀ cap : List (Nat × Str), RS H (compSt own cap σ) (cSt own cap τ) := fun cap => by
 refine rs_app (rs_rep _) ?_
 induction cap with
 | nil => exact trivial
 | cons p r ih =>
  refine ⟨?_, ih⟩
  show RO1 H ((σ[p.1]?).getD none) ((τ[p.1]?).getD none)
  cases e : τ[p.1]? with
  | none => exact trivial
  | some o =>
   cases o with
   | none => exact trivial
   | some x =>
    obtain ⟨v, ev, rv⟩ := h.get e
    rw [ev]
    exact rv
abbrev Y0 : X3 := fun _ _ _ => False
def wComp (gd : Gp → Prop) (g : G3) (tc : T3) (te : E3) (C : List T → Gp → Prop) (ts : List T) (τ : S3) (ys : List T) (Γ : Gp) : Prop := ∃ P : List T → S3 → List T → Gp → Prop, P ts τ ys Γ ∧ (∀ τ ys Γ, P [] τ ys Γ → gd Γ ∧ C ys Γ) ∧
 ∀ x r τ ys Γ, P (x :: r) τ ys Γ → gd Γ ∧ g Y0 x τ Γ fun τ3 Γ3 => tc Y0 τ3 Γ3 fun b Γ4 => if b = true then te Y0 τ3 Γ4 fun y Γ5 => P r τ3 (ys ++ [y]) Γ5 else P r τ3 ys Γ4
def eComp (wi : I3) (g : G3) (tc : T3) (te : E3) (own : List Str) (cap : List (Nat × Str)) : E3 := fun Y τ Γ Z => wi Y τ Γ fun ts gd Γ1 => ts.length ≤ sizeLine ∧
 wComp gd g tc te (fun ys Γ2 => ∀ D, Γ2 D = none → Z (.ref D) (up Γ2 D (.lst ys))) ts (cSt own cap τ) [] Γ1
abbrev EN : St → XK := fun _ => E0
theorem xr0 {H : Hp} {Γ : Gp} : XR H Γ Y0 EN := fun _ _ _ _ _ _ _ _ z => z.elim
theorem comp_sim {wi : I3} {g : G3} {tc : T3} {te : E3} {own : List Str} {cap : List (Nat × Str)} (σ : St) (H : Hp) (Q : VK) (q : liE E (eComp wi g tc te own cap) σ H Q) : tComp (liI E wi) (liG EN g) (liT EN tc) (liE EN te) own cap σ H Q := by
 obtain ⟨τ, Γ, Y, Z, rs, hr, t, vr, xr⟩ := q
 refine ⟨τ, Γ, Y, _, rs, hr, t, fun J ts gd H1 Γ1 s1 h1 wk ⟨hz, P, z1, p0, pc⟩ => ?_, xr⟩
 intro D hD
 have nl : ∀ vs : List V, (∀ us : List V, HO.lst vs ≠ .tup us) ∧ ∀ b w, HO.lst vs ≠ .frz b w := fun _ => ⟨fun _ z => (nomatch z), fun _ _ z => (nomatch z)⟩
 refine ⟨fun i m σ' vs H' => ∃ τ' ys Γ', i ≤ ts.length ∧ m = ts.length - i ∧ vs.length ≤ i ∧ RS H' σ' τ' ∧ HR H' Γ' ∧ H' D = some (.lst vs) ∧ Γ' D = none ∧ Rs H' vs ys ∧ Stp H1 Γ1 H' Γ' ∧ P (ts.drop i) τ' ys Γ',
  ⟨ts.length, cSt own cap τ, [], Γ1, Nat.zero_le _, rfl, Nat.le_refl _, (rs_comp own (rs.mono s1.tq) cap).mono (tq_kp (keep_new hD)), h1.keep (keep_new hD), upd_same, h1.free hD, rs_nil, .keep (keep_new hD), z1⟩, ?_⟩
 rintro i m σ2 vs H2 ⟨τ2, ys, Γ2, hi, rfl, hv, rs2, h2, d2, gD, ry, s2, w2⟩
 refine ⟨d2, ?_⟩
 by_cases hlt : i < ts.length
 ·rw [drop_cons hlt] at w2
  obtain ⟨g2, w2⟩ := pc _ _ _ _ _ w2
  refine .inr ⟨wk.go i H2 Γ2 s2.tq h2 g2 hlt, by omega, fun σ' ws H' => ∃ τ' ys Γ', ws.length ≤ i + 1 ∧ RS H' σ' τ' ∧ HR H' Γ' ∧ H' D = some (.lst ws) ∧ Γ' D = none ∧ Rs H' ws ys ∧ Stp H1 Γ1 H' Γ' ∧ P (ts.drop (i + 1)) τ' ys Γ',
   fun σ' ws H' ⟨τ', ys, Γ', a, b, c, d, e, f, k, l⟩ => ⟨ts.length - (i + 1), by omega, τ', ys, Γ', hlt, rfl, a, b, c, d, e, f, k, l⟩, fun x H3 yl => ?_⟩
  obtain ⟨s3, h3, x3, e3, r3⟩ := wk.yld i H2 Γ2 x H3 s2.tq h2 g2 hlt yl
  rw [List.getElem?_eq_getElem hlt] at e3
  cases e3
  refine ⟨_, τ2, Γ2, Y0, _, r3, rs2.mono s3.tq, h3, w2, fun σ4 τ4 H4 Γ4 s4 h4 r4 z4 => ?_, xr0⟩
  refine ⟨τ4, Γ4, Y0, _, r4, h4, z4, fun k H5 Γ5 s5 h5 z5 => ?_, xr0⟩
  have s35 := (s3.trans s4).trans s5
  have d5 : H5 D = some (.lst vs) := s35.frm D _ d2 gD
  have g5 : Γ5 D = none := s35.new D (by rw [d2]; exact fun z => nomatch z) gD
  cases k with
  | false => exact ⟨τ4, ys, Γ5, Nat.le_succ_of_le hv, r4.mono s5.tq, h5, d5, g5, ry.mono s35.tq, s2.trans s35, z5⟩
  | true =>
   refine ⟨τ4, Γ5, Y0, _, r4.mono s5.tq, h5, z5, fun y y' H6 Γ6 s6 h6 r6 z6 => ?_, xr0⟩
   have s36 := s35.trans s6
   have d6 : H6 D = some (.lst vs) := s36.frm D _ d2 gD
   have g6 : Γ6 D = none := s36.new D (by rw [d2]; exact fun z => nomatch z) gD
   have tq : Tq H6 (upd H6 D (.lst (vs ++ [y]))) := tq_set d6 (nl vs)
   refine ⟨d6, τ4, ys ++ [y'], Γ6, by rw [List.length_append]; exact Nat.succ_le_succ hv, (r4.mono (s5.trans s6).tq).mono tq, h6.hide g6 d6 (nl vs), upd_same, g6, Rs.app ((ry.mono s36.tq).mono tq) (rs_cons (r6.mono tq) rs_nil), ?_, z6⟩
   have s7 := s2.trans s36
   refine ⟨s7.tq.trans tq, fun a h z => ?_, s7.new, fun a o h g => ?_⟩
   ·by_cases e : a = D
    ·subst e; exact h hD
    ·rw [upd_ne e] at z; exact s7.dom a h z
   ·have e : a ≠ D := fun e => by subst e; rw [hD] at h; cases h
    rw [upd_ne e]; exact s7.frm a o h g
 ·have e : i = ts.length := by omega
  subst e
  rw [List.drop_length] at w2
  have w2 := p0 _ _ _ w2
  refine .inl ⟨wk.stop H2 Γ2 s2.tq h2 w2.1, ?_⟩
  have s12 := s1.trans s2
  refine vr (.ref D) (.ref D) H2 (up Γ2 D (.lst ys)) ⟨s12.tq, s12.dom, fun a h g => ?_, s12.frm⟩ (fun a o g => ?_) r_ref (w2.2 D gD)
  ·have e : a ≠ D := fun e => by subst e; exact s1.dom _ h hD
   rw [up_ne e]; exact s12.new a h g
  ·by_cases e : a = D
   ·subst e; rw [up_same] at g; cases g; exact ⟨vs, d2, ry⟩
   ·rw [up_ne e] at g; exact h2 a o g
section
variable {scope : Scope} {cl : List (Str × Addr)} {own : List Str} {cap : List (Nat × Str)} {tg iter elt : Expr} {ifs : List Expr} {wi : I3} {g : G3} {tc : T3} {te : E3}
theorem qe_comp (c : CompOk X scope cl own cap) (hc : X.calm = true) (hi : PI X tg iter (liI E wi))
  (hg : ∀ C s H fp, PG (compCx X (own ++ cap.map (·.2)) scope cl C s H fp fun _ _ => False) tg (liG EN g)) (ht : ∀ C s H fp, PTs (compCx X (own ++ cap.map (·.2)) scope cl C s H fp fun _ _ => False) ifs (liT EN tc))
  (he : ∀ C s H fp, PE (compCx X (own ++ cap.map (·.2)) scope cl C s H fp fun _ _ => False) elt (liE EN te)) (hs : ∀ x, foldedSetIterable iter X.env x = pure x := by intro _; rfl) :
  PE X (.ListComp elt [⟨tg, iter, ifs, 0⟩] scope pos) (liE E (eComp wi g tc te own cap)) := weakE (pe_comp c hc hi hg ht he hs) comp_sim
theorem qs_comp {i : Nat} {y : Str} {py spos : Pos} (c : CompOk X scope cl own cap) (hc : X.calm = true) (hi : PI X tg iter (liI E wi))
  (hg : ∀ C s H fp, PG (compCx X (own ++ cap.map (·.2)) scope cl C s H fp fun _ _ => False) tg (liG EN g)) (ht : ∀ C s H fp, PTs (compCx X (own ++ cap.map (·.2)) scope cl C s H fp fun _ _ => False) ifs (liT EN tc))
  (he : ∀ C s H fp, PE (compCx X (own ++ cap.map (·.2)) scope cl C s H fp fun _ _ => False) elt (liE EN te))
  (hN : X.N.Nodup) (hy : X.N[i]? = some y) (hl : X.env.scope.names.lookup y = some .local)
  (hsw : swapsWith (.ListComp elt [⟨tg, iter, ifs, 0⟩] scope pos) (some (.Name y py)) spos.line X.env = pure true := by rfl) (hs : ∀ x, foldedSetIterable iter X.env x = pure x := by intro _; rfl) :
  PS X (.Assign [.Name y py] (.ListComp elt [⟨tg, iter, ifs, 0⟩] scope pos) spos) (liS E (cSet i (eComp wi g tc te own cap))) :=
 weakS3 (ps_comp c hc hi hg ht he hN hy hl hsw hs) fun D σ H τ Γ Y Z rs hr t dr xr =>
  comp_sim σ H _ ⟨τ, Γ, Y, _, rs, hr, t, fun v x H1 Γ1 s1 h1 r1 z1 => dr.nx _ _ H1 Γ1 s1 h1 ((rs.mono s1.tq).set r1 i) z1, xr⟩
def bTrue : T3 := fun _ _ Γ Z => Z true Γ
theorem qts_nil : PTs X [] (liT E bTrue) := weakTs3 pts_nil fun σ H Q τ Γ Y Z rs hr t vr xr => vr true H Γ .refl hr t
theorem qts_one {c : Expr} {t : T3} (h : PT X c (liT E t)) : PTs X [c] (liT E t) := pts_one h
end
end
def start3 : List Str → List T → S3
 | [], _ => []
 | _ :: N, [] => none :: start3 N []
 | _ :: N, t :: ts => some t :: start3 N ts
theorem rs_start0 {H : Hp} : ∀ N : List Str, RS H (List.replicate N.length none) (start3 N [])
 | [] => trivial
 | _ :: N => ⟨trivial, rs_start0 N⟩
theorem rs_start {H : Hp} : ∀ (N : List Str) {vs : List V} {ts : List T}, Rs H vs ts → ts.length ≤ N.length → RS H (L2.start N vs) (start3 N ts)
 | N, vs, [], h, _ => by
  rw [rs_inv0 h]
  exact rs_start0 N
 | [], vs, t :: ts, h, l => absurd l (by simp)
 | n :: N, vs, t :: ts, h, l => by
  obtain ⟨v, ws, rfl, a, b⟩ := rs_inv h
  have := rs_start N b (by simpa using l)
  refine ⟨a, ?_⟩
  unfold L2.start at this
  rw [List.length_cons, List.length_cons, Nat.add_sub_add_right]
  exact this
theorem sc_len {N ps : List Str} {sc : Scope} (S : FnScope N ps sc) : ps.length ≤ N.length := by
 have := congrArg List.length S.pre
 rw [List.length_take] at this
 omega
section
variable {P : Program} {w : World} {K : PySem.W.Frag} {mg : Str → Option Value} {base : Heap}
end
section
variable {X : Cx} {x : Str} {C : Addr} {bmB : List Value} {B newId initId : String} {np cpos pos : Pos} {e₀ : Expr} {rest : List Expr} {t : A3} {E : XK}
def cRaise (C : Addr) (t : A3) : C3 := fun Y D τ Γ => t Y τ Γ fun xs Γ1 => xs.length ≤ sizeLine ∧ Y τ (.ref C) Γ1
theorem qs_raise (hc : X.calm = true) (hg : Gl X x) (hm : X.mg x = some (.ref C)) (hx : PySem.W.excIn X.K C bmB newId = true) (FB : ExcBaseFacts B newId initId bmB) (ha : PA X (e₀ :: rest) (liA (fun _ => E) t)) (hE : Raises X E)
  (hd : (x == ("__debug__" : Str)) = false := by decide) (he : starEach (e₀ :: rest) X.env = (false, eval e₀ X.env) :: starEach rest X.env := by rfl) (hpl : (backTo cpos (starEach rest X.env)).any (·.1) = false := by rfl) :
  PS X (.Raise (some (.Call (.Name x np) (e₀ :: rest) [] cpos)) none pos) (liS (fun _ => E) (cRaise C t)) :=
 weakS3 (ps_raise hc hg hm hx FB ha hE hd he hpl) fun D σ H τ Γ Y Z rs hr t dr xr =>
  ⟨τ, Γ, Y, _, rs, hr, t, fun vs xs H1 Γ1 s1 h1 r1 z1 => ⟨by rw [r1.length]; exact z1.1, xr σ τ _ H1 Γ1 s1 h1 (rs.mono s1.tq) z1.2⟩, xr⟩
end
section
variable {X : Cx} {E : St → XK} {body suite : List Stmt} {b₀ : Stmt} {y n : Str} {np hpos pos : Pos} {Cy : Addr} {j : Nat} {tb ts : C3}
def cTry (K : PySem.W.Frag) (Cy : Addr) (j : Nat) (tb ts : C3) : C3 := fun _ D τ Γ => tb (fun τ' C Γ' => PySem.W.exmOne K C (.ref Cy) = some true ∧ ∀ x, Γ' x = none →
 ts Y0 { nx := fun τ2 Γ2 => D.nx (τ2.set j none) Γ2, rt := D.rt, bk := fun τ2 Γ2 => D.bk (τ2.set j none) Γ2, ct := fun τ2 Γ2 => D.ct (τ2.set j none) Γ2 } (τ'.set j (some (.ref x))) (up Γ' x (.ext (excAt x C)))) D τ Γ
theorem RS.unset {H : Hp} : ∀ {σ : St} {τ : S3} (i : Nat), RS H σ τ → RS H (σ.set i none) (τ.set i none)
 | [], [], _, _ => trivial
 | _ :: _, _ :: _, 0, h => ⟨trivial, h.2⟩
 | _ :: _, _ :: _, i + 1, h => ⟨h.1, RS.unset i h.2⟩
 | [], _ :: _, _, h => h.elim
 | _ :: _, [], _, h => h.elim
theorem NR.unset {H : Hp} {Γ : Gp} {Z : S3 → Gp → Prop} {Q : St → Hp → Prop} (h : NR H Γ Z Q) : NR H Γ (fun τ2 Γ2 => Z (τ2.set j none) Γ2) (fun σ2 H2 => Q (σ2.set j none) H2) := fun σ τ H' Γ' s hr r z => h _ _ H' Γ' s hr (r.unset j) z
theorem qs_try (hst : X.stack = X.env :: X.outer) (hfr : X.env.frame = some X.env.locals) (hy : Gl X y) (hmy : X.mg y = some (.ref Cy)) (hN : X.N.Nodup) (hj : X.N[j]? = some n) (hl : X.env.scope.names.lookup n = some .local)
  (hb : ∀ (E' : Value → Shared → Prop) (pn : List (Addr × Obj)) (W : St → XK), (∀ pins σ H s e s', Inv (X.tr E' pn) pins σ H s → CXe X.prog X.w X.stack H s (W σ) e s' → E' e s') → PSs (X.tr E' pn) body (liS W tb))
  (hs : ∀ x, PSs (X.su x) (b₀ :: suite) (liS EN ts)) (hd : (y == ("__debug__" : Str)) = false := by decide) :
  PS X (.Try body [.ExceptHandler (some (.Name y np)) (some n) (b₀ :: suite) hpos] [] [] pos) (liS E (cTry X.K Cy j tb ts)) :=
 weakS3 (ps_try hst hfr hy hmy hN hj hl hb hs hd) fun D σ H τ Γ Y Z rs hr t dr xr => by
  refine ⟨τ, Γ, _, Z, rs, hr, t, dr, fun σ1 τ1 C H1 Γ1 s1 h1 r1 y1 => ⟨y1.1, fun x hx => ?_⟩⟩
  have k := keep_new (o := .ext (excAt x C)) hx
  have s2 : Stp H Γ (upd H1 x (.ext (excAt x C))) (up Γ1 x (.ext (excAt x C))) := s1.trans (.make hx)
  exact ⟨_, _, Y0, _, RS.set r_ref j (r1.mono (tq_kp k)), h1.make (o3 := .ext (excAt x C)) hx upd_same, y1.2 x (h1.free hx), ⟨(dr.nx.mono s2).unset, dr.rt.mono s2, (dr.bk.mono s2).unset, (dr.ct.mono s2).unset⟩, xr0⟩
end
end L3
set_option Elab.async false
set_option linter.all false
set_option maxRecDepth 100000
namespace L3
open PySem PySem.Spec L2
open PyProof.Rows hiding St
def sc : T → Option V
 | .non => some .non | .bl b => some (.bl b) | .int i => some (.int i) | .str z => some (.str z) | _ => none
theorem sc_r {H : Hp} {v u : V} {x : T} (r : R H v x) (h : sc x = some u) : v = u := by
 cases x with
 | non => cases h; exact i_non r
 | bl b => cases h; exact i_bl r
 | int i => cases h; exact i_int r
 | str z => cases h; exact i_str r
 | tup ts => cases h
 | ref a => cases h
 | ty n => cases h
 | scr K a ts => cases h
def scs : List T → Option (List V)
 | [] => some []
 | x :: r => match sc x, scs r with | some v, some vs => some (v :: vs) | _, _ => none
theorem scs_r {H : Hp} : ∀ {ts : List T} {vs us : List V}, Rs H vs ts → scs ts = some us → vs = us
 | [], vs, us, r, h => by cases h; exact rs_inv0 r
 | x :: q, vs, us, r, h => by
  obtain ⟨v, ws, rfl, a, b⟩ := rs_inv r
  unfold scs at h
  split at h
  ·rename_i v' vs' e1 e2
   cases h
   rw [sc_r a e1, scs_r b e2]
  ·cases h
def it3 (Γ : Gp) : T → Option (List T)
 | .tup ts => some ts
 | .ref a => match Γ a with | some (.lst ts) => some ts | _ => none
 | _ => none
theorem it3_l {Γ : Gp} {a : Addr} {ts : List T} (h : Γ a = some (.lst ts)) : it3 Γ (.ref a) = some ts := by
 show (match Γ a with | some (.lst ts) => some ts | _ => none) = _
 rw [h]
theorem it3_a {K : PySem.W.Frag} {H : Hp} {Γ : Gp} {a : Addr} {ts : List T} (hr : HR H Γ) (h : it3 Γ (.ref a) = some ts) : ∃ vs, SqL K H a vs ∧ Rs H vs ts := by
 have h : (match Γ a with | some (.lst ts) => some ts | _ => none) = some ts := h
 split at h
 ·rename_i ts' g; cases h; obtain ⟨vs, ha, q⟩ := hr a _ g; exact ⟨vs, SqL.of ha, q⟩
 ·cases h
theorem it3_r {K : PySem.W.Frag} {H : Hp} {Γ : Gp} {v : V} {x : T} {ts : List T} (r : R H v x) (hr : HR H Γ) (h : it3 Γ x = some ts) : ∃ p vs, v = .ref p ∧ (SqL K H p vs ∨ SqT K H p vs) ∧ Rs H vs ts := by
 cases x with
 | tup us => cases h; obtain ⟨a, vs, e, ha, q⟩ := i_tup r; exact ⟨a, vs, e, .inr (SqT.of ha), q⟩
 | ref a => obtain ⟨vs, s, q⟩ := it3_a (K := K) hr h; exact ⟨a, vs, i_ref r, .inl s, q⟩
 | _ => cases h
section
variable {X : Cx} {E : St → XK}
def r3I (C : Int → Int → Prop) (g : Int → Int → T) : R3 := fun x y Γ Z => ∃ i j, x = .int i ∧ y = .int j ∧ C i j ∧ Z (g i j) Γ
def r3J (g : Int → Int → T) : R3 := fun x y Γ Z => ∃ i j, x = .int i ∧ y = .int j ∧ Z (g i j) Γ
theorem oq_I {f : Value → Value → Sem Value} {C : Int → Int → Prop} {g : Int → Int → V} {g3 : Int → Int → T} (h : OpR X f (rI C g)) (e : ∀ i j H, R H (g i j) (g3 i j)) : OpQ X f (r3I C g3) :=
 ⟨_, h, fun x y a b H Γ Q Z ra rb hr q0 vr => by obtain ⟨i, j, ea, eb, c, z⟩ := q0; subst ea eb; exact ⟨i, j, i_int ra, i_int rb, c, vr _ _ H Γ .refl hr (e i j H) z⟩⟩
theorem oq_J {f : Value → Value → Sem Value} {g : Int → Int → V} {g3 : Int → Int → T} (h : OpR X f (rI0 g)) (e : ∀ i j H, R H (g i j) (g3 i j)) : OpQ X f (r3J g3) :=
 ⟨_, h, fun x y a b H Γ Q Z ra rb hr q0 vr => by obtain ⟨i, j, ea, eb, z⟩ := q0; subst ea eb; exact ⟨i, j, i_int ra, i_int rb, vr _ _ H Γ .refl hr (e i j H) z⟩⟩
theorem oq_add : OpQ X (binaryOp .Add) (r3J fun i j => .int (i + j)) := oq_J op_add fun _ _ _ => r_int
theorem oq_sub : OpQ X (binaryOp .Sub) (r3J fun i j => .int (i - j)) := oq_J op_sub fun _ _ _ => r_int
theorem oq_mul : OpQ X (binaryOp .Mult) (r3I CMul fun i j => .int (i * j)) := oq_I op_mul fun _ _ _ => r_int
theorem oq_fdiv : OpQ X (binaryOp .FloorDiv) (r3I CDivG fun i j => .int (i / j)) := oq_I op_fdivG fun _ _ _ => r_int
theorem oq_mod : OpQ X (binaryOp .Mod) (r3I (fun _ j => 0 < j) fun i j => .int (i % j)) := oq_I op_mod fun _ _ _ => r_int
theorem oq_pow : OpQ X (binaryOp .Pow) (r3I CPow fun i j => .int (i ^ j.toNat)) := oq_I op_pow fun _ _ _ => r_int
theorem oq_lt : OpQ X (compareOp .Lt) (r3J fun i j => .bl (decide (i < j))) := oq_J op_lt fun _ _ _ => r_bl
theorem oq_le : OpQ X (compareOp .LtE) (r3J fun i j => .bl (decide (i ≤ j))) := oq_J op_le fun _ _ _ => r_bl
theorem oq_gt : OpQ X (compareOp .Gt) (r3J fun i j => .bl (decide (j < i))) := oq_J op_gt fun _ _ _ => r_bl
theorem oq_ge : OpQ X (compareOp .GtE) (r3J fun i j => .bl (decide (j ≤ i))) := oq_J op_ge fun _ _ _ => r_bl
theorem oq_adds : OpQ X (binaryOp .Add) (fun x y Γ Z => ∃ i j, x = .str i ∧ y = .str j ∧ i.length + j.length ≤ sizeLine ∧ Z (.str (i ++ j)) Γ) :=
 ⟨_, op_add_str, fun x y a b H Γ Q Z ra rb hr q0 vr => by obtain ⟨i, j, ea, eb, c, z⟩ := q0; subst ea eb; exact ⟨i, j, i_str ra, i_str rb, c, vr _ _ H Γ .refl hr r_str z⟩⟩
theorem oq_ins : OpQ X (compareOp .In) (fun x y Γ Z => ∃ i j, x = .str i ∧ y = .str j ∧ Z (.bl (!(Builtin.Str.occurrences j i 0 j.length 1).isEmpty)) Γ) :=
 ⟨_, op_in_str, fun x y a b H Γ Q Z ra rb hr q0 vr => by obtain ⟨i, j, ea, eb, z⟩ := q0; subst ea eb; exact ⟨i, j, i_str ra, i_str rb, vr _ _ H Γ .refl hr r_bl z⟩⟩
def r3Eq : R3 := fun x y Γ Z => ∃ u v, sc x = some u ∧ sc y = some v ∧ scal u v = true ∧ Z (.bl (decide (u = v))) Γ
def r3Ne : R3 := fun x y Γ Z => ∃ u v, sc x = some u ∧ sc y = some v ∧ scal u v = true ∧ Z (.bl (!decide (u = v))) Γ
theorem oq_eq : OpQ X (compareOp .Eq) r3Eq :=
 ⟨_, op_eq, fun x y a b H Γ Q Z ra rb hr q0 vr => by obtain ⟨u, v, ea, eb, c, z⟩ := q0; rw [sc_r ra ea, sc_r rb eb]; exact ⟨c, vr _ _ H Γ .refl hr r_bl z⟩⟩
theorem oq_ne : OpQ X (compareOp .NotEq) r3Ne :=
 ⟨_, op_ne, fun x y a b H Γ Q Z ra rb hr q0 vr => by obtain ⟨u, v, ea, eb, c, z⟩ := q0; rw [sc_r ra ea, sc_r rb eb]; exact ⟨c, vr _ _ H Γ .refl hr r_bl z⟩⟩
def isNon : T → Bool | .non => true | _ => false
theorem isNon_r {H : Hp} {v : V} {x : T} (r : R H v x) : decide (v = .non) = isNon x := by
 cases x with
 | non => rw [i_non r]; rfl
 | bl b => rw [i_bl r]; rfl
 | int i => rw [i_int r]; rfl
 | str z => rw [i_str r]; rfl
 | tup ts => obtain ⟨a, vs, e, _⟩ := i_tup r; rw [e]; rfl
 | ref a => rw [i_ref r]; rfl
 | ty n => rw [i_ty r]; rfl
 | scr K a ts => rw [(i_scr r).1]; rfl
theorem oq_isN : OpQ X (compareOp .Is) (fun x y Γ Z => y = .non ∧ Z (.bl (isNon x)) Γ) :=
 ⟨_, op_isN, fun x y a b H Γ Q Z ra rb hr q0 vr => by obtain ⟨eb, z⟩ := q0; subst eb; exact ⟨i_non rb, by rw [isNon_r ra]; exact vr _ _ H Γ .refl hr r_bl z⟩⟩
theorem oq_notN : OpQ X (compareOp .IsNot) (fun x y Γ Z => y = .non ∧ Z (.bl (!isNon x)) Γ) :=
 ⟨_, op_notN, fun x y a b H Γ Q Z ra rb hr q0 vr => by obtain ⟨eb, z⟩ := q0; subst eb; exact ⟨i_non rb, by rw [isNon_r ra]; exact vr _ _ H Γ .refl hr r_bl z⟩⟩
def r3In (neg : Bool) : R3 := fun x y Γ Z => ∃ u ts us, sc x = some u ∧ it3 Γ y = some ts ∧ scs ts = some us ∧ flatV u = true ∧ us.all flatV = true ∧ Z (.bl (if neg then !inV u us else inV u us)) Γ
theorem in_sim {neg : Bool} (x y : V) (a b : T) (H : Hp) (Γ : Gp) (Q : VK) (Z : K3) (ra : R H x a) (rb : R H y b) (hr : HR H Γ) (h : r3In neg a b Γ Z) (vr : VR H Γ Z Q) : rIn X.K neg x y H Q := by
 obtain ⟨u, ts, us, ea, eb, es, f1, f2, z⟩ := h
 obtain ⟨p, vs, rfl, sq, q⟩ := it3_r (K := X.K) rb hr eb
 rw [sc_r ra ea]
 cases scs_r q es
 exact ⟨p, _, rfl, sq, f1, f2, vr _ _ H Γ .refl hr r_bl z⟩
theorem oq_in : OpQ X (compareOp .In) (r3In false) := ⟨_, op_in_seq, in_sim⟩
theorem oq_nin : OpQ X (compareOp .NotIn) (r3In true) := ⟨_, op_notIn_seq, in_sim⟩
theorem empty_r {H : Hp} {vs : List V} {ts : List T} (q : Rs H vs ts) : vs.isEmpty = ts.isEmpty := by
 have := q.length
 cases vs <;> cases ts <;> simp_all
theorem oq_eqNil (hu : X.A.units < cLine) : OpQ X (compareOp .Eq) (fun x y Γ Z => ∃ a b ts, x = .ref a ∧ y = .ref b ∧ Γ a = some (.lst ts) ∧ Γ b = some (.lst []) ∧ Z (.bl ts.isEmpty) Γ) :=
 ⟨_, op_eqNil hu, fun x y a b H Γ Q Z ra rb hr q0 vr => by
  obtain ⟨p, p', ts, ea, eb, g1, g2, z⟩ := q0
  subst ea eb
  obtain ⟨vs, hv, q⟩ := hr p _ g1
  obtain ⟨vs', hv', q'⟩ := hr p' _ g2
  rw [rs_inv0 q'] at hv'
  exact ⟨p, p', vs, i_ref ra, i_ref rb, SqL.of hv, SqL.of hv', by rw [empty_r q]; exact vr _ _ H Γ .refl hr r_bl z⟩⟩
theorem oq_neNil (hu : X.A.units < cLine) : OpQ X (compareOp .NotEq) (fun x y Γ Z => ∃ a b ts, x = .ref a ∧ y = .ref b ∧ Γ a = some (.lst ts) ∧ Γ b = some (.lst []) ∧ Z (.bl (!ts.isEmpty)) Γ) :=
 ⟨_, op_neNil hu, fun x y a b H Γ Q Z ra rb hr q0 vr => by
  obtain ⟨p, p', ts, ea, eb, g1, g2, z⟩ := q0
  subst ea eb
  obtain ⟨vs, hv, q⟩ := hr p _ g1
  obtain ⟨vs', hv', q'⟩ := hr p' _ g2
  rw [rs_inv0 q'] at hv'
  exact ⟨p, p', vs, i_ref ra, i_ref rb, SqL.of hv, SqL.of hv', by rw [empty_r q]; exact vr _ _ H Γ .refl hr r_bl z⟩⟩
def r3Cat : R3 := fun x y Γ Z => ∃ ts us, x = .tup ts ∧ y = .tup us ∧ ts.length + us.length ≤ sizeLine ∧ Z (.tup (ts ++ us)) Γ
theorem kp0 {H H' : Hp} (k : Kp [] H H') : ∀ b o, H b = some o → H' b = some o := fun b o h => k b o (by simp) h
theorem oq_cat : OpQ X (binaryOp .Add) r3Cat :=
 ⟨_, op_catA, fun x y a b H Γ Q Z ra rb hr q0 vr => by
  obtain ⟨ts, us, ea, eb, l, z⟩ := q0
  subst ea eb
  obtain ⟨p, vs, rfl, hp, q⟩ := i_tup ra
  obtain ⟨p', vs', rfl, hp', q'⟩ := i_tup rb
  refine ⟨p, p', vs, vs', rfl, rfl, hp, hp', by rw [q.length, q'.length]; exact l, fun c H' k hc => ?_⟩
  exact vr _ _ H' Γ (.keep (kp0 k)) (hr.keep (kp0 k)) (r_tup hc (Rs.app (q.mono (tq_kp (kp0 k))) (q'.mono (tq_kp (kp0 k))))) z⟩
def r3CatL : R3 := fun x y Γ Z => ∃ a b ts us, x = .ref a ∧ y = .ref b ∧ Γ a = some (.lst ts) ∧ Γ b = some (.lst us) ∧ ts.length + us.length ≤ sizeLine ∧ ∀ p, Γ p = none → Z (.ref p) (up Γ p (.lst (ts ++ us)))
theorem oq_catL : OpQ X (binaryOp .Add) r3CatL :=
 ⟨_, op_cat, fun x y a b H Γ Q Z ra rb hr q0 vr => by
  obtain ⟨p, p', ts, us, ea, eb, g1, g2, l, z⟩ := q0
  subst ea eb
  obtain ⟨vs, hv, q⟩ := hr p _ g1
  obtain ⟨vs', hv', q'⟩ := hr p' _ g2
  refine ⟨p, p', vs, vs', i_ref ra, i_ref rb, hv, hv', by rw [q.length, q'.length]; exact l, fun c hc => ?_⟩
  have k := keep_new (o := .lst (vs ++ vs')) hc
  exact vr _ _ _ _ (.make hc) (hr.make (o3 := .lst (ts ++ us)) hc ⟨_, upd_same, Rs.app (q.mono (tq_kp k)) (q'.mono (tq_kp k))⟩) r_ref (z c (hr.free hc))⟩
def r3Rep : R3 := fun x y Γ Z => ∃ ts k, x = .tup ts ∧ y = .int k ∧ 0 ≤ k ∧ k ≤ 1000 ∧ ts.length ≤ 1000 ∧ Z (.tup (List.replicate k.toNat ts).flatten) Γ
theorem rs_flat {H : Hp} {vs : List V} {ts : List T} (q : Rs H vs ts) : ∀ n : Nat, Rs H (List.replicate n vs).flatten (List.replicate n ts).flatten
 | 0 => rs_nil
 | n + 1 => by
  rw [List.replicate_succ, List.replicate_succ, List.flatten_cons, List.flatten_cons]
  exact Rs.app q (rs_flat q n)
theorem oq_rep : OpQ X (binaryOp .Mult) r3Rep :=
 ⟨_, op_repT, fun x y a b H Γ Q Z ra rb hr q0 vr => by
  obtain ⟨ts, k, ea, eb, k0, k1, l, z⟩ := q0
  subst ea eb
  obtain ⟨p, vs, rfl, hp, q⟩ := i_tup ra
  refine ⟨p, k, vs, rfl, i_int rb, hp, k0, k1, by rw [q.length]; exact l, fun c H' kp hc => ?_⟩
  exact vr _ _ H' Γ (.keep (kp0 kp)) (hr.keep (kp0 kp)) (r_tup hc (rs_flat (q.mono (tq_kp (kp0 kp))) _)) z⟩
theorem at_r {H : Hp} {vs : List V} {ts : List T} {i : Int} {t : T} (q : Rs H vs ts) (h : atI ts i = some t) : ∃ v, atI vs i = some v ∧ R H v t := by
 unfold atI at h ⊢
 rw [q.length]
 cases e : ixN ts.length i with
 | none => rw [e] at h; cases h
 | some j =>
  rw [e] at h
  have h' : ts[j]? = some t := h
  obtain ⟨v, hv, r⟩ := q.get h'
  exact ⟨v, hv, r⟩
def r3Ix : R3 := fun x y Γ Z => ∃ ts i t, it3 Γ x = some ts ∧ y = .int i ∧ atI ts i = some t ∧ Z t Γ
def r3IxS : R3 := fun x y Γ Z => ∃ z i c, x = .str z ∧ y = .int i ∧ z.length ≤ sizeLine ∧ atI z.cps.toList i = some c ∧ Z (.str ⟨#[c]⟩) Γ
variable {a b e : Expr} {ta tb te : E3} {pos p2 : Pos}
theorem qe_ix (ha : PE X a (liE E ta)) (hb : PE X b (liE E tb)) (hs : PlainIx b) : PE X (.Subscript a b pos) (liE E (eOp r3Ix ta tb)) :=
 weakE (pe_ix ix_seq ha hb hs) (op_sim fun x y a b H Γ Q Z ra rb hr q0 vr => by
  obtain ⟨ts, i, t, ea, eb, h, z⟩ := q0
  subst eb
  obtain ⟨p, vs, rfl, sq, q⟩ := it3_r (K := X.K) ra hr ea
  obtain ⟨v, hv, r⟩ := at_r q h
  rcases sq with sq | sq
  ·exact .inl ⟨p, vs, i, v, rfl, i_int rb, sq, hv, vr _ _ H Γ .refl hr r z⟩
  ·exact .inr (.inl ⟨p, vs, i, v, rfl, i_int rb, sq, hv, vr _ _ H Γ .refl hr r z⟩))
theorem qe_ixS (ha : PE X a (liE E ta)) (hb : PE X b (liE E tb)) (hs : PlainIx b) : PE X (.Subscript a b pos) (liE E (eOp r3IxS ta tb)) :=
 weakE (pe_ix ix_str ha hb hs) (op_sim fun x y a b H Γ Q Z ra rb hr q0 vr => by
  obtain ⟨w, i, c, ea, eb, l, h, z⟩ := q0
  subst ea eb
  exact ⟨w, i, c, i_str ra, i_int rb, l, h, vr _ _ H Γ .refl hr r_str z⟩)
abbrev O3 := X3 → S3 → Gp → (Option Int → Gp → Prop) → Prop
def liO (E : St → XK) (t : O3) : TO := fun σ H Q => ∃ τ Γ Y Z, RS H σ τ ∧ HR H Γ ∧ t Y τ Γ Z ∧ (∀ i H' Γ', Stp H Γ H' Γ' → HR H' Γ' → Z i Γ' → Q i H') ∧ XR H Γ Y E
theorem weakO {e : Option Expr} {t t' : TO} (h : PO X e t) (w : ∀ σ H Q, t' σ H Q → t σ H Q) : PO X e t' := ⟨fun pins s σ H Q I q => h.run pins s σ H Q I (w _ _ _ q)⟩
theorem weakO3 {e : Option Expr} {t0 : TO} {t : O3} (h : PO X e t0) (w : ∀ σ H Q τ Γ Y Z, RS H σ τ → HR H Γ → t Y τ Γ Z → (∀ i H' Γ', Stp H Γ H' Γ' → HR H' Γ' → Z i Γ' → Q i H') → XR H Γ Y E → t0 σ H Q) : PO X e (liO E t) :=
 weakO h (by rintro σ H Q ⟨τ, Γ, Y, Z, rs, hr, q, vr, xr⟩; exact w σ H Q τ Γ Y Z rs hr q vr xr)
def oNone : O3 := fun _ _ Γ Z => Z none Γ
def oSome (t : E3) : O3 := fun Y τ Γ Z => t Y τ Γ fun x Γ1 => ∃ i, x = .int i ∧ Z (some i) Γ1
theorem qo_none : PO X none (liO E oNone) := weakO3 po_none fun σ H Q τ Γ Y Z rs hr t vr xr => vr none H Γ .refl hr t
theorem qo_some (h : PE X e (liE E te)) : PO X (some e) (liO E (oSome te)) := weakO3 (po_some h) fun σ H Q τ Γ Y Z rs hr t vr xr =>
 ⟨τ, Γ, Y, _, rs, hr, t, fun v x H1 Γ1 s1 h1 r1 q0 => by obtain ⟨i, ex, z⟩ := q0; subst ex; exact ⟨i, i_int r1, vr _ H1 Γ1 s1 h1 z⟩, xr⟩
abbrev L3r := T → Option Int → Option Int → Gp → K3 → Prop
def SlQ (X : Cx) (r3 : L3r) : Prop := ∃ r, SlR X r ∧ ∀ x a lo hi H Γ Q Z, R H x a → HR H Γ → r3 a lo hi Γ Z → VR H Γ Z Q → r x lo hi H Q
def eSl (r : L3r) (te : E3) (tl th : O3) : E3 := fun Y τ Γ Z => te Y τ Γ fun x Γ1 => tl Y τ Γ1 fun l Γ2 => th Y τ Γ2 fun u Γ3 => r x l u Γ3 Z
theorem qe_slice {r3 : L3r} {lo hi : Option Expr} {tl th : O3} (hs : SlQ X r3) (he : PE X e (liE E te)) (hl : PO X lo (liO E tl)) (hu : PO X hi (liO E th)) : PE X (.Subscript e (.Slice lo hi none p2) pos) (liE E (eSl r3 te tl th)) := by
 obtain ⟨r, hr0, sim⟩ := hs
 refine weakE3 (pe_slice hr0 he hl hu) fun σ H Q τ Γ Y Z rs hr t vr xr => ?_
 refine ⟨τ, Γ, Y, _, rs, hr, t, fun v x H1 Γ1 s1 h1 r1 z1 => ?_, xr⟩
 refine ⟨τ, Γ1, Y, _, rs.mono s1.tq, h1, z1, fun l H2 Γ2 s2 h2 z2 => ?_, xr.mono s1⟩
 refine ⟨τ, Γ2, Y, _, rs.mono (s1.trans s2).tq, h2, z2, fun u H3 Γ3 s3 h3 z3 => ?_, xr.mono (s1.trans s2)⟩
 exact sim v x l u H3 Γ3 Q Z (r1.mono (s2.trans s3).tq) h3 z3 (vr.mono ((s1.trans s2).trans s3))
theorem cut_r {H : Hp} {vs : List V} {ts : List T} {lo hi : Option Int} (q : Rs H vs ts) : Rs H (cutV vs lo hi) (cutN ts lo hi) := by
 unfold cutV cutN
 rw [q.length]
 exact Rs.take _ (Rs.drop _ q)
theorem sq_tup : SlQ X (fun x lo hi Γ Z => ∃ ts, x = .tup ts ∧ Z (.tup (cutN ts lo hi)) Γ) :=
 ⟨_, sl_tupB, fun x a lo hi H Γ Q Z ra hr q0 vr => by
  obtain ⟨ts, ea, z⟩ := q0
  subst ea
  obtain ⟨p, vs, rfl, hp, q⟩ := i_tup ra
  exact ⟨p, vs, rfl, hp, fun c H' k hc => vr _ _ H' Γ (.keep (kp0 k)) (hr.keep (kp0 k)) (r_tup hc (cut_r (q.mono (tq_kp (kp0 k))))) z⟩⟩
theorem sq_str : SlQ X (fun x lo hi Γ Z => ∃ z : Str, x = .str z ∧ z.length ≤ sizeLine ∧ ∀ y : Str, y.cps.toList = cutN z.cps.toList lo hi → Z (.str y) Γ) :=
 ⟨_, sl_str, fun x a lo hi H Γ Q Z ra hr q0 vr => by
  obtain ⟨w, ea, l, z⟩ := q0
  subst ea
  exact ⟨w, i_str ra, l, fun y hy => vr _ _ H Γ .refl hr r_str (z y hy)⟩⟩
def eRev (r : T → Gp → K3 → Prop) (te ts : E3) : E3 := fun Y τ Γ Z => te Y τ Γ fun x Γ1 => ts Y τ Γ1 fun k Γ2 => k = .int (-1) ∧ r x Γ2 Z
def r3U (g : Int → T) : T → Gp → K3 → Prop := fun x Γ Z => ∃ i, x = .int i ∧ Z (g i) Γ
def eUn (r : T → Gp → K3 → Prop) (ta : E3) : E3 := fun Y τ Γ Z => ta Y τ Γ fun x Γ1 => r x Γ1 Z
theorem qe_neg (ha : PE X a (liE E ta)) : PE X (.UnaryOp .USub a pos) (liE E (eUn (r3U fun i => .int (-i)) ta)) :=
 weakE3 (pe_un un_neg ha) fun σ H Q τ Γ Y Z rs hr t vr xr =>
  ⟨τ, Γ, Y, _, rs, hr, t, fun v x H1 Γ1 s1 h1 r1 q0 => by obtain ⟨i, ex, z⟩ := q0; subst ex; exact ⟨i, i_int r1, vr _ _ H1 Γ1 s1 h1 r_int z⟩, xr⟩
abbrev F3 := List T → Gp → K3 → Prop
def CallQ (X : Cx) (f : Value) (r3 : F3) : Prop := ∃ r, CallR X f r ∧ ∀ vs ts H Γ Q Z, Rs H vs ts → HR H Γ → r3 ts Γ Z → VR H Γ Z Q → r vs H Q
def eCB (r : F3) (t : A3) : E3 := fun Y τ Γ Z => t Y τ Γ fun ts Γ1 => r ts Γ1 Z
theorem cb_sim {r : List V → Hp → VK → Prop} {r3 : F3} {t : A3} (h : ∀ vs ts H Γ Q Z, Rs H vs ts → HR H Γ → r3 ts Γ Z → VR H Γ Z Q → r vs H Q) (σ : St) (H : Hp) (Q : VK) (q : liE E (eCB r3 t) σ H Q) : tCB r (liA E t) σ H Q := by
 obtain ⟨τ, Γ, Y, Z, rs, hr, t, vr, xr⟩ := q
 exact ⟨τ, Γ, Y, _, rs, hr, t, fun vs xs H1 Γ1 s1 h1 r1 z1 => h vs xs H1 Γ1 Q Z r1 h1 z1 (vr.mono s1), xr⟩
section
variable {x : Str} {p pos : Pos} {e : Expr} {es : List Expr} {t : A3} {id Tn : String} {r3 : F3}
theorem qe_callB (hc : CallQ X (.builtin id) r3) (hg : Gl X x) (hm : X.mg x = none) (hv : bootBuiltins x = some (.builtin id)) (ha : PA X (e :: es) (liA E t)) (hn : x ≠ "__name__" := by decide) (hdb : (x == ("__debug__" : Str)) = false := by decide)
  (he : starEach (e :: es) X.env = (false, eval e X.env) :: starEach es X.env := by rfl) (hpl : (backTo pos (starEach es X.env)).any (·.1) = false := by rfl) : PE X (.Call (.Name x p) (e :: es) [] pos) (liE E (eCB r3 t)) := by
 obtain ⟨r, hr, h⟩ := hc
 exact weakE (pe_callB hr hg hm hv ha hn hdb he hpl) (cb_sim h)
theorem qe_callTy (hc : CallQ X (.type Tn) r3) (hg : Gl X x) (hm : X.mg x = none) (hv : bootBuiltins x = some (.type Tn)) (ha : PA X (e :: es) (liA E t)) (hn : x ≠ "__name__" := by decide) (hdb : (x == ("__debug__" : Str)) = false := by decide)
  (he : starEach (e :: es) X.env = (false, eval e X.env) :: starEach es X.env := by rfl) (hpl : (backTo pos (starEach es X.env)).any (·.1) = false := by rfl) : PE X (.Call (.Name x p) (e :: es) [] pos) (liE E (eCB r3 t)) := by
 obtain ⟨r, hr, h⟩ := hc
 exact weakE (pe_callTy hr hg hm hv ha hn hdb he hpl) (cb_sim h)
end
theorem rs1 {H : Hp} {vs : List V} {x : T} (h : Rs H vs [x]) : ∃ v, vs = [v] ∧ R H v x := by
 obtain ⟨v, ws, rfl, a, b⟩ := rs_inv h
 exact ⟨v, by rw [rs_inv0 b], a⟩
theorem rs2 {H : Hp} {vs : List V} {x y : T} (h : Rs H vs [x, y]) : ∃ v w, vs = [v, w] ∧ R H v x ∧ R H w y := by
 obtain ⟨v, ws, rfl, a, b⟩ := rs_inv h
 obtain ⟨w, rfl, c⟩ := rs1 b
 exact ⟨v, w, rfl, a, c⟩
theorem cq_len : CallQ X (.builtin "len") (fun xs Γ Z => ∃ x ts, xs = [x] ∧ it3 Γ x = some ts ∧ Z (.int ts.length) Γ) :=
 ⟨_, call_len_seq, fun vs xs H Γ Q Z r hr q0 vr => by
  obtain ⟨x, ts, e, h, z⟩ := q0
  subst e
  obtain ⟨v, rfl, rv⟩ := rs1 r
  obtain ⟨p, us, rfl, sq, q⟩ := it3_r (K := X.K) rv hr h
  exact ⟨p, us, rfl, sq, by rw [q.length]; exact vr _ _ H Γ .refl hr r_int z⟩⟩
theorem cq_lens : CallQ X (.builtin "len") (fun xs Γ Z => ∃ z : Str, xs = [.str z] ∧ z.length ≤ sizeLine ∧ Z (.int z.length) Γ) :=
 ⟨_, call_len_str, fun vs xs H Γ Q Z r hr q0 vr => by
  obtain ⟨w, e, l, z⟩ := q0
  subst e
  obtain ⟨v, rfl, rv⟩ := rs1 r
  exact ⟨w, by rw [i_str rv], l, vr _ _ H Γ .refl hr r_int z⟩⟩
theorem cq_tuple : CallQ X (.type "tuple") (fun xs Γ Z => ∃ x ts, xs = [x] ∧ it3 Γ x = some ts ∧ Z (.tup ts) Γ) :=
 ⟨_, call_tuple_of, fun vs xs H Γ Q Z r hr q0 vr => by
  obtain ⟨x, ts, e, h, z⟩ := q0
  subst e
  obtain ⟨v, rfl, rv⟩ := rs1 r
  cases x with
  | tup us =>
   cases h
   obtain ⟨a, ws, rfl, ha, q⟩ := i_tup rv
   exact ⟨a, ws, rfl, .inr ⟨SqT.of ha, vr _ _ H Γ .refl hr (r_tup ha q) z⟩⟩
  | ref a =>
   obtain ⟨us, sq, q⟩ := it3_a (K := X.K) hr h
   refine ⟨a, us, by rw [i_ref rv], .inl ⟨sq, fun l hl => ?_⟩⟩
   have k := keep_new (o := .tup us) hl
   exact vr _ _ _ Γ (.keep k) (hr.keep k) (r_tup upd_same (q.mono (tq_kp k))) z
  | _ => cases h⟩
theorem cq_list : CallQ X (.type "list") (fun xs Γ Z => ∃ x ts, xs = [x] ∧ it3 Γ x = some ts ∧ ∀ p, Γ p = none → Z (.ref p) (up Γ p (.lst ts))) :=
 ⟨_, call_list_of, fun vs xs H Γ Q Z r hr q0 vr => by
  obtain ⟨x, ts, e, h, z⟩ := q0
  subst e
  obtain ⟨v, rfl, rv⟩ := rs1 r
  obtain ⟨p, us, rfl, sq, q⟩ := it3_r (K := X.K) rv hr h
  refine ⟨p, us, rfl, sq, fun l hl => ?_⟩
  have k := keep_new (o := .lst us) hl
  exact vr _ _ _ _ (.make hl) (hr.make (o3 := .lst ts) hl ⟨_, upd_same, q.mono (tq_kp k)⟩) r_ref (z l (hr.free hl))⟩
theorem cq_max2 (hc : X.calm = true) : CallQ X (.builtin "max") (fun xs Γ Z => ∃ i j, xs = [.int i, .int j] ∧ Z (.int (if j > i then j else i)) Γ) :=
 ⟨_, call_max2 hc, fun vs xs H Γ Q Z r hr q0 vr => by
  obtain ⟨i, j, e, z⟩ := q0
  subst e
  obtain ⟨v, w, rfl, a, b⟩ := rs2 r
  exact ⟨i, j, by rw [i_int a, i_int b], vr _ _ H Γ .refl hr r_int z⟩⟩
theorem cq_min2 (hc : X.calm = true) : CallQ X (.builtin "min") (fun xs Γ Z => ∃ i j, xs = [.int i, .int j] ∧ Z (.int (if j < i then j else i)) Γ) :=
 ⟨_, call_min2 hc, fun vs xs H Γ Q Z r hr q0 vr => by
  obtain ⟨i, j, e, z⟩ := q0
  subst e
  obtain ⟨v, w, rfl, a, b⟩ := rs2 r
  exact ⟨i, j, by rw [i_int a, i_int b], vr _ _ H Γ .refl hr r_int z⟩⟩
theorem cq_str : CallQ X (.type "str") (fun xs Γ Z => ∃ i : Int, xs = [.int i] ∧ i.natAbs.log2 < 1920 ∧ Z (.str (toString i)) Γ) :=
 ⟨_, call_str_int, fun vs xs H Γ Q Z r hr q0 vr => by
  obtain ⟨i, e, l, z⟩ := q0
  subst e
  obtain ⟨v, rfl, a⟩ := rs1 r
  exact ⟨i, by rw [i_int a], l, vr _ _ H Γ .refl hr r_str z⟩⟩
theorem rs_ints {H : Hp} : ∀ {ns : List Int} {vs : List V}, Rs H vs (ns.map T.int) → vs = ns.map V.int
 | [], vs, h => rs_inv0 h
 | n :: r, vs, h => by
  obtain ⟨v, ws, rfl, a, b⟩ := rs_inv h
  rw [i_int a, rs_ints b]; rfl
theorem rs_bls {H : Hp} : ∀ {ns : List Bool} {vs : List V}, Rs H vs (ns.map T.bl) → vs = ns.map V.bl
 | [], vs, h => rs_inv0 h
 | n :: r, vs, h => by
  obtain ⟨v, ws, rfl, a, b⟩ := rs_inv h
  rw [i_bl a, rs_bls b]; rfl
theorem rs_strs {H : Hp} : ∀ {ns : List Str} {vs : List V}, Rs H vs (ns.map T.str) → vs = ns.map V.str
 | [], vs, h => rs_inv0 h
 | n :: r, vs, h => by
  obtain ⟨v, ws, rfl, a, b⟩ := rs_inv h
  rw [i_str a, rs_strs b]; rfl
theorem cq_sum (hc : X.calm = true) : CallQ X (.builtin "sum") (fun xs Γ Z => ∃ (p : Addr) (ns : List Int), xs = [.ref p] ∧ it3 Γ (.ref p) = some (ns.map T.int) ∧ Z (.int ns.sum) Γ) :=
 ⟨_, call_sumL hc, fun vs xs H Γ Q Z r hr q0 vr => by
  obtain ⟨p, ns, e, g, z⟩ := q0
  subst e
  obtain ⟨v, rfl, a⟩ := rs1 r
  obtain ⟨us, sq, q⟩ := it3_a (K := X.K) hr g
  rw [rs_ints q] at sq
  exact ⟨p, ns, by rw [i_ref a], sq, vr _ _ H Γ .refl hr r_int z⟩⟩
theorem cq_all (hc : X.calm = true) : CallQ X (.builtin "all") (fun xs Γ Z => ∃ (p : Addr) (bs : List Bool), xs = [.ref p] ∧ it3 Γ (.ref p) = some (bs.map T.bl) ∧ Z (.bl (bs.all id)) Γ) :=
 ⟨_, call_allL hc, fun vs xs H Γ Q Z r hr q0 vr => by
  obtain ⟨p, ns, e, g, z⟩ := q0
  subst e
  obtain ⟨v, rfl, a⟩ := rs1 r
  obtain ⟨us, sq, q⟩ := it3_a (K := X.K) hr g
  rw [rs_bls q] at sq
  exact ⟨p, ns, by rw [i_ref a], sq, vr _ _ H Γ .refl hr r_bl z⟩⟩
def tyOf (Γ : Gp) : T → Option String
 | .non => some "NoneType" | .bl _ => some "bool" | .int _ => some "int" | .str _ => some "str" | .tup _ => some "tuple"
 | .ref a => match Γ a with | some (.lst _) => some "list" | some (.dK _) => some "dict" | _ => none
 | .ty _ => none
 | .scr _ _ _ => none
theorem tyOf_r {K : PySem.W.Frag} {H : Hp} {Γ : Gp} {v : V} {x : T} {n : String} (r : R H v x) (hr : HR H Γ) (h : tyOf Γ x = some n) : TyOf K H v (.type n) := by
 cases x with
 | non => cases h; rw [i_non r]; exact .non
 | bl b => cases h; rw [i_bl r]; exact .bl b
 | int i => cases h; rw [i_int r]; exact .int i
 | str z => cases h; rw [i_str r]; exact .str z
 | tup ts => cases h; obtain ⟨a, vs, e, ha, _⟩ := i_tup r; rw [e]; exact .tup ha
 | ty n => cases h
 | scr K a ts => cases h
 | ref a =>
  rw [i_ref r]
  have h : (match Γ a with | some (.lst _) => some "list" | some (.dK _) => some "dict" | _ => none) = some n := h
  split at h
  ·rename_i g; cases h; obtain ⟨vs, hv, _⟩ := hr a _ g; exact .lst hv
  ·rename_i g; cases h; obtain ⟨vs, hv, _⟩ := hr a _ g; exact .dK hv
  ·cases h
def eInst (K : PySem.W.Frag) (Ty : String) (te : E3) : E3 := fun Y τ Γ Z => te Y τ Γ fun x Γ1 => ∃ n b, tyOf Γ1 x = some n ∧ PySem.W.kitOne K (.type n) (.type Ty) = some b ∧ Z (.bl b) Γ1
theorem qe_inst {x : Expr} {te : E3} {p p2 pos : Pos} {Tn : Str} {Ty : String} (hg : Gl X "isinstance") (hm : X.mg "isinstance" = none) (hgT : Gl X Tn) (hmT : X.mg Tn = none) (hvT : bootBuiltins Tn = some (.type Ty)) (he : PE X x (liE E te)) (hn : Tn ≠ "__name__" := by decide) (hdT : (Tn == ("__debug__" : Str)) = false := by decide)
  (hs : starEach [x, .Name Tn p2] X.env = (false, eval x X.env) :: starEach [.Name Tn p2] X.env := by rfl) (hs2 : starEach [.Name Tn p2] X.env = [(false, eval (.Name Tn p2) X.env)] := by rfl)
  (hpl : (backTo pos (starEach [.Name Tn p2] X.env)).any (·.1) = false := by rfl) : PE X (.Call (.Name "isinstance" p) [x, .Name Tn p2] [] pos) (liE E (eInst X.K Ty te)) :=
 weakE3 (pe_inst hg hm hgT hmT hvT he hn hdT hs hs2 hpl) fun σ H Q τ Γ Y Z rs hr t vr xr =>
  ⟨τ, Γ, Y, _, rs, hr, t, fun v x H1 Γ1 s1 h1 r1 ⟨n, b, ty, k, z⟩ => ⟨v, rfl, .type n, b, tyOf_r r1 h1 ty, k, vr _ _ H1 Γ1 s1 h1 r_bl z⟩, xr⟩
def tru3 (Γ : Gp) : T → Option Bool
 | .non => some false | .bl b => some b | .int i => some (i != 0) | .tup ts => some (!ts.isEmpty)
 | .str z => if z.length ≤ sizeLine then some ((z.length : Int) != 0) else none
 | .ref a => match Γ a with | some (.lst ts) => some (!ts.isEmpty) | some (.dK kvs) => some (!kvs.isEmpty) | _ => none
 | .ty _ => none
 | .scr _ _ _ => none
theorem kempty {H : Hp} {us : List (Key × V)} {kvs : List (Key × T)} (q : Ks H us kvs) : us.isEmpty = kvs.isEmpty := by cases q <;> rfl
theorem tru3_r {K : PySem.W.Frag} {H : Hp} {Γ : Gp} {v : V} {x : T} {k : Bool} (r : R H v x) (hr : HR H Γ) (h : tru3 Γ x = some k) : TruV K v H k := by
 cases x with
 | non => cases h; rw [i_non r]; rfl
 | bl b => cases h; rw [i_bl r]; rfl
 | int i => cases h; rw [i_int r]; rfl
 | str z =>
  rw [i_str r]
  have h : (if z.length ≤ sizeLine then some ((z.length : Int) != 0) else none) = some k := h
  by_cases c : z.length ≤ sizeLine
  ·rw [if_pos c] at h; cases h; exact ⟨c, rfl⟩
  ·rw [if_neg c] at h; cases h
 | tup ts => cases h; obtain ⟨a, vs, e, ha, q⟩ := i_tup r; rw [e]; exact .inr (.inl ⟨vs, SqT.of ha, by rw [empty_r q]⟩)
 | ty n => cases h
 | scr K a ts => cases h
 | ref a =>
  rw [i_ref r]
  have h : (match Γ a with | some (.lst ts) => some (!ts.isEmpty) | some (.dK kvs) => some (!kvs.isEmpty) | _ => none) = some k := h
  split at h
  ·rename_i g; cases h; obtain ⟨vs, hv, q⟩ := hr a _ g; exact .inl ⟨vs, SqL.of hv, by rw [empty_r q]⟩
  ·rename_i g; cases h; obtain ⟨vs, hv, q⟩ := hr a _ g; exact .inr (.inr ⟨vs, hv, by rw [kempty q]⟩)
  ·cases h
def eTru (t : E3) : T3 := fun Y τ Γ Z => t Y τ Γ fun x Γ1 => ∃ k, tru3 Γ1 x = some k ∧ Z k Γ1
theorem qt_truth {a : Expr} {ta : E3} (ha : PE X a (liE E ta)) (he : ∀ whole, isTrue a X.env whole = (do let v ← whole; standAt a.pos; holding [v] (truthy v))) : PT X a (liT E (eTru ta)) :=
 weakT3 (pt_truth ha he) fun σ H Q τ Γ Y Z rs hr t vr xr =>
  ⟨τ, Γ, Y, _, rs, hr, t, fun v x H1 Γ1 s1 h1 r1 ⟨k, tr, z⟩ => ⟨k, tru3_r r1 h1 tr, vr _ H1 Γ1 s1 h1 z⟩, xr⟩
theorem cq_lenC : CallQ X (.builtin "len") (fun xs Γ Z => ∃ a ts, xs = [.scr X.K a ts] ∧ Z (.int ts.length) Γ) :=
 ⟨_, call_len_seq, fun vs xs H Γ Q Z r hr q0 vr => by
  obtain ⟨a, ts, e, z⟩ := q0
  subst e
  obtain ⟨v, rfl, rv⟩ := rs1 r
  obtain ⟨rfl, us, sq, q⟩ := i_scr rv
  exact ⟨a, us, rfl, .inl sq.sq, by rw [q.length]; exact vr _ _ H Γ .refl hr r_int z⟩⟩
theorem qe_ixC (ha : PE X a (liE E ta)) (hb : PE X b (liE E tb)) (hs : PlainIx b) : PE X (.Subscript a b pos) (liE E (eOp (fun x y Γ Z => ∃ p ts i t, x = .scr X.K p ts ∧ y = .int i ∧ atI ts i = some t ∧ Z t Γ) ta tb)) :=
 weakE (pe_ix ix_list ha hb hs) (op_sim fun x y a b H Γ Q Z ra rb hr q0 vr => by
  obtain ⟨p, ts, i, t, ea, eb, h, z⟩ := q0
  subst ea eb
  obtain ⟨rfl, vs, sq, q⟩ := i_scr ra
  obtain ⟨v, hv, r⟩ := at_r q h
  exact ⟨p, vs, i, v, rfl, i_int rb, sq.sq, hv, vr _ _ H Γ .refl hr r z⟩)
end
end L3
set_option Elab.async false
set_option linter.all false
set_option maxRecDepth 100000
namespace L3
open PySem PySem.Spec L2
open PyProof.Rows hiding St
section
variable {X : Cx} {E : St → XK} {tg l : Expr} {tl : E3} {pos p : Pos}
abbrev gT : Gp → Prop := fun _ => True
def iTp (tl : E3) : I3 := fun Y τ Γ Z => tl Y τ Γ fun x Γ1 => ∃ ts, x = .tup ts ∧ Z ts gT Γ1
theorem walk_tup {K : PySem.W.Frag} {H : Hp} {a : Addr} {vs : List V} {ts : List T} (ha : H a = some (.tup vs)) (q : Rs H vs ts) : Walks (Itt K a) ts gT H where
 go := fun i H' Γ t hr _ hi => ⟨vs, vs[i]'(by rw [q.length]; exact hi), SqT.of (t.1 a vs ha), by simp⟩
 yld := fun i H' Γ x H2 t hr _ hi q0 => by
  obtain ⟨e, y⟩ := q0
  subst e
  obtain ⟨t', e', r⟩ := (q.mono t).getV (y vs (SqT.of (t.1 a vs ha)))
  exact ⟨.refl, hr, t', e', r⟩
 stop := fun H' Γ t hr _ => ⟨vs, SqT.of (t.1 a vs ha), by rw [q.length]; exact Nat.le_refl _⟩
theorem qi_tup (hl : PE X l (liE E tl)) : PI X tg l (liI E (iTp tl)) :=
 weakI3 (pi_tup hl) fun σ H Q τ Γ Y Z rs hr t vr xr => ⟨τ, Γ, Y, _, rs, hr, t, fun v x H1 Γ1 s1 h1 r1 ⟨ts, ex, z⟩ => by
  subst ex
  obtain ⟨a, vs, rfl, ha, q⟩ := i_tup r1
  exact ⟨a, rfl, ⟨vs, SqT.of ha⟩, vr _ ts gT H1 Γ1 s1 h1 (walk_tup ha q) z⟩, xr⟩
def iLs (tl : E3) : I3 := fun Y τ Γ Z => tl Y τ Γ fun x Γ1 => ∃ a ts, x = .ref a ∧ it3 Γ1 (.ref a) = some ts ∧ Z ts (fun Γ' => it3 Γ' (.ref a) = some ts) Γ1
theorem walk_list {K : PySem.W.Frag} {H : Hp} {a : Addr} {ts : List T} : Walks (Itl K a) ts (fun Γ' => it3 Γ' (.ref a) = some ts) H where
 go := fun i H' Γ t hr g hi => by
  obtain ⟨vs, sq, q⟩ := it3_a (K := K) hr g
  exact ⟨vs, vs[i]'(by rw [q.length]; exact hi), sq, by simp⟩
 yld := fun i H' Γ x H2 t hr g hi q0 => by
  obtain ⟨e, y⟩ := q0
  subst e
  obtain ⟨vs, sq, q⟩ := it3_a (K := K) hr g
  obtain ⟨t', e', r⟩ := q.getV (y vs sq)
  exact ⟨.refl, hr, t', e', r⟩
 stop := fun H' Γ t hr g => by
  obtain ⟨vs, sq, q⟩ := it3_a (K := K) hr g
  exact ⟨vs, sq, by rw [q.length]; exact Nat.le_refl _⟩
theorem qi_list (hl : PE X l (liE E tl)) : PI X tg l (liI E (iLs tl)) :=
 weakI3 (pi_list hl) fun σ H Q τ Γ Y Z rs hr t vr xr => ⟨τ, Γ, Y, _, rs, hr, t, fun v x H1 Γ1 s1 h1 r1 ⟨a, ts, ex, g, z⟩ => by
  subst ex
  obtain ⟨vs, sq, q⟩ := it3_a (K := X.K) h1 g
  exact ⟨a, i_ref r1, ⟨vs, sq⟩, vr _ ts _ H1 Γ1 s1 h1 walk_list z⟩, xr⟩
def rngT (lo : Int) : Nat → List T
 | 0 => []
 | n + 1 => .int lo :: rngT (lo + 1) n
theorem rngT_len : ∀ (n : Nat) (lo : Int), (rngT lo n).length = n
 | 0, _ => rfl
 | n + 1, lo => by rw [rngT, List.length_cons, rngT_len n]
theorem rngT_get : ∀ (n : Nat) (lo : Int) (i : Nat), i < n → (rngT lo n)[i]? = some (.int (lo + i))
 | 0, _, i, h => absurd h (Nat.not_lt_zero _)
 | n + 1, lo, 0, _ => by rw [rngT]; simp
 | n + 1, lo, i + 1, h => by
  rw [rngT, List.getElem?_cons_succ, rngT_get n (lo + 1) i (by omega)]
  congr 2
  omega
theorem walk_range {H : Hp} (lo : Int) (n : Nat) : Walks (Itr lo n) (rngT lo n) gT H where
 go := fun i H' Γ t hr _ hi => by rw [rngT_len] at hi; exact hi
 yld := fun i H' Γ x H2 t hr _ hi q0 => by
  obtain ⟨e, y⟩ := q0
  subst e y
  rw [rngT_len] at hi
  exact ⟨.refl, hr, _, rngT_get n lo i hi, r_int⟩
 stop := fun H' Γ t hr _ => by rw [rngT_len]; exact Nat.le_refl _
def iRg1 (ta : A3) : I3 := fun Y τ Γ Z => ta Y τ Γ fun xs Γ1 => ∃ j : Int, xs = [.int j] ∧ -(2 ^ 62) ≤ j ∧ j < 2 ^ 62 ∧ Z (rngT 0 j.toNat) gT Γ1
theorem qi_range1 {a : Expr} {ta : A3} (hg : Gl X "range") (hm : X.mg "range" = none) (ha : PA X [a] (liA E ta)) (hs : starEach [a] X.env = [(false, eval a X.env)] := by rfl) : PI X tg (.Call (.Name "range" p) [a] [] pos) (liI E (iRg1 ta)) :=
 weakI3 (pi_range1 hg hm ha hs) fun σ H Q τ Γ Y Z rs hr t vr xr => ⟨τ, Γ, Y, _, rs, hr, t, fun vs xs H1 Γ1 s1 h1 r1 ⟨j, ex, b1, b2, z⟩ => by
  subst ex
  obtain ⟨v, rfl, a⟩ := rs1 r1
  exact ⟨j, by rw [i_int a], b1, b2, vr _ _ gT H1 Γ1 s1 h1 (walk_range 0 _) z⟩, xr⟩
def zipT : List T → List T → List T
 | x :: r, y :: q => .tup [x, y] :: zipT r q
 | _, _ => []
theorem zipT_len : ∀ {xs ys : List T}, (zipT xs ys).length = min xs.length ys.length
 | [], _ => by simp [zipT]
 | _ :: _, [] => by simp [zipT]
 | x :: r, y :: q => by rw [zipT, List.length_cons, zipT_len, List.length_cons, List.length_cons]; omega
theorem zipT_get : ∀ {xs ys : List T} {i : Nat} {x y : T}, xs[i]? = some x → ys[i]? = some y → (zipT xs ys)[i]? = some (.tup [x, y])
 | [], _, _, _, _, h, _ => by simp at h
 | _ :: _, [], _, _, _, _, h => by simp at h
 | a :: r, b :: q, 0, x, y, h, h' => by cases h; cases h'; rfl
 | a :: r, b :: q, i + 1, x, y, h, h' => by rw [zipT, List.getElem?_cons_succ]; exact zipT_get (by simpa using h) (by simpa using h')
def iZp (ta : A3) : I3 := fun Y τ Γ Z => ta Y τ Γ fun xs Γ1 => ∃ ts us, xs = [.tup ts, .tup us] ∧ Z (zipT ts us) gT Γ1
theorem walk_zip {K : PySem.W.Frag} {H : Hp} {a b : Addr} {vs ws : List V} {ts us : List T} (ha : H a = some (.tup vs)) (q : Rs H vs ts) (hb : H b = some (.tup ws)) (q' : Rs H ws us) : Walks (Itz K a b) (zipT ts us) gT H where
 go := fun i H' Γ t hr _ hi => by
  rw [zipT_len] at hi
  exact ⟨vs, ws, vs[i]'(by rw [q.length]; omega), ws[i]'(by rw [q'.length]; omega), SqT.of (t.1 a vs ha), SqT.of (t.1 b ws hb), by simp, by simp⟩
 yld := fun i H' Γ v H2 t hr _ hi q0 => by
  obtain ⟨p, x, y, hp, e1, e2, y1, y2⟩ := q0
  subst e1 e2
  obtain ⟨t1, f1, r1⟩ := (q.mono t).getV (y1 vs (SqT.of (t.1 a vs ha)))
  obtain ⟨t2, f2, r2⟩ := (q'.mono t).getV (y2 ws (SqT.of (t.1 b ws hb)))
  have k := keep_new (o := .tup [x, y]) hp
  exact ⟨.keep k, hr.keep k, _, zipT_get f1 f2, r_tup upd_same (rs_cons (r1.mono (tq_kp k)) (rs_cons (r2.mono (tq_kp k)) rs_nil))⟩
 stop := fun H' Γ t hr _ => ⟨vs, ws, SqT.of (t.1 a vs ha), SqT.of (t.1 b ws hb), by rw [zipT_len, q.length, q'.length]; omega⟩
theorem qi_zip {a b : Expr} {ta : A3} {elts : List Expr} {kk : Nat} {tpos : Pos} (hg : Gl X "zip") (hm : X.mg "zip" = none) (ha : PA X [a, b] (liA E ta)) (hs : starEach [a, b] X.env = [(false, eval a X.env), (false, eval b X.env)] := by rfl) (hs2 : starEach [b] X.env = [(false, eval b X.env)] := by rfl) :
  PI X (.Tuple elts kk tpos) (.Call (.Name "zip" p) [a, b] [] pos) (liI E (iZp ta)) :=
 weakI3 (pi_zip hg hm ha hs hs2) fun σ H Q τ Γ Y Z rs hr t vr xr => ⟨τ, Γ, Y, _, rs, hr, t, fun vs xs H1 Γ1 s1 h1 r1 ⟨ts, us, ex, z⟩ => by
  subst ex
  obtain ⟨v, w, rfl, a, b⟩ := rs2 r1
  obtain ⟨pa, va, rfl, ha, qa⟩ := i_tup a
  obtain ⟨pb, vb, rfl, hb, qb⟩ := i_tup b
  exact ⟨pa, pb, va, vb, rfl, SqT.of ha, SqT.of hb, vr _ _ gT H1 Γ1 s1 h1 (walk_zip ha qa hb qb) z⟩, xr⟩
def enumT (n : Nat) : List T → List T
 | [] => []
 | x :: r => .tup [.int n, x] :: enumT (n + 1) r
theorem enumT_len : ∀ {xs : List T} {n : Nat}, (enumT n xs).length = xs.length
 | [], _ => rfl
 | x :: r, n => by rw [enumT, List.length_cons, enumT_len, List.length_cons]
theorem enumT_get : ∀ {xs : List T} {n i : Nat} {x : T}, xs[i]? = some x → (enumT n xs)[i]? = some (.tup [.int ((n + i : Nat) : Int), x])
 | [], _, _, _, h => by simp at h
 | a :: r, n, 0, x, h => by cases h; rfl
 | a :: r, n, i + 1, x, h => by
  rw [enumT, List.getElem?_cons_succ, enumT_get (n := n + 1) (by simpa using h)]
  congr 4
  omega
def iEn (ta : A3) : I3 := fun Y τ Γ Z => ta Y τ Γ fun xs Γ1 => ∃ ts, xs = [.tup ts] ∧ Z (enumT 0 ts) gT Γ1
theorem walk_enum {K : PySem.W.Frag} {H : Hp} {a : Addr} {vs : List V} {ts : List T} (ha : H a = some (.tup vs)) (q : Rs H vs ts) : Walks (Ite K a) (enumT 0 ts) gT H where
 go := fun i H' Γ t hr _ hi => by
  rw [enumT_len] at hi
  exact ⟨vs, vs[i]'(by rw [q.length]; omega), SqT.of (t.1 a vs ha), by simp⟩
 yld := fun i H' Γ v H2 t hr _ hi q0 => by
  obtain ⟨p, x, hp, e1, e2, y1⟩ := q0
  subst e1 e2
  obtain ⟨t1, f1, r1⟩ := (q.mono t).getV (y1 vs (SqT.of (t.1 a vs ha)))
  have k := keep_new (o := .tup [.int i, x]) hp
  refine ⟨.keep k, hr.keep k, _, enumT_get f1, r_tup upd_same (rs_cons ?_ (rs_cons (r1.mono (tq_kp k)) rs_nil))⟩
  rw [Nat.zero_add]
  exact r_int
 stop := fun H' Γ t hr _ => ⟨vs, SqT.of (t.1 a vs ha), by rw [enumT_len, q.length]⟩
theorem qi_enum {a : Expr} {ta : A3} {elts : List Expr} {kk : Nat} {tpos : Pos} (hg : Gl X "enumerate") (hm : X.mg "enumerate" = none) (ha : PA X [a] (liA E ta)) (hs : starEach [a] X.env = [(false, eval a X.env)] := by rfl) :
  PI X (.Tuple elts kk tpos) (.Call (.Name "enumerate" p) [a] [] pos) (liI E (iEn ta)) :=
 weakI3 (pi_enum hg hm ha hs) fun σ H Q τ Γ Y Z rs hr t vr xr => ⟨τ, Γ, Y, _, rs, hr, t, fun vs xs H1 Γ1 s1 h1 r1 ⟨ts, ex, z⟩ => by
  subst ex
  obtain ⟨v, rfl, a⟩ := rs1 r1
  obtain ⟨pa, va, rfl, ha, qa⟩ := i_tup a
  exact ⟨pa, va, rfl, SqT.of ha, vr _ _ gT H1 Γ1 s1 h1 (walk_enum ha qa) z⟩, xr⟩
def signsT (z : Str) : List T := z.cps.toList.map fun c => .str ⟨#[c]⟩
def iSt (tl : E3) : I3 := fun Y τ Γ Z => tl Y τ Γ fun x Γ1 => ∃ z, x = .str z ∧ Z (signsT z) gT Γ1
theorem walk_str {H : Hp} (z : Str) : Walks (Its z) (signsT z) gT H where
 go := fun i H' Γ t hr _ hi => by
  unfold signsT at hi
  rw [List.length_map, Array.length_toList] at hi
  exact hi
 yld := fun i H' Γ x H2 t hr _ hi q0 => by
  obtain ⟨e, c, hc, ex⟩ := q0
  subst e ex
  refine ⟨.refl, hr, .str ⟨#[c]⟩, ?_, r_str⟩
  unfold signsT
  rw [List.getElem?_map, Array.getElem?_toList, hc]
  rfl
 stop := fun H' Γ t hr _ => by
  show z.cps.size ≤ (signsT z).length
  unfold signsT
  rw [List.length_map, Array.length_toList]
  exact Nat.le_refl _
theorem qi_str (hl : PE X l (liE E tl)) : PI X tg l (liI E (iSt tl)) :=
 weakI3 (pi_str hl) fun σ H Q τ Γ Y Z rs hr t vr xr => ⟨τ, Γ, Y, _, rs, hr, t, fun v x H1 Γ1 s1 h1 r1 ⟨z, ex, zz⟩ => by
  subst ex
  exact ⟨z, i_str r1, vr _ _ gT H1 Γ1 s1 h1 (walk_str z) zz⟩, xr⟩
abbrev M3r := T → List T → Gp → K3 → Prop
def MQ (X : Cx) (id : String) (r3 : M3r) : Prop := ∃ r, MtR X id r ∧ ∀ v x vs ts H Γ Q Z, R H v x → Rs H vs ts → HR H Γ → r3 x ts Γ Z → VR H Γ Z Q → r v vs H Q
def eBM (Tn : String) (r3 : M3r) (to : E3) (t : A3) : E3 := fun Y τ Γ Z => to Y τ Γ fun x Γ1 => tyOf Γ1 x = some Tn ∧ t Y τ Γ1 fun xs Γ2 => r3 x xs Γ2 Z
def eBM0 (Tn : String) (r3 : M3r) (to : E3) : E3 := fun Y τ Γ Z => to Y τ Γ fun x Γ1 => tyOf Γ1 x = some Tn ∧ r3 x [] Γ1 Z
theorem tyV_of {K : PySem.W.Frag} {H : Hp} {Γ : Gp} {v : V} {x : T} {n : String} (r : R H v x) (hr : HR H Γ) (h : tyOf Γ x = some n) (hn : n = "list" ∨ n = "str" ∨ n = "dict") : tyV K n v H := by
 have ty := tyOf_r (K := K) r hr h
 cases x with
 | non => cases h; rcases hn with h | h | h <;> exact absurd h (by decide)
 | bl b => cases h; rcases hn with h | h | h <;> exact absurd h (by decide)
 | int i => cases h; rcases hn with h | h | h <;> exact absurd h (by decide)
 | str z => cases h; rw [i_str r]; rfl
 | tup ts => cases h; rcases hn with h | h | h <;> exact absurd h (by decide)
 | ty n => cases h
 | scr K a ts => cases h
 | ref a =>
  rw [i_ref r]
  have h : (match Γ a with | some (.lst _) => some "list" | some (.dK _) => some "dict" | _ => none) = some n := h
  split at h
  ·rename_i g; cases h; obtain ⟨vs, hv, _⟩ := hr a _ g; exact .inl ⟨rfl, vs, SqL.of hv⟩
  ·rename_i g; cases h; obtain ⟨vs, hv, _⟩ := hr a _ g; exact .inr (.inr (.inl ⟨rfl, .inl ⟨vs, hv⟩⟩))
  ·cases h
section
variable {o e : Expr} {es : List Expr} {to : E3} {t : A3} {name : Str} {apos cpos : Pos} {Tn id : String} {r3 : M3r}
theorem qe_bm0 (pa : PlainAttrs Tn) (slot : Slot Tn name id) (hty : typeOf (.builtin id) = pure (.type "method_descriptor")) (hm : MQ X id r3) (ho : PE X o (liE E to)) (hn : Tn = "list" ∨ Tn = "str" ∨ Tn = "dict" := by decide)
  (hbase : attributeBase o name X.env (eval o X.env) = eval o X.env := by rfl) (hline : (apos.endLine == cpos.line) = true := by rfl) : PE X (.Call (.Attribute o name apos) [] [] cpos) (liE E (eBM0 Tn r3 to)) := by
 obtain ⟨r, hm, sim⟩ := hm
 exact weakE3 (pe_bm0 pa slot hty hm ho hbase hline) fun σ H Q τ Γ Y Z rs hr t vr xr => ⟨τ, Γ, Y, _, rs, hr, t, fun v x H1 Γ1 s1 h1 r1 ⟨ty, z⟩ =>
  ⟨tyV_of r1 h1 ty hn, sim v x [] [] H1 Γ1 Q Z r1 rs_nil h1 z (vr.mono s1)⟩, xr⟩
theorem qe_bm (pa : PlainAttrs Tn) (slot : Slot Tn name id) (hty : typeOf (.builtin id) = pure (.type "method_descriptor")) (hm : MQ X id r3) (ho : PE X o (liE E to)) (ha : PA X (e :: es) (liA E t)) (hn : Tn = "list" ∨ Tn = "str" ∨ Tn = "dict" := by decide)
  (hbase : attributeBase o name X.env (eval o X.env) = eval o X.env := by rfl)
  (hfew : ((backTo cpos (starEach (e :: es) X.env)).all (fun x => !x.1) && (backToKw cpos (keywordEach [] X.env)).all (fun x => x.1.isSome)
   && decide ((e :: es).length + ([] : List Keyword).length + (if ([] : List Keyword).isEmpty then 0 else 1) < 30)) = true := by rfl)
  (hline : (apos.endLine == cpos.line) = true := by rfl) (hs : starEach (e :: es) X.env = (false, eval e X.env) :: starEach es X.env := by rfl) (hplain : (backTo cpos (starEach es X.env)).any (·.1) = false := by rfl) :
  PE X (.Call (.Attribute o name apos) (e :: es) [] cpos) (liE E (eBM Tn r3 to t)) := by
 obtain ⟨r, hm, sim⟩ := hm
 exact weakE3 (pe_bm pa slot hty hm ho ha hbase hfew hline hs hplain) fun σ H Q τ Γ Y Z rs hr t vr xr => ⟨τ, Γ, Y, _, rs, hr, t, fun v x H1 Γ1 s1 h1 r1 ⟨ty, z⟩ =>
  ⟨tyV_of r1 h1 ty hn, τ, Γ1, Y, _, rs.mono s1.tq, h1, z, fun vs xs H2 Γ2 s2 h2 r2 z2 => sim v x vs xs H2 Γ2 Q Z (r1.mono s2.tq) r2 h2 z2 (vr.mono (s1.trans s2)), xr.mono s1⟩, xr⟩
end
theorem mq_append : MQ X "list.append" (fun x ts Γ Z => ∃ a us y, x = .ref a ∧ ts = [y] ∧ Γ a = some (.lst us) ∧ us.length < sizeLine ∧ Z .non (up Γ a (.lst (us ++ [y])))) :=
 ⟨_, mt_append, fun v x vs ts H Γ Q Z r rs hr q0 vr => by
  obtain ⟨a, us, y, ex, et, g, l, z⟩ := q0
  subst ex et
  obtain ⟨w, rfl, rw'⟩ := rs1 rs
  obtain ⟨ws, hw, q⟩ := hr a _ g
  refine ⟨a, ws, w, i_ref r, rfl, hw, by rw [q.length]; exact l, ?_⟩
  have s : Stp H Γ (upd H a (.lst (ws ++ [w]))) (up Γ a (.lst (us ++ [y]))) := .set hr g
  exact vr _ _ _ _ s (hr.set g ⟨_, upd_same, Rs.app (q.mono s.tq) (rs_cons (rw'.mono s.tq) rs_nil)⟩) r_non z⟩
theorem mq_pop : MQ X "list.pop" (fun x ts Γ Z => ∃ a us y, x = .ref a ∧ ts = [] ∧ Γ a = some (.lst us) ∧ us[us.length - 1]? = some y ∧ Z y (up Γ a (.lst us.dropLast))) :=
 ⟨_, mt_pop, fun v x vs ts H Γ Q Z r rs hr q0 vr => by
  obtain ⟨a, us, y, ex, et, g, l, z⟩ := q0
  subst ex et
  obtain ⟨ws, hw, q⟩ := hr a _ g
  obtain ⟨w, hw', rw'⟩ := q.get l
  refine ⟨a, ws, w, i_ref r, rs_inv0 rs, hw, by rw [q.length]; exact hw', ?_⟩
  have s : Stp H Γ (upd H a (.lst ws.dropLast)) (up Γ a (.lst us.dropLast)) := .set hr g
  refine vr _ _ _ _ s (hr.set g ⟨_, upd_same, ?_⟩) (rw'.mono s.tq) z
  have e : ∀ {H2 : Hp}, Rs H2 ws us → Rs H2 ws.dropLast us.dropLast := fun {H2} q2 => by
   rw [List.dropLast_eq_take, List.dropLast_eq_take, q2.length]
   exact Rs.take _ q2
  exact e (q.mono s.tq)⟩
theorem mq_extend : MQ X "list.extend" (fun x ts Γ Z => ∃ a b us ws, x = .ref a ∧ ts = [.ref b] ∧ Γ a = some (.lst us) ∧ Γ b = some (.lst ws) ∧ us.length + ws.length ≤ sizeLine ∧ Z .non (up Γ a (.lst (us ++ ws)))) :=
 ⟨_, mt_extend, fun v x vs ts H Γ Q Z r rs hr q0 vr => by
  obtain ⟨a, b, us, ws, ex, et, g, g', l, z⟩ := q0
  subst ex et
  obtain ⟨w, rfl, rw'⟩ := rs1 rs
  obtain ⟨va, hva, qa⟩ := hr a _ g
  obtain ⟨vb, hvb, qb⟩ := hr b _ g'
  refine ⟨a, b, va, vb, i_ref r, by rw [i_ref rw'], hva, hvb, by rw [qa.length, qb.length]; exact l, ?_⟩
  have s : Stp H Γ (upd H a (.lst (va ++ vb))) (up Γ a (.lst (us ++ ws))) := .set hr g
  exact vr _ _ _ _ s (hr.set g ⟨_, upd_same, Rs.app (qa.mono s.tq) (qb.mono s.tq)⟩) r_non z⟩
theorem mq_join : MQ X "str.join" (fun x ts Γ Z => ∃ (p : Addr) (ss : List Str), x = .str Str.empty ∧ ts = [.ref p] ∧ it3 Γ (.ref p) = some (ss.map T.str) ∧ ss.length ≤ 1000 ∧ (∀ y ∈ ss, y.length ≤ 1000) ∧ Z (.str (catS ss)) Γ) :=
 ⟨_, mt_join, fun v x vs ts H Γ Q Z r rs hr q0 vr => by
  obtain ⟨p, ss, ex, et, g, l, l2, z⟩ := q0
  subst ex et
  obtain ⟨w, rfl, rw'⟩ := rs1 rs
  obtain ⟨us, sq, q⟩ := it3_a (K := X.K) hr g
  rw [rs_strs q] at sq
  exact ⟨p, ss, i_str r, by rw [i_ref rw'], sq, l, l2, vr _ _ H Γ .refl hr r_str z⟩⟩
def eLZ (ta : A3) : E3 := fun Y τ Γ Z => ta Y τ Γ fun xs Γ1 => ∃ ts us, xs = [.tup ts, .tup us] ∧ ts.length = us.length ∧ ∀ p, Γ1 p = none → Z (.ref p) (up Γ1 p (.lst (zipT ts us)))
theorem rs_zip {H H0 : Hp} (t : Tq H0 H) : ∀ {xs ys : List V} {ts us : List T} {as : List Addr}, Rs H0 xs ts → Rs H0 ys us → xs.length = ys.length → as.length = xs.length → Prs H xs ys as → Rs H (as.map V.ref) (zipT ts us)
 | xs, ys, [], us, as, q, q', l, la, pr => by
  cases rs_inv0 q
  cases as with
  | nil => exact rs_nil
  | cons _ _ => cases la
 | xs, ys, t1 :: r, [], as, q, q', l, la, pr => by
  cases rs_inv0 q'
  obtain ⟨v, ws, rfl, a, b⟩ := rs_inv q
  cases l
 | xs, ys, t1 :: r, u1 :: r', as, q, q', l, la, pr => by
  obtain ⟨v, ws, rfl, a, b⟩ := rs_inv q
  obtain ⟨v', ws', rfl, a', b'⟩ := rs_inv q'
  cases as with
  | nil => cases la
  | cons p0 rest =>
   obtain ⟨x, y, e1, e2, h⟩ := pr 0 p0 rfl
   cases e1
   cases e2
   refine rs_cons (r_tup h (rs_cons (a.mono t) (rs_cons (a'.mono t) rs_nil))) (rs_zip t b b' (by simpa using l) (by simpa using la) fun j t e => ?_)
   exact pr (j + 1) t (by simpa using e)
theorem qe_listzip {a b : Expr} {ta : A3} {p1 p2 pos1 pos2 : Pos} (hc : X.calm = true) (hg : Gl X "list") (hm : X.mg "list" = none) (hg2 : Gl X "zip") (hm2 : X.mg "zip" = none) (ha : PA X [a, b] (liA E ta))
  (hs : starEach [a, b] X.env = [(false, eval a X.env), (false, eval b X.env)] := by rfl) (hs2 : starEach [b] X.env = [(false, eval b X.env)] := by rfl)
  (hz : starEach [.Call (.Name "zip" p2) [a, b] [] pos2] X.env = [(false, eval (.Call (.Name "zip" p2) [a, b] [] pos2) X.env)] := by rfl) :
  PE X (.Call (.Name "list" p1) [.Call (.Name "zip" p2) [a, b] [] pos2] [] pos1) (liE E (eLZ ta)) :=
 weakE3 (pe_listzip hc hg hm hg2 hm2 ha hs hs2 hz) fun σ H Q τ Γ Y Z rs hr t vr xr => ⟨τ, Γ, Y, _, rs, hr, t, fun vs xs H1 Γ1 s1 h1 r1 ⟨ts, us, ex, hl, z⟩ => by
  subst ex
  obtain ⟨v, w, rfl, a, b⟩ := rs2 r1
  obtain ⟨pa, va, rfl, ha, qa⟩ := i_tup a
  obtain ⟨pb, vb, rfl, hb, qb⟩ := i_tup b
  refine ⟨pa, pb, va, vb, rfl, SqT.of ha, SqT.of hb, by rw [qa.length, qb.length]; exact hl, fun L H' as hL k hl' la pr => ?_⟩
  have tq := tq_kp (kp0 k)
  have s2 : Stp H1 Γ1 H' (up Γ1 L (.lst (zipT ts us))) := by
   refine ⟨tq, fun x h z => ?_, fun x h g => ?_, fun x o h _ => kp0 k x o h⟩
   ·cases e : H1 x with
    | none => exact h e
    | some o => exact (by rw [kp0 k x o e] at z; cases z)
   ·have e : x ≠ L := fun e => h (by rw [e]; exact hL)
    rw [up_ne e]; exact g
  refine vr _ _ H' _ (s1.trans s2) (fun x o g => ?_) r_ref (z L (h1.free hL))
  by_cases e : x = L
  ·subst e; rw [up_same] at g; cases g; exact ⟨_, hl', rs_zip tq qa qb (by rw [qa.length, qb.length]; exact hl) la pr⟩
  ·rw [up_ne e] at g; exact (h1 x o g).mono tq (kp0 k x), xr⟩
def clsT : T → Option Value
 | .ref a => some (.ref a) | .ty n => some (.type n) | _ => none
def clsTs : List T → Option (List Value)
 | [] => some []
 | x :: r => match clsT x, clsTs r with | some v, some vs => some (v :: vs) | _, _ => none
theorem clsT_r {H : Hp} {v : V} {x : T} {c : Value} (r : R H v x) (h : clsT x = some c) : ClsV v c := by
 cases x with
 | ref a => cases h; rw [i_ref r]; exact .own a
 | ty n => cases h; rw [i_ty r]; exact .ty n
 | _ => cases h
theorem clsTs_r {H : Hp} : ∀ {ts : List T} {vs : List V} {cs : List Value}, Rs H vs ts → clsTs ts = some cs → ClsVs vs cs
 | [], vs, cs, r, h => by cases h; rw [rs_inv0 r]; exact .nil
 | x :: q, vs, cs, r, h => by
  obtain ⟨v, ws, rfl, a, b⟩ := rs_inv r
  unfold clsTs at h
  split at h
  ·rename_i e1 e2; cases h; exact .cons (clsT_r a e1) (clsTs_r b e2)
  ·cases h
theorem cq_instX : CallQ X (.builtin "isinstance") (fun xs Γ Z => ∃ (x D : Addr) (t : T) (c : Value) (b : Bool), xs = [.ref x, t] ∧ clsT t = some c ∧ ExC X.K D ∧ Γ x = some (.ext (ExAt x D)) ∧ PySem.W.kitOne X.K (.ref D) c = some b ∧ Z (.bl b) Γ) :=
 ⟨_, call_instX, fun vs xs H Γ Q Z r hr q0 vr => by
  obtain ⟨x, D, t, c, b, e, hc, ex, g, k, z⟩ := q0
  subst e
  obtain ⟨v, w, rfl, a, b'⟩ := rs2 r
  exact ⟨x, D, w, c, b, by rw [i_ref a], clsT_r b' hc, ex, hr x _ g, k, vr _ _ H Γ .refl hr r_bl z⟩⟩
theorem cq_instXT : CallQ X (.builtin "isinstance") (fun xs Γ Z => ∃ (x D : Addr) (ts : List T) (cs : List Value) (b : Bool), xs = [.ref x, .tup ts] ∧ clsTs ts = some cs ∧ ExC X.K D ∧ Γ x = some (.ext (ExAt x D)) ∧ PySem.W.kitAny X.K (.ref D) cs = some b ∧ Z (.bl b) Γ) :=
 ⟨_, call_instXT, fun vs xs H Γ Q Z r hr q0 vr => by
  obtain ⟨x, D, ts, cs, b, e, hc, ex, g, k, z⟩ := q0
  subst e
  obtain ⟨v, w, rfl, a, b'⟩ := rs2 r
  obtain ⟨p, us, rfl, hp, q⟩ := i_tup b'
  exact ⟨x, D, p, us, cs, b, by rw [i_ref a], hp, clsTs_r q hc, ex, hr x _ g, k, vr _ _ H Γ .refl hr r_bl z⟩⟩
theorem rev_sim {r : V → Hp → VK → Prop} {r3 : T → Gp → K3 → Prop} {te ts : E3} (h : ∀ v x H Γ Q Z, R H v x → HR H Γ → r3 x Γ Z → VR H Γ Z Q → r v H Q) (σ : St) (H : Hp) (Q : VK) (q : liE E (eRev r3 te ts) σ H Q) :
  liE E te σ H fun x H1 => liE E ts σ H1 fun y H2 => y = .int (-1) ∧ r x H2 Q := by
 obtain ⟨τ, Γ, Y, Z, rs, hr, t, vr, xr⟩ := q
 refine ⟨τ, Γ, Y, _, rs, hr, t, fun v x H1 Γ1 s1 h1 r1 z1 => ?_, xr⟩
 refine ⟨τ, Γ1, Y, _, rs.mono s1.tq, h1, z1, fun u y H2 Γ2 s2 h2 r2 z2 => ?_, xr.mono s1⟩
 obtain ⟨e, z2⟩ := z2
 subst e
 exact ⟨i_int r2, h v x H2 Γ2 Q Z (r1.mono s2.tq) h2 z2 (vr.mono (s1.trans s2))⟩
section
variable {e st : Expr} {te ts : E3} {p2 : Pos}
theorem qe_revS (he : PE X e (liE E te)) (hs : PE X st (liE E ts)) : PE X (.Subscript e (.Slice none none (some st) p2) pos) (liE E (eRev (fun x Γ Z => ∃ z : Str, x = .str z ∧ z.length ≤ sizeLine ∧ ∀ y : Str, y.length ≤ z.length → Z (.str y) Γ) te ts)) :=
 weakE (pe_rev rv_str he hs) (rev_sim fun v x H Γ Q Z r hr q0 vr => by
  obtain ⟨w, ex, l, z⟩ := q0
  subst ex
  exact ⟨w, i_str r, l, fun y hy => vr _ _ H Γ .refl hr r_str (z y hy)⟩)
end
end
end L3
set_option Elab.async false
set_option linter.all false
set_option maxRecDepth 100000
namespace L3
open PySem PySem.Spec L2
open PyProof.Rows hiding St
def Le (Γ Γ' : Gp) : Prop := ∀ a o, Γ a = some o → Γ' a = some o
theorem Le.refl {Γ : Gp} : Le Γ Γ := fun _ _ h => h
theorem Le.trans {Γ Γ1 Γ' : Gp} (a : Le Γ Γ1) (b : Le Γ1 Γ') : Le Γ Γ' := fun x o h => b x o (a x o h)
theorem Le.new {Γ : Gp} {p : Addr} {o : O} (h : Γ p = none) : Le Γ (up Γ p o) := fun b u q => by rw [up_ne (gnn q h)]; exact q
theorem HR.le {H : Hp} {Γ Γ' : Gp} (h : HR H Γ') (l : Le Γ Γ') : HR H Γ := fun a o e => h a o (l a o e)
def Kq (l : List Addr) (Γ Γ' : Gp) : Prop := ∀ b o, b ∉ l → Γ b = some o → Γ' b = some o
theorem Kq.refl {l : List Addr} {Γ : Gp} : Kq l Γ Γ := fun _ _ _ h => h
theorem Kq.trans {l : List Addr} {Γ Γ1 Γ' : Gp} (a : Kq l Γ Γ1) (b : Kq l Γ1 Γ') : Kq l Γ Γ' := fun c o n h => b c o n (a c o n h)
theorem Kq.mono {l l' : List Addr} {Γ Γ1 : Gp} (a : Kq l Γ Γ1) (s : ∀ b ∈ l, b ∈ l') : Kq l' Γ Γ1 := fun c o n h => a c o (fun z => n (s c z)) h
theorem Kq.new {l : List Addr} {Γ : Gp} {p : Addr} (h : Γ p = none) (o : O) : Kq l Γ (up Γ p o) := fun b u _ q => by rw [up_ne (gnn q h)]; exact q
theorem Kq.set {l : List Addr} {Γ : Gp} {p : Addr} (h : p ∈ l) (o : O) : Kq l Γ (up Γ p o) := fun b u n q => by
 have e : b ≠ p := fun z => n (by rw [z]; exact h)
 rw [up_ne e]; exact q
theorem Kq.setNew {l : List Addr} {Γ Γ1 : Gp} {p : Addr} (k : Kq l Γ Γ1) (h : Γ p = none) (o : O) : Kq l Γ (up Γ1 p o) := fun b u n q => by
 rw [up_ne (gnn q h)]; exact k b u n q
theorem Kq.le {Γ Γ' : Gp} (k : Kq [] Γ Γ') : Le Γ Γ' := fun a o h => k a o (by simp) h
theorem Le.kq {l : List Addr} {Γ Γ' : Gp} (k : Le Γ Γ') : Kq l Γ Γ' := fun a o _ h => k a o h
def Fr (l : List Addr) (Γ Γ' : Gp) : Prop := ∀ b, b ∉ l → Γ' b = Γ b
theorem Fr.refl {l : List Addr} {Γ : Gp} : Fr l Γ Γ := fun _ _ => rfl
theorem Fr.kq {l : List Addr} {Γ Γ' : Gp} (h : Fr l Γ Γ') : Kq l Γ Γ' := fun b o n q => by rw [h b n]; exact q
theorem Fr.trans {l : List Addr} {Γ Γ1 Γ' : Gp} (a : Fr l Γ Γ1) (b : Fr l Γ1 Γ') : Fr l Γ Γ' := fun x n => (b x n).trans (a x n)
theorem Fr.mono {l l' : List Addr} {Γ Γ1 : Gp} (a : Fr l Γ Γ1) (s : ∀ b ∈ l, b ∈ l') : Fr l' Γ Γ1 := fun c n => a c fun z => n (s c z)
theorem Fr.set {l : List Addr} {Γ : Gp} {p : Addr} (h : p ∈ l) (o : O) : Fr l Γ (up Γ p o) := fun b n => up_ne fun z => n (by rw [z]; exact h)
def dropK (Z : K3) : K3 := fun x Γ' => ∃ Γ2, Le Γ2 Γ' ∧ Z x Γ2
theorem drop0 {Z : K3} {x : T} {Γ Γ' : Gp} (k : Le Γ Γ') (z : Z x Γ) : dropK Z x Γ' := ⟨Γ, k, z⟩
theorem dropL1 {Z : K3} {x : T} {Γ Γ' : Gp} {a : Addr} {o : O} (k : Kq [a] Γ Γ') (h : Γ' a = some o) (z : Z x (up Γ a o)) : dropK Z x Γ' := ⟨up Γ a o, fun b u q => by
 by_cases e : b = a
 ·subst e; rw [up_same] at q; cases q; exact h
 ·rw [up_ne e] at q; exact k b u (by simpa using e) q, z⟩
theorem dropL2 {Z : K3} {x : T} {Γ Γ' : Gp} {a b : Addr} {o u : O} (k : Kq [a, b] Γ Γ') (h : Γ' a = some o) (h' : Γ' b = some u) (z : Z x (up (up Γ a o) b u)) : dropK Z x Γ' := ⟨up (up Γ a o) b u, fun c w q => by
 by_cases e : c = b
 ·subst e; rw [up_same] at q; cases q; exact h'
 ·rw [up_ne e] at q
  by_cases e2 : c = a
  ·subst e2; rw [up_same] at q; cases q; exact h
  ·rw [up_ne e2] at q; exact k c w (by simp [e, e2]) q, z⟩
theorem Stp.cut {H H' : Hp} {Γ Γ' Γ2 : Gp} (s : Stp H Γ H' Γ') (l : Le Γ2 Γ') : Stp H Γ H' Γ2 := ⟨s.tq, s.dom, fun a h g => by
 cases e : Γ2 a with
 | none => rfl
 | some o => exact (by have := l a o e; rw [s.new a h g] at this; cases this), s.frm⟩
section
variable {P : Program} {w : World} {K : PySem.W.Frag} {mg : Str → Option Value} {base : Heap}
theorem okd {x qual : Str} {st : Stmt} {f : Addr} {fd : FuncData} {N ps : List Str} {k : Nat} {sp : Sp3} (F : Fun K x qual st f fd) (S : FnScope N ps (defScope st)) (len : ∀ ts Γ Z Y, sp ts Γ Z Y → ts.length = ps.length)
  (hbody : ∀ (cdv : Value) (A : Around) (outer : List Env) (s : Shared) (H : Hp) (E : XK) (ts : List T) (Γ : Gp) (Z : K3) (Y : Value → Gp → Prop), Room k (A.deeper (envOfC qual (defScope st) s.heap.objs.size f cdv)) → sp ts Γ Z Y →
   ∃ t, PSs (cxOf CX0 P w K mg base N qual (defScope st) f cdv A outer s H E).nox (defBody st) (liS EN t) ∧ t Y0 { nx := fun _ Γ' => dropK Z .non Γ', rt := dropK Z } (start3 N ts) Γ) : FnOk P w K mg base CX0 (k + 1) f fd ps (liSp sp) := by
 refine F.ok S (fun vs H Q E q0 => by obtain ⟨ts, Γ, Z, Y, r, _, h, _⟩ := q0; rw [r.length]; exact len _ _ _ _ h) fun cdv A outer s H vs Q E hr ⟨ts, Γ, Z, Y, r, h, hsp, vr, xr⟩ => ?_
 obtain ⟨t, ht, hq⟩ := hbody cdv A outer s H E ts Γ Z Y hr hsp
 exact ⟨_, ht, start3 N ts, Γ, Y0, _, rs_start N r (by rw [len _ _ _ _ hsp]; exact sc_len S), h, hq, ⟨fun σ τ H' Γ' s' h' _ ⟨Γ2, l, z⟩ => vr .non .non H' Γ2 (s'.cut l) (h'.le l) r_non z, fun v x H' Γ' s' h' rv ⟨Γ2, l, z⟩ => vr v x H' Γ2 (s'.cut l) (h'.le l) rv z, fun _ _ _ _ _ _ _ z => z.elim, fun _ _ _ _ _ _ _ z => z.elim⟩, xr0⟩
theorem okdX {x qual : Str} {st : Stmt} {f : Addr} {fd : FuncData} {N ps : List Str} {k : Nat} {sp : Sp3} (F : Fun K x qual st f fd) (S : FnScope N ps (defScope st)) (len : ∀ ts Γ Z Y, sp ts Γ Z Y → ts.length = ps.length)
  (hbody : ∀ (cdv : Value) (A : Around) (outer : List Env) (s : Shared) (H : Hp) (E : XK) (ts : List T) (Γ : Gp) (Z : K3) (Y : Value → Gp → Prop), Room k (A.deeper (envOfC qual (defScope st) s.heap.objs.size f cdv)) → sp ts Γ Z Y →
   ∃ t, PSs (cxE P w K mg base N qual (defScope st) f cdv A outer s H E) (defBody st) (liS (fun _ => E) t) ∧ t (fun _ C Γ' => ∃ Γ2, Le Γ2 Γ' ∧ Y C Γ2) { nx := fun _ Γ' => dropK Z .non Γ', rt := dropK Z } (start3 N ts) Γ) : FnOk P w K mg base (CXe P w) (k + 1) f fd ps (liSp sp) := by
 refine F.okX S (fun vs H Q E q0 => by obtain ⟨ts, Γ, Z, Y, r, _, h, _⟩ := q0; rw [r.length]; exact len _ _ _ _ h) fun cdv A outer s H vs Q E hr ⟨ts, Γ, Z, Y, r, h, hsp, vr, xr⟩ => ?_
 obtain ⟨t, ht, hq⟩ := hbody cdv A outer s H E ts Γ Z Y hr hsp
 exact ⟨_, ht, start3 N ts, Γ, _, _, rs_start N r (by rw [len _ _ _ _ hsp]; exact sc_len S), h, hq, ⟨fun σ τ H' Γ' s' h' _ ⟨Γ2, l, z⟩ => vr .non .non H' Γ2 (s'.cut l) (h'.le l) r_non z, fun v x H' Γ' s' h' rv ⟨Γ2, l, z⟩ => vr v x H' Γ2 (s'.cut l) (h'.le l) rv z, fun _ _ _ _ _ _ _ z => z.elim, fun _ _ _ _ _ _ _ z => z.elim⟩, fun σ τ C H' Γ' s' h' _ ⟨Γ2, l, y⟩ => xr C H' Γ2 (s'.cut l) (h'.le l) y⟩
theorem noC {f : Addr} {fd : FuncData} {ps : List Str} {sp : Sp3} {k : Nat} {CX : CXT} (no : ∀ ts Γ Z Y, ¬ sp ts Γ Z Y) : FnOk P w K mg base CX k f fd ps (liSp sp) :=
 ⟨fun vs H Q E ⟨ts, Γ, Z, Y, _, _, h, _⟩ => absurd h (no _ _ _ _), fun A outer s H args us vs Q E _ _ _ _ ⟨ts, Γ, Z, Y, _, _, h, _⟩ => absurd h (no _ _ _ _)⟩
end
theorem at0 {α : Type} {t : α} {ts : List α} : atI (t :: ts) 0 = some t := by show atI (t :: ts) ((0 : Nat) : Int) = some t; exact atI_nat rfl
theorem at1 {α : Type} {t u : α} {ts : List α} : atI (t :: u :: ts) 1 = some u := by show atI (t :: u :: ts) ((1 : Nat) : Int) = some u; exact atI_nat rfl
section
variable {Y : X3} {τ : S3} {Γ : Gp} {Z : K3} {D : D3} {B : Bool → Gp → Prop} {N : S3 → Gp → Prop}
theorem t_var {i : Nat} {x : T} (h : τ[i]? = some (some x)) (z : Z x Γ) : eVar i Y τ Γ Z := ⟨x, h, z⟩
theorem t_c {x : T} (z : Z x Γ) : eC x Y τ Γ Z := z
theorem t_op {r : R3} {a b : E3} (h : a Y τ Γ fun x Γ1 => b Y τ Γ1 fun y Γ2 => r x y Γ2 Z) : eOp r a b Y τ Γ Z := h
theorem t_T {t : E3} (h : t Y τ Γ fun x Γ1 => ∃ k, x = .bl k ∧ B k Γ1) : eT t Y τ Γ B := h
theorem t_bl {b : Bool} {Q : Bool → Prop} (h : Q b) : ∃ k, T.bl b = .bl k ∧ Q k := ⟨b, rfl, h⟩
theorem t_seq {t u : C3} (h : t Y { D with nx := u Y D } τ Γ) : cSeq t u Y D τ Γ := h
theorem t_if {c : T3} {t u : C3} (h : c Y τ Γ fun b Γ1 => if b = true then t Y D τ Γ1 else u Y D τ Γ1) : cIf c t u Y D τ Γ := h
theorem t_set {i : Nat} {te : E3} (h : te Y τ Γ fun x Γ1 => D.nx (τ.set i (some x)) Γ1) : cSet i te Y D τ Γ := h
theorem t_ret {te : E3} (h : te Y τ Γ D.rt) : cRet te Y D τ Γ := h
theorem t_retN (h : D.rt .non Γ) : cRetN Y D τ Γ := h
theorem t_drop {te : E3} (h : te Y τ Γ fun _ Γ1 => D.nx τ Γ1) : cDrop te Y D τ Γ := h
theorem t_next (h : D.nx τ Γ) : cNext Y D τ Γ := h
theorem t_cnt (h : D.ct τ Γ) : cCont Y D τ Γ := h
theorem t_and {a b : E3} (h : a Y τ Γ fun x Γ1 => ∃ c, x = .bl c ∧ if c = true then b Y τ Γ1 Z else Z (.bl false) Γ1) : eAnd a b Y τ Γ Z := h
theorem t_or {a b : E3} (h : a Y τ Γ fun x Γ1 => ∃ c, x = .bl c ∧ if c = true then Z (.bl true) Γ1 else b Y τ Γ1 Z) : eOr a b Y τ Γ Z := h
theorem t_not {a : E3} (h : a Y τ Γ fun x Γ1 => ∃ c, x = .bl c ∧ Z (.bl (!c)) Γ1) : eNot a Y τ Γ Z := h
theorem t_band {a b : T3} (h : a Y τ Γ fun c Γ1 => if c = true then b Y τ Γ1 B else B false Γ1) : bAnd a b Y τ Γ B := h
theorem t_bor {a b : T3} (h : a Y τ Γ fun c Γ1 => if c = true then B true Γ1 else b Y τ Γ1 B) : bOr a b Y τ Γ B := h
theorem t_bnot {a : T3} (h : a Y τ Γ fun c Γ1 => B (!c) Γ1) : bNot a Y τ Γ B := h
theorem t_eif {c : T3} {a b : E3} (h : c Y τ Γ fun k Γ1 => if k = true then a Y τ Γ1 Z else b Y τ Γ1 Z) : eIf c a b Y τ Γ Z := h
theorem t_nil {A : List T → Gp → Prop} (h : A [] Γ) : aNil Y τ Γ A := h
theorem t_cons {A : List T → Gp → Prop} {te : E3} {t : A3} (h : te Y τ Γ fun x Γ1 => t Y τ Γ1 fun xs Γ2 => A (x :: xs) Γ2) : aCons te t Y τ Γ A := h
theorem t_tup {t : A3} (h : t Y τ Γ fun xs Γ1 => xs.length ≤ sizeLine ∧ Z (.tup xs) Γ1) : eTup t Y τ Γ Z := h
theorem t_lst {t : A3} (h : t Y τ Γ fun xs Γ1 => xs.length ≤ sizeLine ∧ ∀ p, Γ1 p = none → Z (.ref p) (up Γ1 p (.lst xs))) : eLst t Y τ Γ Z := h
theorem t_len {n : Nat} {A : Prop} (h : Nat.ble n 1000 = true) (a : A) : n ≤ sizeLine ∧ A := ⟨Nat.le_trans (Nat.le_of_ble_eq_true h) (by decide), a⟩
theorem t_call {sp : Sp3} {t : A3} (h : t Y τ Γ fun xs Γ1 => sp xs Γ1 Z fun _ _ => False) : eCall sp t Y τ Γ Z := h
theorem t_callX {sp : Sp3} {t : A3} (h : t Y τ Γ fun xs Γ1 => sp xs Γ1 Z (Y τ)) : eCallX sp t Y τ Γ Z := h
theorem t_cb {r : F3} {t : A3} (h : t Y τ Γ fun ts Γ1 => r ts Γ1 Z) : eCB r t Y τ Γ Z := h
theorem t_J {g : Int → Int → T} {i j : Int} (h : Z (g i j) Γ) : r3J g (.int i) (.int j) Γ Z := ⟨i, j, rfl, rfl, h⟩
theorem t_I {C : Int → Int → Prop} {g : Int → Int → T} {i j : Int} (c : C i j) (h : Z (g i j) Γ) : r3I C g (.int i) (.int j) Γ Z := ⟨i, j, rfl, rfl, c, h⟩
theorem t_eqS {a b : Str} (h : Z (.bl (decide (V.str a = V.str b))) Γ) : r3Eq (.str a) (.str b) Γ Z := ⟨_, _, rfl, rfl, rfl, h⟩
theorem t_eqI {a b : Int} (h : Z (.bl (decide (V.int a = V.int b))) Γ) : r3Eq (.int a) (.int b) Γ Z := ⟨_, _, rfl, rfl, rfl, h⟩
theorem t_neS {a b : Str} (h : Z (.bl (!decide (V.str a = V.str b))) Γ) : r3Ne (.str a) (.str b) Γ Z := ⟨_, _, rfl, rfl, rfl, h⟩
theorem t_neI {a b : Int} (h : Z (.bl (!decide (V.int a = V.int b))) Γ) : r3Ne (.int a) (.int b) Γ Z := ⟨_, _, rfl, rfl, rfl, h⟩
theorem t_ix0 {t : T} {ts : List T} (z : Z t Γ) : r3Ix (.tup (t :: ts)) (.int 0) Γ Z := ⟨_, 0, t, rfl, rfl, at0, z⟩
theorem t_ix1 {t u : T} {ts : List T} (z : Z u Γ) : r3Ix (.tup (t :: u :: ts)) (.int 1) Γ Z := ⟨_, 1, u, rfl, rfl, at1, z⟩
theorem t_bm {Tn : String} {r : M3r} {to : E3} {t : A3} (h : to Y τ Γ fun x Γ1 => tyOf Γ1 x = some Tn ∧ t Y τ Γ1 fun xs Γ2 => r x xs Γ2 Z) : eBM Tn r to t Y τ Γ Z := h
theorem t_bm0 {Tn : String} {r : M3r} {to : E3} (h : to Y τ Γ fun x Γ1 => tyOf Γ1 x = some Tn ∧ r x [] Γ1 Z) : eBM0 Tn r to Y τ Γ Z := h
theorem t_inst {K : PySem.W.Frag} {Ty : String} {te : E3} (h : te Y τ Γ fun x Γ1 => ∃ n b, tyOf Γ1 x = some n ∧ PySem.W.kitOne K (.type n) (.type Ty) = some b ∧ Z (.bl b) Γ1) : eInst K Ty te Y τ Γ Z := h
theorem t_tru {t : E3} (h : t Y τ Γ fun x Γ1 => ∃ k, tru3 Γ1 x = some k ∧ B k Γ1) : eTru t Y τ Γ B := h
theorem t_asg {te : E3} {g : G3} (h : te Y τ Γ fun x Γ1 => g Y x τ Γ1 D.nx) : cAsg te g Y D τ Γ := h
theorem t_hn {i : Nat} {x : T} (h : N (τ.set i (some x)) Γ) : hName i Y x τ Γ N := h
theorem t_ht {n : Nat} {gs : Gs3} {ts : List T} (l : Nat.beq ts.length n = true) (h : gs Y ts τ Γ N) : hTup n gs Y (.tup ts) τ Γ N := ⟨ts, rfl, Nat.eq_of_beq_eq_true l, h⟩
theorem t_hc {g : G3} {gs : Gs3} {x : T} {r : List T} (h : g Y x τ Γ fun τ1 Γ1 => gs Y r τ1 Γ1 N) : hCons g gs Y (x :: r) τ Γ N := ⟨x, r, rfl, h⟩
theorem t_h0 (h : N τ Γ) : hNil Y [] τ Γ N := ⟨rfl, h⟩
theorem t_hs {to ti : E3} {v : T} (h : to Y τ Γ fun o Γ1 => ti Y τ Γ1 fun i Γ2 => ∃ a ts k j, o = .ref a ∧ i = .int k ∧ Γ2 a = some (.lst ts) ∧ ixN ts.length k = some j ∧ N τ (up Γ2 a (.lst (ts.set j v)))) : hSub to ti Y v τ Γ N := h
theorem t_un {r : T → Gp → K3 → Prop} {a : E3} (h : a Y τ Γ fun x Γ1 => r x Γ1 Z) : eUn r a Y τ Γ Z := h
theorem t_neg {g : Int → T} {i : Int} (h : Z (g i) Γ) : r3U g (.int i) Γ Z := ⟨i, rfl, h⟩
theorem t_sl {r : L3r} {te : E3} {tl th : O3} (h : te Y τ Γ fun x Γ1 => tl Y τ Γ1 fun l Γ2 => th Y τ Γ2 fun u Γ3 => r x l u Γ3 Z) : eSl r te tl th Y τ Γ Z := h
theorem t_on {Q : Option Int → Gp → Prop} (h : Q none Γ) : oNone Y τ Γ Q := h
theorem t_os {Q : Option Int → Gp → Prop} {t : E3} (h : t Y τ Γ fun x Γ1 => ∃ i, x = .int i ∧ Q (some i) Γ1) : oSome t Y τ Γ Q := h
theorem t_oi {i : Int} {Q : Int → Prop} (h : Q i) : ∃ k, T.int i = .int k ∧ Q k := ⟨i, rfl, h⟩
theorem t_rev {r : T → Gp → K3 → Prop} {te ts : E3} (h : te Y τ Γ fun x Γ1 => ts Y τ Γ1 fun k Γ2 => k = .int (-1) ∧ r x Γ2 Z) : eRev r te ts Y τ Γ Z := h
theorem t_for {wi : I3} {g : G3} {tb : C3} (h : wi Y τ Γ fun ts gd Γ1 => wFor gd g tb Y D ts τ Γ1) : cFor wi g tb Y D τ Γ := h
theorem t_itp {tl : E3} {I : List T → (Gp → Prop) → Gp → Prop} (h : tl Y τ Γ fun x Γ1 => ∃ ts, x = .tup ts ∧ I ts gT Γ1) : iTp tl Y τ Γ I := h
theorem t_tp {ts : List T} {Q : List T → Prop} (h : Q ts) : ∃ us, T.tup ts = .tup us ∧ Q us := ⟨ts, rfl, h⟩
theorem t_cat {ts us : List T} (l : ts.length + us.length ≤ sizeLine) (h : Z (.tup (ts ++ us)) Γ) : r3Cat (.tup ts) (.tup us) Γ Z := ⟨ts, us, rfl, rfl, l, h⟩
theorem t_comp {wi : I3} {g : G3} {tc : T3} {te : E3} {own : List Str} {cap : List (Nat × Str)} (h : wi Y τ Γ fun ts gd Γ1 => ts.length ≤ sizeLine ∧ wComp gd g tc te (fun ys Γ2 => ∀ D, Γ2 D = none → Z (.ref D) (up Γ2 D (.lst ys))) ts (cSt own cap τ) [] Γ1) : eComp wi g tc te own cap Y τ Γ Z := h
theorem t_bt (h : B true Γ) : bTrue Y τ Γ B := h
theorem t_raise {C : Addr} {t : A3} (h : t Y τ Γ fun xs Γ1 => xs.length ≤ sizeLine ∧ Y τ (.ref C) Γ1) : cRaise C t Y D τ Γ := h
theorem t_rg1 {ta : A3} {I : List T → (Gp → Prop) → Gp → Prop} (h : ta Y τ Γ fun xs Γ1 => ∃ j : Int, xs = [.int j] ∧ -(2 ^ 62) ≤ j ∧ j < 2 ^ 62 ∧ I (rngT 0 j.toNat) gT Γ1) : iRg1 ta Y τ Γ I := h
theorem t_zp {ta : A3} {I : List T → (Gp → Prop) → Gp → Prop} (h : ta Y τ Γ fun xs Γ1 => ∃ ts us, xs = [.tup ts, .tup us] ∧ I (zipT ts us) gT Γ1) : iZp ta Y τ Γ I := h
theorem t_en {ta : A3} {I : List T → (Gp → Prop) → Gp → Prop} (h : ta Y τ Γ fun xs Γ1 => ∃ ts, xs = [.tup ts] ∧ I (enumT 0 ts) gT Γ1) : iEn ta Y τ Γ I := h
theorem t_ils {tl : E3} {I : List T → (Gp → Prop) → Gp → Prop} (h : tl Y τ Γ fun x Γ1 => ∃ a ts, x = .ref a ∧ it3 Γ1 (.ref a) = some ts ∧ I ts (fun Γ' => it3 Γ' (.ref a) = some ts) Γ1) : iLs tl Y τ Γ I := h
theorem t_ist {tl : E3} {I : List T → (Gp → Prop) → Gp → Prop} (h : tl Y τ Γ fun x Γ1 => ∃ z, x = .str z ∧ I (signsT z) gT Γ1) : iSt tl Y τ Γ I := h
theorem t_str {z : Str} {Q : Str → Prop} (h : Q z) : ∃ k, T.str z = .str k ∧ Q k := ⟨z, rfl, h⟩
theorem c_ifT {b : Bool} {A C : Prop} (h : b = true) (a : A) : if b = true then A else C := by rw [if_pos h]; exact a
theorem c_ifF {b : Bool} {A C : Prop} (h : b = false) (a : C) : if b = true then A else C := by rw [if_neg (by rw [h]; exact Bool.false_ne_true)]; exact a
theorem c_if {b : Bool} {A C : Prop} (h1 : b = true → A) (h2 : b = false → C) : if b = true then A else C := by
 cases b with
 | true => rw [if_pos rfl]; exact h1 rfl
 | false => rw [if_neg Bool.false_ne_true]; exact h2 rfl
theorem nocut {t : C3} (h : t Y D τ Γ) : cCut t Y D τ Γ := ⟨D.nx, h, fun _ _ z => z⟩
end
end L3
set_option Elab.async false
set_option linter.all false
set_option maxRecDepth 100000
namespace L3
open PySem PySem.Spec L2
open PyProof.Rows hiding St
section
variable {X : Cx}
theorem oq_eqT0 (hu : X.A.units < cLine) : OpQ X (compareOp .Eq) (fun x y Γ Z => ∃ ts, x = .tup ts ∧ y = .tup [] ∧ Z (.bl ts.isEmpty) Γ) :=
 ⟨_, op_eqT0 hu, fun x y a b H Γ Q Z ra rb hr q0 vr => by
  obtain ⟨ts, ea, eb, z⟩ := q0
  subst ea eb
  obtain ⟨p, vs, rfl, hp, q⟩ := i_tup ra
  obtain ⟨p', vs', rfl, hp', q'⟩ := i_tup rb
  rw [rs_inv0 q'] at hp'
  exact ⟨p, p', vs, rfl, rfl, hp, hp', by rw [empty_r q]; exact vr _ _ H Γ .refl hr r_bl z⟩⟩
theorem mq_index : MQ X "list.index" (fun x ts Γ Z => ∃ (p : Addr) (us : List T) (xs : List V) (y : T) (v : V) (j : Nat), x = .ref p ∧ ts = [y] ∧ it3 Γ (.ref p) = some us ∧ scs us = some xs ∧ sc y = some v ∧ flatV v = true ∧ xs.all flatV = true ∧ (∃ z, xs[j]? = some z ∧ eqV z v = true) ∧ (∀ m z, m < j → xs[m]? = some z → eqV z v = false) ∧ Z (.int j) Γ) :=
 ⟨_, mt_index, fun v x vs ts H Γ Q Z r rs hr q0 vr => by
  obtain ⟨p, us, xs, y, w, j, ex, et, g, es, ey, f1, f2, h1, h2, z⟩ := q0
  subst ex et
  obtain ⟨u, rfl, ru⟩ := rs1 rs
  obtain ⟨ws, sq, q⟩ := it3_a (K := X.K) hr g
  cases scs_r q es
  exact ⟨p, xs, w, j, i_ref r, by rw [sc_r ru ey], sq, f1, f2, h1, h2, vr _ _ H Γ .refl hr r_int z⟩⟩
theorem scs_strs : ∀ ss : List Str, scs (ss.map T.str) = some (ss.map V.str)
 | [] => rfl
 | s :: r => by rw [List.map_cons, List.map_cons, scs, scs_strs r]; rfl
end
end L3
namespace L3
open PySem PySem.Spec L2
section
variable {Y : X3} {τ : S3} {Γ : Gp} {Z : K3}
theorem t_1t {us : List T} {Q : List T → Prop} (h : Q us) : ∃ ts, [T.tup us] = [T.tup ts] ∧ Q ts := ⟨us, rfl, h⟩
theorem t_2t {us ws : List T} {Q : List T → List T → Prop} (h : Q us ws) : ∃ ts vs, [T.tup us, T.tup ws] = [T.tup ts, T.tup vs] ∧ Q ts vs := ⟨us, ws, rfl, h⟩
theorem t_eqSI {a : Str} {b : Int} (h : Z (.bl false) Γ) : r3Eq (.str a) (.int b) Γ Z := ⟨_, _, rfl, rfl, rfl, h⟩
theorem t_eqIS {a : Int} {b : Str} (h : Z (.bl false) Γ) : r3Eq (.int a) (.str b) Γ Z := ⟨_, _, rfl, rfl, rfl, h⟩
theorem t_neSI {a : Str} {b : Int} (h : Z (.bl true) Γ) : r3Ne (.str a) (.int b) Γ Z := ⟨_, _, rfl, rfl, rfl, h⟩
theorem t_neIS {a : Int} {b : Str} (h : Z (.bl true) Γ) : r3Ne (.int a) (.str b) Γ Z := ⟨_, _, rfl, rfl, rfl, h⟩
theorem t_gT {A : Prop} (h : A) : gT Γ ∧ A := ⟨trivial, h⟩
theorem d_str {a b : Str} (h : decide (V.str a = V.str b) = true) : a = b := V.str.inj (of_decide_eq_true h)
theorem d_strN {a b : Str} (h : decide (V.str a = V.str b) = false) : a ≠ b := fun e => of_decide_eq_false h (by rw [e])
theorem d_int {a b : Int} (h : decide (V.int a = V.int b) = true) : a = b := V.int.inj (of_decide_eq_true h)
theorem d_intN {a b : Int} (h : decide (V.int a = V.int b) = false) : a ≠ b := fun e => of_decide_eq_false h (by rw [e])
theorem t_lenT {us : List T} {Q : T → List T → Prop} (h : Q (.tup us) us) : ∃ x ts, [T.tup us] = [x] ∧ it3 Γ x = some ts ∧ Q x ts := ⟨.tup us, us, rfl, rfl, h⟩
end
end L3
namespace L3
open PySem PySem.Spec L2
section
variable {Y : X3} {τ : S3} {Γ : Gp} {Z : K3}
theorem t_chain {r r' : R3} {a b c : E3} (h : a Y τ Γ fun x Γ1 => b Y τ Γ1 fun y Γ2 => r x y Γ2 fun z Γ3 => ∃ k, z = .bl k ∧ (if k = true then c Y τ Γ3 fun w' Γ4 => r' y w' Γ4 Z else Z (.bl false) Γ3)) : eChain r r' a b c Y τ Γ Z := h
theorem t_inT {neg : Bool} {x : T} {u : V} {ts : List T} {us : List V} (h1 : sc x = some u) (h2 : scs ts = some us) (h3 : (flatV u && us.all flatV) = true) (z : Z (.bl (if neg then !inV u us else inV u us)) Γ) : r3In neg x (.tup ts) Γ Z := by
 rw [Bool.and_eq_true] at h3
 exact ⟨u, ts, us, h1, rfl, h2, h3.1, h3.2, z⟩
theorem t_inL {neg : Bool} {x : T} {u : V} {p : Addr} {ts : List T} {us : List V} (g : Γ p = some (.lst ts)) (h1 : sc x = some u) (h2 : scs ts = some us) (h3 : flatV u = true) (h4 : us.all flatV = true) (z : Z (.bl (if neg then !inV u us else inV u us)) Γ) : r3In neg x (.ref p) Γ Z :=
 ⟨u, ts, us, h1, it3_l g, h2, h3, h4, z⟩
theorem t_lenR {p : Addr} {ts : List T} {Q : T → List T → Prop} (g : Γ p = some (.lst ts)) (h : Q (.ref p) ts) : ∃ x us, [T.ref p] = [x] ∧ it3 Γ x = some us ∧ Q x us := ⟨.ref p, ts, rfl, it3_l g, h⟩
theorem t_ixR {p : Addr} {ts : List T} {i : Int} {t : T} (g : Γ p = some (.lst ts)) (h : atI ts i = some t) (z : Z t Γ) : r3Ix (.ref p) (.int i) Γ Z := ⟨ts, i, t, it3_l g, rfl, h, z⟩
theorem t_ixN {ts : List T} {i : Nat} {t : T} (h : ts[i]? = some t) (z : Z t Γ) : r3Ix (.tup ts) (.int (i : Nat)) Γ Z := ⟨ts, i, t, rfl, rfl, atI_nat h, z⟩
theorem t_tyL {p : Addr} {ts : List T} {A : Prop} (g : Γ p = some (.lst ts)) (h : A) : tyOf Γ (.ref p) = some "list" ∧ A := ⟨by show (match Γ p with | some (.lst _) => some "list" | some (.dK _) => some "dict" | _ => none) = _; rw [g], h⟩
theorem t_tyS {z : Str} {A : Prop} (h : A) : tyOf Γ (.str z) = some "str" ∧ A := ⟨rfl, h⟩
end
end L3
namespace L3
open PySem PySem.Spec L2
section
variable {Y : X3} {τ : S3} {Γ : Gp} {Z : K3} {N : S3 → Gp → Prop}
theorem t_2i {i j : Int} {Q : Int → Int → Prop} (h : Q i j) : ∃ i' j', [T.int i, T.int j] = [T.int i', T.int j'] ∧ Q i' j' := ⟨i, j, rfl, h⟩
theorem t_hsub {p : Addr} {ts : List T} {k : Int} {j : Nat} {v : T} (g : Γ p = some (.lst ts)) (h : ixN ts.length k = some j) (z : N τ (up Γ p (.lst (ts.set j v)))) : ∃ a us k' j', T.ref p = .ref a ∧ T.int k = .int k' ∧ Γ a = some (.lst us) ∧ ixN us.length k' = some j' ∧ N τ (up Γ a (.lst (us.set j' v))) := ⟨p, ts, k, j, rfl, rfl, g, h, z⟩
end
end L3
namespace L3
open PySem PySem.Spec L2
section
variable {Y : X3} {τ : S3} {Γ : Gp} {Z : K3} {N : S3 → Gp → Prop}
theorem t_e0 {A : Prop} (h : A) : T.tup [] = T.tup [] ∧ A := ⟨rfl, h⟩
end
end L3
namespace L3
open PySem PySem.Spec L2
section
variable {Y : X3} {τ : S3} {Γ : Gp} {Z : K3} {D : D3}
theorem t_try {K : PySem.W.Frag} {Cy : Addr} {j : Nat} {tb ts : C3} (h : tb (fun τ' C Γ' => PySem.W.exmOne K C (.ref Cy) = some true ∧ ∀ x, Γ' x = none →
 ts Y0 { nx := fun τ2 Γ2 => D.nx (τ2.set j none) Γ2, rt := D.rt, bk := fun τ2 Γ2 => D.bk (τ2.set j none) Γ2, ct := fun τ2 Γ2 => D.ct (τ2.set j none) Γ2 } (τ'.set j (some (.ref x))) (up Γ' x (.ext (excAt x C)))) D τ Γ) : cTry K Cy j tb ts Y D τ Γ := h
theorem t_lz {ta : A3} (h : ta Y τ Γ fun xs Γ1 => ∃ ts us, xs = [.tup ts, .tup us] ∧ ts.length = us.length ∧ ∀ p, Γ1 p = none → Z (.ref p) (up Γ1 p (.lst (zipT ts us)))) : eLZ ta Y τ Γ Z := h
end
mutual
/-- how great a value is -/
def tsz : T → Nat
 | .tup ts => 1 + tszs ts
 | .non => 1 | .bl _ => 1 | .int _ => 1 | .str _ => 1 | .ref _ => 1 | .ty _ => 1 | .scr _ _ _ => 1
def tszs : List T → Nat
 | [] => 0
 | t :: r => tsz t + tszs r
end
theorem tszs_app : ∀ (a b : List T), tszs (a ++ b) = tszs a + tszs b
 | [], b => by rw [List.nil_append, tszs, Nat.zero_add]
 | x :: r, b => by rw [List.cons_append, tszs, tszs, tszs_app r b, Nat.add_assoc]
theorem tsz_pos : ∀ x : T, 1 ≤ tsz x := fun x => by cases x <;> rw [tsz] <;> omega
theorem tszs_len : ∀ xs : List T, xs.length ≤ tszs xs
 | [] => Nat.zero_le _
 | x :: r => by rw [tszs, List.length_cons]; have := tszs_len r; have := tsz_pos x; omega
theorem tszs_le {B : Nat} : ∀ {xs : List T}, (∀ x ∈ xs, tsz x ≤ B) → tszs xs ≤ xs.length * B
 | [], _ => by rw [tszs]; exact Nat.zero_le _
 | x :: r, h => by
  rw [tszs, List.length_cons, Nat.add_mul, Nat.one_mul]
  have := h x (by simp)
  have := tszs_le fun y hy => h y (List.mem_cons_of_mem _ hy)
  omega
inductive Pl : T → Prop
 | int (i : Int) : Pl (.int i)
 | str {z : Str} : Pl (.str z)
 | tup {ts : List T} (q : ∀ t ∈ ts, Pl t) : Pl (.tup ts)
theorem zip_self : ∀ ts : List T, zipT ts ts = ts.map fun y => .tup [y, y]
 | [] => rfl
 | t :: r => by rw [zipT, zip_self r]; rfl
theorem oq_eqLI {X : Cx} (hu : X.A.units < cLine) : OpQ X (compareOp .Eq) (fun x y Γ Z => ∃ (a b : Addr) (ns ms : List Int), x = .ref a ∧ y = .ref b ∧ Γ a = some (.lst (ns.map T.int)) ∧ Γ b = some (.lst (ms.map T.int)) ∧ Z (.bl (decide (ns = ms))) Γ) :=
 ⟨_, op_eqLI hu, fun x y a b H Γ Q Z ra rb hr q0 vr => by
  obtain ⟨p, p', ns, ms, ea, eb, g1, g2, z⟩ := q0
  subst ea eb
  obtain ⟨vs, hv, q⟩ := hr p _ g1
  obtain ⟨vs', hv', q'⟩ := hr p' _ g2
  rw [rs_ints q] at hv
  rw [rs_ints q'] at hv'
  exact ⟨p, p', ns, ms, i_ref ra, i_ref rb, hv, hv', vr _ _ H Γ .refl hr r_bl z⟩⟩
theorem us1 {α : Type} {P : List α → Prop} (h : ∀ a0, P [a0]) : ∀ us : List α, us.length = 1 → P us
 | [a0], _ => h _
theorem us2 {α : Type} {P : List α → Prop} (h : ∀ a0 a1, P [a0, a1]) : ∀ us : List α, us.length = 2 → P us
 | [a0, a1], _ => h _ _
theorem us3 {α : Type} {P : List α → Prop} (h : ∀ a0 a1 a2, P [a0, a1, a2]) : ∀ us : List α, us.length = 3 → P us
 | [a0, a1, a2], _ => h _ _ _
theorem us4 {α : Type} {P : List α → Prop} (h : ∀ a0 a1 a2 a3, P [a0, a1, a2, a3]) : ∀ us : List α, us.length = 4 → P us
 | [a0, a1, a2, a3], _ => h _ _ _ _
end L3
set_option Elab.async false
set_option linter.all false
set_option maxRecDepth 100000
namespace L3
open PySem PySem.Spec L2
open PyProof.Rows hiding St
section
variable {X : Cx}
inductive Dq : Nat → T → Prop
 | flat {d : Nat} {t : T} {u : V} (h : sc t = some u) (f : flatV u = true) : Dq d t
 | tup {d : Nat} {ts : List T} (q : ∀ t ∈ ts, Dq d t) : Dq (d + 1) (.tup ts)
theorem eqV_self {v : V} (f : flatV v = true) : eqV v v = true := by
 cases v with
 | non => rfl
 | bl b => simp [eqV]
 | int i => simp [eqV]
 | str z => simp [eqV]
 | _ => exact absurd f (by simp [flatV])
theorem Rs.getD {H : Hp} : ∀ {vs : List V} {ts : List T} {j : Nat} {t : T}, Rs H vs ts → ts[j]? = some t → R H (vs.getD j .non) t
 | vs, [], j, t, q, h => by simp at h
 | vs, x :: ts, j, t, q, h => by
  obtain ⟨w, ws, rfl, r1, r2⟩ := rs_inv q
  cases j with
  | zero => cases h; exact r1
  | succ j =>
   show R H (ws.getD j .non) t
   exact Rs.getD r2 (by simpa using h)
theorem eq_deep {pins : List (Addr × Obj)} {s : Shared} {σ : L2.St} {H : Hp} (I : L2.Inv X pins σ H s) : ∀ {d : Nat} {t : T}, Dq d t → ∀ {A : Around} {v v' : V} {u u' : Value}, A.units + d < cLine → R H v t → R H v' t → RelV v u → RelV v' u' → SeqAt.EqAt A s u u' true := by
 intro d t h
 induction h with
 | @flat d t z h f =>
  intro A v v' u u' hu r r' x x'
  rw [sc_r r h] at x
  rw [sc_r r' h] at x'
  have := eqAt_V (A := A) (s := s) x x' f f
  rwa [eqV_self f] at this
 | @tup d ts q ih =>
  intro A v v' u u' hu r r' x x'
  obtain ⟨p, vs, rfl, hp, rr⟩ := i_tup r
  obtain ⟨p', vs', rfl, hp', rr'⟩ := i_tup r'
  cases x
  cases x'
  by_cases e : p = p'
  ·subst e
   exact SeqAt.EqAt.same _
  ·obtain ⟨its, rv, pl, hz⟩ := I.tuple (SqT.of (K := X.K) hp)
   obtain ⟨its2, rv2, pl2, hz2⟩ := I.tuple (SqT.of (K := X.K) hp')
   have l1 := rr.length
   have l2 := rr'.length
   have l3 := rv.length
   have l4 := rv2.length
   have := SeqAt.RcAt.tuples (A := A) (e := fun _ => true) pl pl2 (by omega) (fun j h1 h2 => ?_)
   ·refine SeqAt.EqAt.of_refs e ?_
    have hb : ((List.range (min its.toArray.size its2.toArray.size)).all (fun _ => true) && its.toArray.size == its2.toArray.size) = true := by
     rw [Bool.and_eq_true]
     exact ⟨List.all_eq_true.mpr fun _ _ => rfl, by rw [beq_iff_eq, List.size_toArray, List.size_toArray]; omega⟩
    rwa [hb] at this
   ·have h1' : j < ts.length := by rw [List.size_toArray] at h1; omega
    have g : ts[j]? = some ts[j] := List.getElem?_eq_getElem h1'
    exact ih _ (List.getElem_mem h1') (by show A.units + 1 + d < cLine; omega) (rr.getD g) (rr'.getD g) (Vals.at rv (by simpa using h1)) (Vals.at rv2 (by simpa using h2))
theorem op_neT (hu : X.A.units < cLine) : OpR X (compareOp .NotEq) (fun x y H Q => ∃ a b xs ys, x = .ref a ∧ y = .ref b ∧ SqT X.K H a xs ∧ SqT X.K H b ys ∧ xs.all flatV = true ∧ ys.all flatV = true ∧ Q (.bl (!eqL xs ys)) H) := by
 intro pins s σ H x y v u Q I rx ry h
 obtain ⟨a, b, xs, ys, rfl, rfl, ha, hb, fa, fb, q⟩ := h
 cases rx
 cases ry
 obtain ⟨its, rv, pl, hz⟩ := I.tuple ha
 obtain ⟨its2, rv2, pl2, hz2⟩ := I.tuple hb
 refine SeqAt.RcNeAt.tuples (e := fun j => eqV (xs.getD j .non) (ys.getD j .non)) pl pl2 hu (fun j h1 h2 => ?_) _ _ _ _ ⟨.bl (!eqL xs ys), H, I, ?_, q⟩
 ·exact eqAt_V (Vals.at rv (by simpa using h1)) (Vals.at rv2 (by simpa using h2)) (flat_at fa j) (flat_at fb j)
 ·unfold eqL
  rw [rv.length, rv2.length]
  rfl
theorem oq_neT (hu : X.A.units < cLine) : OpQ X (compareOp .NotEq) (fun x y Γ Z => ∃ ts us xs ys, x = .tup ts ∧ y = .tup us ∧ scs ts = some xs ∧ scs us = some ys ∧ xs.all flatV = true ∧ ys.all flatV = true ∧ Z (.bl (!eqL xs ys)) Γ) :=
 ⟨_, op_neT hu, fun x y a b H Γ Q Z ra rb hr q0 vr => by
  obtain ⟨ts, us, xs, ys, ea, eb, e1, e2, f1, f2, z⟩ := q0
  subst ea eb
  obtain ⟨p, vs, rfl, hp, q⟩ := i_tup ra
  obtain ⟨p', vs', rfl, hp', q'⟩ := i_tup rb
  cases scs_r q e1
  cases scs_r q' e2
  exact ⟨p, p', _, _, rfl, rfl, SqT.of hp, SqT.of hp', f1, f2, vr _ _ H Γ .refl hr r_bl z⟩⟩
end
end L3
set_option Elab.async false
set_option linter.all false
set_option maxRecDepth 100000
namespace L3
open PySem PySem.Spec L2
open PyProof.Rows hiding St
section
variable {X : Cx}
theorem op_eqSame {d : Nat} (hu : X.A.units + 1 + d < cLine) : OpR X (compareOp .Eq) (fun x y H Q => ∃ (a b : Addr) (xs ys : List V) (ts : List T), x = .ref a ∧ y = .ref b ∧ H a = some (.lst xs) ∧ H b = some (.lst ys) ∧ Rs H xs ts ∧ Rs H ys ts ∧ (∀ t ∈ ts, Dq d t) ∧ Q (.bl true) H) := by
 intro pins s σ H x y v u Q I rx ry h
 obtain ⟨a, b, xs, ys, ts, rfl, rfl, ha, hb, ra, rb, hq, q⟩ := h
 cases rx
 cases ry
 obtain ⟨its, rv, pl, hz⟩ := I.list (SqL.of (K := X.K) ha)
 obtain ⟨its2, rv2, pl2, hz2⟩ := I.list (SqL.of (K := X.K) hb)
 have l1 := ra.length
 have l2 := rb.length
 have l3 := rv.length
 have l4 := rv2.length
 refine SeqAt.eq_listAt (e := fun _ => true) pl.isList pl2.isList (by rw [List.size_toArray, List.size_toArray]; omega) (by omega) (fun j h1 h2 => ?_) ⟨.bl true, H, I, ?_, q⟩
 ·have h1' : j < ts.length := by rw [List.size_toArray] at h1; omega
  have g : ts[j]? = some ts[j] := List.getElem?_eq_getElem h1'
  exact eq_deep I (hq _ (List.getElem_mem h1')) (by show X.A.units + 1 + d < cLine; omega) (ra.getD g) (rb.getD g) (Vals.at rv (by simpa using h1)) (Vals.at rv2 (by simpa using h2))
 ·show _ = Value.bool true
  congr 1
  rw [List.all_eq_true.mpr fun _ _ => rfl]
theorem oq_eqSame {d : Nat} (hu : X.A.units + 1 + d < cLine) : OpQ X (compareOp .Eq) (fun x y Γ Z => ∃ (a b : Addr) (ts : List T), x = .ref a ∧ y = .ref b ∧ Γ a = some (.lst ts) ∧ Γ b = some (.lst ts) ∧ (∀ t ∈ ts, Dq d t) ∧ Z (.bl true) Γ) :=
 ⟨_, op_eqSame hu, fun x y a b H Γ Q Z ra rb hr q0 vr => by
  obtain ⟨p, p', ts, ea, eb, g1, g2, hq, z⟩ := q0
  subst ea eb
  obtain ⟨vs, hv, q⟩ := hr p _ g1
  obtain ⟨vs', hv', q'⟩ := hr p' _ g2
  exact ⟨p, p', vs, vs', ts, i_ref ra, i_ref rb, hv, hv', q, q', hq, vr _ _ H Γ .refl hr r_bl z⟩⟩
end
end L3
set_option Elab.async false
set_option linter.all false
set_option maxRecDepth 100000
namespace Tg
open PySem L2 L3
mutual
def Kd.tr : Kd → T
 | .num w => .tup [.str "num", .int w]
 | .text => .tup [.str "text"]
 | .row k => .tup [.str "row", k.tr]
 | .rec_ fs => .tup [.str "rec", .tup (trF fs)]
 | .pick fs => .tup [.str "pick", .tup (trF fs)]
def trF : List (Str × Kd) → List T
 | [] => []
 | (n, k) :: r => .tup [.str n, k.tr] :: trF r
end
theorem trF_map : ∀ fs : List (Str × Kd), trF fs = fs.map fun p => .tup [.str p.1, p.2.tr]
 | [] => rfl
 | (n, k) :: r => by rw [trF, trF_map r]; rfl
theorem trF_len (fs : List (Str × Kd)) : (trF fs).length = fs.length := by rw [trF_map, List.length_map]
theorem trF_get {fs : List (Str × Kd)} {i : Nat} {n : Str} {k : Kd} (h : fs[i]? = some (n, k)) : (trF fs)[i]? = some (.tup [.str n, k.tr]) := by rw [trF_map, List.getElem?_map, h]; rfl
theorem trF_app : ∀ (fs gs : List (Str × Kd)), trF (fs ++ gs) = trF fs ++ trF gs := fun fs gs => by rw [trF_map, trF_map, trF_map, List.map_append]
def findF : List (Str × Kd) → Str → Option (Nat × Kd)
 | [], _ => none
 | (m, k) :: r, n => if m = n then some (0, k) else (findF r n).map fun p => (p.1 + 1, p.2)
def byF (fs : List (Str × Kd)) : T → Option (Nat × Kd)
 | .str n => findF fs n
 | _ => none
def stepK : Kd → T → Option Kd
 | .row k, .int i => if 0 ≤ i ∧ i < 60 then some k else none
 | .rec_ fs, x => (byF fs x).map (·.2)
 | .pick fs, x => (byF fs x).map (·.2)
 | _, _ => none
def atK : Kd → List T → Option Kd
 | k, [] => some k
 | k, p :: r => match stepK k p with | some k' => atK k' r | none => none
inductive Sx : T → Prop
 | int (i : Int) : Sx (.int i)
 | str {z : Str} (l : z.length ≤ 1000) : Sx (.str z)
theorem findF_mem : ∀ {fs : List (Str × Kd)} {n : Str} {j : Nat} {k : Kd}, findF fs n = some (j, k) → fs[j]? = some (n, k)
 | [], _, _, _, h => by cases h
 | (m, q) :: r, n, j, k, h => by
  unfold findF at h
  by_cases e : m = n
  ·rw [if_pos e] at h; cases h; rw [e]; rfl
  ·rw [if_neg e] at h
   cases f : findF r n with
   | none => rw [f] at h; cases h
   | some p =>
    rw [f] at h
    cases h
    exact findF_mem (j := p.1) (k := p.2) f
theorem findF_some : ∀ {fs : List (Str × Kd)} {n : Str} {j : Nat} {k : Kd}, fs[j]? = some (n, k) → ∃ p, findF fs n = some p
 | [], _, _, _, h => by simp at h
 | (m, q) :: r, n, j, k, h => by
  unfold findF
  by_cases e : m = n
  ·rw [if_pos e]; exact ⟨_, rfl⟩
  ·rw [if_neg e]
   cases j with
   | zero => cases h; exact absurd rfl e
   | succ j =>
    obtain ⟨p, hp⟩ := findF_some (fs := r) (n := n) (j := j) (k := k) h
    rw [hp]; exact ⟨_, rfl⟩
theorem goodF_mem : ∀ {fs : List (Str × Kd)} {p : Str × Kd}, goodF fs → p ∈ fs → p.2.good
 | (nm, k) :: r, p, g, h => by
  unfold goodF at g
  rcases List.mem_cons.mp h with rfl | h
  ·exact g.2.1
  ·exact goodF_mem g.2.2 h
theorem goodF_nm : ∀ {fs : List (Str × Kd)} {p : Str × Kd}, goodF fs → p ∈ fs → Nm p.1
 | (nm, k) :: r, p, g, h => by
  unfold goodF at g
  rcases List.mem_cons.mp h with rfl | h
  ·exact g.1
  ·exact goodF_nm g.2.2 h
theorem byF_mem {fs : List (Str × Kd)} {x : T} {j : Nat} {k : Kd} (h : byF fs x = some (j, k)) : ∃ n, x = .str n ∧ fs[j]? = some (n, k) := by
 cases x with
 | str n => exact ⟨n, rfl, findF_mem h⟩
 | _ => cases h
theorem stepK_good {k k' : Kd} {x : T} (g : k.good) (h : stepK k x = some k') : k'.good ∧ k'.depth < k.depth := by
 cases k with
 | num w => cases x <;> cases h
 | text => cases x <;> cases h
 | row j =>
  unfold Kd.good at g
  rw [Kd.depth]
  cases x with
  | int i =>
   have h : (if 0 ≤ i ∧ i < 60 then some j else none) = some k' := h
   split at h
   ·cases h; exact ⟨g, by omega⟩
   ·cases h
  | _ => cases h
 | rec_ fs =>
  unfold Kd.good at g
  rw [Kd.depth]
  have h : (byF fs x).map (·.2) = some k' := h
  cases e : byF fs x with
  | none => rw [e] at h; cases h
  | some p =>
   rw [e] at h; cases h
   obtain ⟨n, _, m⟩ := byF_mem (j := p.1) (k := p.2) e
   have m := List.mem_of_getElem? m
   exact ⟨goodF_mem g.1 m, Nat.lt_succ_of_le (depthF_le m)⟩
 | pick fs =>
  unfold Kd.good at g
  rw [Kd.depth]
  have h : (byF fs x).map (·.2) = some k' := h
  cases e : byF fs x with
  | none => rw [e] at h; cases h
  | some p =>
   rw [e] at h; cases h
   obtain ⟨n, _, m⟩ := byF_mem (j := p.1) (k := p.2) e
   have m := List.mem_of_getElem? m
   exact ⟨goodF_mem g.1 m, Nat.lt_succ_of_le (depthF_le m)⟩
def okc (c : Nat) : Bool := decide (32 ≤ c) && decide (c ≤ 126) && !decide (c = 37)
inductive Has : Kd → T → Prop
 | num {w : Int} {i : Int} (l : -(65536 ^ w.toNat) ≤ 2 * i) (h : 2 * i < 65536 ^ w.toNat) : Has (.num w) (.int i)
 | text {z : Str} (l : z.length ≤ 60) (h : z.cps.toList.all okc = true) : Has .text (.str z)
 | row {k : Kd} {ts : List T} (l : ts.length ≤ 60) (q : ∀ t ∈ ts, Has k t) : Has (.row k) (.tup ts)
 | rec_ {fs : List (Str × Kd)} {ts : List T} (l : ts.length = fs.length) (q : ∀ (j : Nat) (n : Str) (k : Kd) (t : T), fs[j]? = some (n, k) → ts[j]? = some t → Has k t) : Has (.rec_ fs) (.tup ts)
 | pick {fs : List (Str × Kd)} {n : Str} {k : Kd} {j : Nat} {t : T} (f : findF fs n = some (j, k)) (q : Has k t) : Has (.pick fs) (.tup [.str n, t])
def stepW : Kd → T → T → Option (Kd × T)
 | .row k, .tup ts, .int i => if 0 ≤ i then (ts[i.toNat]?).map fun t => (k, t) else none
 | .rec_ fs, .tup ts, x => match byF fs x with | some (j, k) => (ts[j]?).map fun t => (k, t) | none => none
 | .pick fs, .tup [.str m, t], .str n => if m = n then (findF fs n).map fun p => (p.2, t) else none
 | _, _, _ => none
def partW : Kd → T → List T → Option (Kd × T)
 | k, w, [] => some (k, w)
 | k, w, p :: r => match stepW k w p with | some (k', w') => partW k' w' r | none => none
theorem stepW_ok {k k' : Kd} {w w' x : T} (g : k.good) (h : Has k w) (e : stepW k w x = some (k', w')) : Has k' w' ∧ k'.good ∧ k'.depth < k.depth := by
 cases h with
 | num l h => cases x <;> cases e
 | text l h => cases x <;> cases e
 | @row k ts l q =>
  unfold Kd.good at g
  rw [Kd.depth]
  cases x with
  | int i =>
   have e : (if 0 ≤ i then (ts[i.toNat]?).map fun t => (k, t) else none) = some (k', w') := e
   split at e
   ·cases f : ts[i.toNat]? with
    | none => rw [f] at e; cases e
    | some t => rw [f] at e; cases e; exact ⟨q _ (List.mem_of_getElem? f), g, by omega⟩
   ·cases e
  | _ => cases e
 | @rec_ fs ts l q =>
  unfold Kd.good at g
  rw [Kd.depth]
  have e : (match byF fs x with | some (j, k) => (ts[j]?).map fun t => (k, t) | none => none) = some (k', w') := e
  split at e
  ·rename_i j k f
   obtain ⟨n, _, m⟩ := byF_mem f
   cases f : ts[j]? with
   | none => rw [f] at e; cases e
   | some t => rw [f] at e; cases e; exact ⟨q j n _ _ m f, goodF_mem g.1 (List.mem_of_getElem? m), Nat.lt_succ_of_le (depthF_le (List.mem_of_getElem? m))⟩
  ·cases e
 | @pick fs m k j t f q =>
  unfold Kd.good at g
  rw [Kd.depth]
  cases x with
  | str n =>
   have e : (if m = n then (findF fs n).map fun p => (p.2, t) else none) = some (k', w') := e
   split at e
   ·rename_i c; subst c
    rw [f] at e; cases e
    have mm := List.mem_of_getElem? (findF_mem f)
    exact ⟨q, goodF_mem g.1 mm, Nat.lt_succ_of_le (depthF_le mm)⟩
   ·cases e
  | _ => cases e
end Tg
namespace Tg
open PySem L2 L3
theorem findF_at : ∀ {fs : List (Str × Kd)} {n : Str} {j : Nat} {k : Kd}, (fs.map (·.1)).Nodup → fs[j]? = some (n, k) → findF fs n = some (j, k)
 | [], _, _, _, _, h => by simp at h
 | (m, q) :: r, n, j, k, nd, h => by
  rw [List.map_cons, List.nodup_cons] at nd
  unfold findF
  cases j with
  | zero => cases h; rw [if_pos rfl]
  | succ j =>
   have h : r[j]? = some (n, k) := by simpa using h
   have ne : m ≠ n := fun e => nd.1 (by rw [e]; exact List.mem_map.mpr ⟨(n, k), List.mem_of_getElem? h, rfl⟩)
   rw [if_neg ne, findF_at nd.2 h]
   rfl
end Tg
namespace Tg
open PySem L2 L3
theorem partW_ok : ∀ {ps : List T} {k k' : Kd} {u u' : T}, k.good → Has k u → partW k u ps = some (k', u') → Has k' u' ∧ k'.good ∧ k'.depth ≤ k.depth
 | [], k, k', u, u', g, h, e => by cases e; exact ⟨h, g, Nat.le_refl _⟩
 | p :: r, k, k', u, u', g, h, e => by
  have e : (match stepW k u p with | some (k', w') => partW k' w' r | none => none) = some (k', u') := e
  cases f : stepW k u p with
  | none => rw [f] at e; cases e
  | some y =>
   obtain ⟨k2, u2⟩ := y
   rw [f] at e
   obtain ⟨a, b, c⟩ := stepW_ok g h f
   obtain ⟨a', b', c'⟩ := partW_ok b a e
   exact ⟨a', b', by omega⟩
end Tg
set_option Elab.async false
set_option linter.all false
set_option maxRecDepth 100000
namespace Tg
open PySem L2 L3
def placeW : Kd → T → T → Option Nat
 | .row _, .tup ts, .int i => if 0 ≤ i ∧ i < ts.length then some i.toNat else none
 | .rec_ fs, _, x => (byF fs x).map (·.1)
 | .pick fs, .tup [.str m, _], .str n => if m = n ∧ (findF fs n).isSome then some 1 else none
 | _, _, _ => none
theorem place_step {k : Kd} {u x : T} (h : Has k u) : (∀ j, placeW k u x = some j → ∃ ts k' u', u = .tup ts ∧ ts[j]? = some u' ∧ stepW k u x = some (k', u') ∧ stepK k x = some k') ∧ (placeW k u x = none → stepW k u x = none) := by
 cases h with
 | num l h => exact ⟨fun j e => (by cases x <;> cases e), fun _ => (by cases x <;> rfl)⟩
 | text l h => exact ⟨fun j e => (by cases x <;> cases e), fun _ => (by cases x <;> rfl)⟩
 | @row k ts l q =>
  cases x with
  | int i =>
   refine ⟨fun j e => ?_, fun e => ?_⟩
   ·have e : (if 0 ≤ i ∧ i < ts.length then some i.toNat else none) = some j := e
    split at e
    ·rename_i c
     cases e
     have hl : i.toNat < ts.length := by omega
     refine ⟨ts, k, ts[i.toNat], rfl, by simp [hl], ?_, if_pos ⟨c.1, by omega⟩⟩
     show (if 0 ≤ i then (ts[i.toNat]?).map fun t => (k, t) else none) = _
     rw [if_pos c.1, List.getElem?_eq_getElem hl]; rfl
    ·cases e
   ·have e : (if 0 ≤ i ∧ i < ts.length then some i.toNat else none) = none := e
    show (if 0 ≤ i then (ts[i.toNat]?).map fun t => (k, t) else none) = none
    split at e
    ·cases e
    ·rename_i c
     split
     ·rw [List.getElem?_eq_none (by omega)]; rfl
     ·rfl
  | _ => exact ⟨fun j e => (by cases e), fun _ => rfl⟩
 | @rec_ fs ts l q =>
  refine ⟨fun j e => ?_, fun e => ?_⟩
  ·have e : (byF fs x).map (·.1) = some j := e
   cases b : byF fs x with
   | none => rw [b] at e; cases e
   | some p =>
    rw [b] at e
    cases e
    obtain ⟨n, rfl, m⟩ := byF_mem (j := p.1) (k := p.2) b
    obtain ⟨hl, _⟩ := List.getElem?_eq_some_iff.mp m
    have hl' : p.1 < ts.length := by omega
    refine ⟨ts, p.2, ts[p.1], rfl, by simp [hl'], ?_, by show (byF fs _).map _ = _; rw [b]; rfl⟩
    show (match byF fs (.str n) with | some (j, k) => (ts[j]?).map fun t => (k, t) | none => none) = _
    rw [b]
    show (ts[p.1]?).map _ = _
    rw [List.getElem?_eq_getElem hl']; rfl
  ·have e : (byF fs x).map (·.1) = none := e
   show (match byF fs x with | some (j, k) => (ts[j]?).map fun t => (k, t) | none => none) = none
   cases b : byF fs x with
   | none => rfl
   | some p => rw [b] at e; cases e
 | @pick fs m k j t f q =>
  cases x with
  | str n =>
   refine ⟨fun j' e => ?_, fun e => ?_⟩
   ·have e : (if m = n ∧ (findF fs n).isSome then some 1 else none) = some j' := e
    split at e
    ·rename_i c
     cases e
     have c1 := c.1
     subst c1
     refine ⟨_, k, t, rfl, rfl, ?_, by show (findF fs m).map _ = _; rw [f]; rfl⟩
     show (if m = m then (findF fs m).map fun p => (p.2, t) else none) = _
     rw [if_pos rfl, f]; rfl
    ·cases e
   ·have e : (if m = n ∧ (findF fs n).isSome then some 1 else none) = none := e
    show (if m = n then (findF fs n).map fun p => (p.2, t) else none) = none
    split at e
    ·cases e
    ·rename_i c
     split
     ·rename_i c1
      subst c1
      exact absurd ⟨rfl, by rw [f]; rfl⟩ c
     ·rfl
  | _ => exact ⟨fun j e => (by cases e), fun _ => rfl⟩
structure StepV (k : Kd) (u p : T) (k' : Kd) (t : T) (ts : List T) (j : Nat) : Prop where
 tup : u = .tup ts
 at_ : placeW k u p = some j
 get : ts[j]? = some t
 kind : stepK k p = some k'
 has : Has k' t
 put : ∀ t', Has k' t' → Has k (.tup (ts.set j t'))
 place : ∀ t', placeW k (.tup (ts.set j t')) p = some j
 step : ∀ t', stepW k (.tup (ts.set j t')) p = some (k', t')
 placeO : ∀ t' q, q ≠ p → placeW k (.tup (ts.set j t')) q = placeW k u q
 stepO : ∀ t' q, q ≠ p → stepW k (.tup (ts.set j t')) q = stepW k u q
 apart : ∀ q j', q ≠ p → placeW k u q = some j' → j' ≠ j
theorem set_get {ts : List T} {j : Nat} {t t' : T} (h : ts[j]? = some t) : (ts.set j t')[j]? = some t' := by
 obtain ⟨l, _⟩ := List.getElem?_eq_some_iff.mp h
 rw [List.getElem?_set_self l]
theorem step_view {k k' : Kd} {u p t : T} (g : k.good) (h : Has k u) (w : stepW k u p = some (k', t)) : ∃ ts j, StepV k u p k' t ts j := by
 cases h with
 | num l h => cases p <;> cases w
 | text l h => cases p <;> cases w
 | @row k ts l q =>
  cases p with
  | int i =>
   have w : (if 0 ≤ i then (ts[i.toNat]?).map fun t => (k, t) else none) = some (k', t) := w
   split at w
   ·rename_i c
    cases f : ts[i.toNat]? with
    | none => rw [f] at w; cases w
    | some t =>
     rw [f] at w
     cases w
     obtain ⟨hl, _⟩ := List.getElem?_eq_some_iff.mp f
     refine ⟨ts, i.toNat, rfl, if_pos ⟨c, by omega⟩, f, if_pos ⟨c, by omega⟩, q _ (List.mem_of_getElem? f), fun t' h' => ?_, fun t' => ?_, fun t' => ?_, fun t' x hx => ?_, fun t' x hx => ?_, fun x j' hx e => ?_⟩
     ·refine Has.row (by rw [List.length_set]; exact l) fun y hy => ?_
      rcases List.mem_or_eq_of_mem_set hy with hy | rfl
      ·exact q _ hy
      ·exact h'
     ·exact if_pos ⟨c, by rw [List.length_set]; omega⟩
     ·show (if 0 ≤ i then ((ts.set i.toNat t')[i.toNat]?).map fun t => (k', t) else none) = _
      rw [if_pos c, set_get f]; rfl
     ·cases x with
      | int y => show (if 0 ≤ y ∧ y < (ts.set i.toNat t').length then some y.toNat else none) = (if 0 ≤ y ∧ y < ts.length then some y.toNat else none); rw [List.length_set]
      | _ => rfl
     ·cases x with
      | int y =>
       show (if 0 ≤ y then ((ts.set i.toNat t')[y.toNat]?).map fun t => (k', t) else none) = (if 0 ≤ y then (ts[y.toNat]?).map fun t => (k', t) else none)
       split
       ·rename_i c'
        have ne : i ≠ y := fun e => hx (by rw [e])
        rw [List.getElem?_set_ne (by omega)]
       ·rfl
      | _ => rfl
     ·cases x with
      | int y =>
       have e : (if 0 ≤ y ∧ y < ts.length then some y.toNat else none) = some j' := e
       have ne : i ≠ y := fun e => hx (by rw [e])
       split at e
       ·cases e; omega
       ·cases e
      | _ => cases e
   ·cases w
  | _ => cases w
 | @rec_ fs ts l q =>
  have w2 : (match byF fs p with | some (j, k) => (ts[j]?).map fun t => (k, t) | none => none) = some (k', t) := w
  clear w
  split at w2
  ·rename_i j k2 b
   obtain ⟨n, rfl, m⟩ := byF_mem b
   cases f : ts[j]? with
   | none => rw [f] at w2; cases w2
   | some t =>
    rw [f] at w2
    cases w2
    refine ⟨ts, j, rfl, by show (byF fs _).map _ = _; rw [b]; rfl, f, by show (byF fs _).map _ = _; rw [b]; rfl, q j n _ _ m f, fun t' h' => ?_, fun t' => by show (byF fs _).map _ = _; rw [b]; rfl, fun t' => ?_, fun t' x hx => rfl, fun t' x hx => ?_, fun x j' hx e => ?_⟩
    ·refine Has.rec_ (by rw [List.length_set]; exact l) fun i n' k3 y hi hy => ?_
     by_cases c : j = i
     ·subst c
      rw [set_get f] at hy
      cases hy
      rw [m] at hi
      cases hi
      exact h'
     ·rw [List.getElem?_set_ne c] at hy
      exact q i n' k3 y hi hy
    ·show (match byF fs (.str n) with | some (j', k) => ((ts.set j t')[j']?).map fun t => (k, t) | none => none) = _
     rw [b]
     show ((ts.set j t')[j]?).map _ = _
     rw [set_get f]; rfl
    ·show (match byF fs x with | some (j', k) => ((ts.set j t')[j']?).map fun t => (k, t) | none => none) = (match byF fs x with | some (j, k) => (ts[j]?).map fun t => (k, t) | none => none)
     cases bx : byF fs x with
     | none => rfl
     | some y =>
      obtain ⟨n', rfl, m'⟩ := byF_mem (j := y.1) (k := y.2) bx
      have ne : j ≠ y.1 := fun e => hx (by subst e; rw [m] at m'; cases m'; rfl)
      show ((ts.set j t')[y.1]?).map _ = (ts[y.1]?).map _
      rw [List.getElem?_set_ne ne]
    ·have e : (byF fs x).map (·.1) = some j' := e
     cases bx : byF fs x with
     | none => rw [bx] at e; cases e
     | some y =>
      rw [bx] at e
      cases e
      obtain ⟨n', rfl, m'⟩ := byF_mem (j := y.1) (k := y.2) bx
      exact fun e => hx (by have e : y.1 = j := e; rw [e, m] at m'; cases m'; rfl)
  ·cases w2
 | @pick fs m k2 j t2 f q =>
  cases p with
  | str n =>
   have w : (if m = n then (findF fs n).map fun p => (p.2, t2) else none) = some (k', t) := w
   split at w
   ·rename_i c; subst c
    rw [f] at w
    cases w
    refine ⟨[.str m, t], 1, rfl, if_pos ⟨rfl, by rw [f]; rfl⟩, rfl, by show (findF fs m).map _ = _; rw [f]; rfl, q, fun t' h' => Has.pick f h', fun t' => if_pos ⟨rfl, by rw [f]; rfl⟩, fun t' => ?_, fun t' x hx => ?_, fun t' x hx => ?_, fun x j' hx e => ?_⟩
    ·show (if m = m then (findF fs m).map fun p => (p.2, t') else none) = _
     rw [if_pos rfl, f]; rfl
    ·cases x <;> rfl
    ·cases x with
     | str y =>
      have ne : m ≠ y := fun e => hx (by rw [e])
      show (if m = y then (findF fs y).map fun p => (p.2, t') else none) = (if m = y then (findF fs y).map fun p => (p.2, t) else none)
      rw [if_neg ne, if_neg ne]
     | _ => rfl
    ·cases x with
     | str y =>
      have ne : m ≠ y := fun e => hx (by rw [e])
      have e : (if m = y ∧ (findF fs y).isSome then some 1 else none) = some j' := e
      rw [if_neg (fun c => ne c.1)] at e
      cases e
     | _ => cases e
   ·cases w
  | _ => cases w
def putJ (j : Nat) : T → T → T
 | .tup ts, t => .tup (ts.set j t)
 | u, _ => u
def inW : Kd → T → List T → T → Option T
 | _, _, [], v => some v
 | k, u, p :: r, v => match stepW k u p, placeW k u p with
  | some (k', t), some j => (inW k' t r v).map (putJ j u)
  | _, _ => none
theorem part_cons {k : Kd} {u p : T} {r : List T} {y : Kd × T} (e : partW k u (p :: r) = some y) : ∃ k' t, stepW k u p = some (k', t) ∧ partW k' t r = some y := by
 have e : (match stepW k u p with | some (k', w') => partW k' w' r | none => none) = some y := e
 cases f : stepW k u p with
 | none => rw [f] at e; cases e
 | some z => rw [f] at e; exact ⟨z.1, z.2, rfl, e⟩
theorem part_at {k k' : Kd} {u p t : T} {r : List T} (f : stepW k u p = some (k', t)) : partW k u (p :: r) = partW k' t r := by
 show (match stepW k u p with | some (k', w') => partW k' w' r | none => none) = _
 rw [f]
theorem in_at {k k' : Kd} {u p t v : T} {r : List T} {j : Nat} (f : stepW k u p = some (k', t)) (e : placeW k u p = some j) : inW k u (p :: r) v = (inW k' t r v).map (putJ j u) := by
 show (match stepW k u p, placeW k u p with | some (k', t), some j => (inW k' t r v).map (putJ j u) | _, _ => none) = _
 rw [f, e]
theorem in_ok : ∀ {c : List T} {k kc : Kd} {u w0 w1 : T}, k.good → Has k u → partW k u c = some (kc, w0) → Has kc w1 → ∃ u1, inW k u c w1 = some u1 ∧ Has k u1 ∧ partW k u1 c = some (kc, w1)
 | [], k, kc, u, w0, w1, g, h, e, h1 => by cases e; exact ⟨w1, rfl, h1, rfl⟩
 | p :: r, k, kc, u, w0, w1, g, h, e, h1 => by
  obtain ⟨k', t, f, e2⟩ := part_cons e
  obtain ⟨ts, j, V⟩ := step_view g h f
  obtain ⟨_, g', _⟩ := stepW_ok g h f
  obtain ⟨t1, a, b, d⟩ := in_ok (c := r) g' V.has e2 h1
  have hu := V.tup
  subst hu
  exact ⟨.tup (ts.set j t1), by rw [in_at f V.at_, a]; rfl, V.put _ b, by rw [part_at (V.step t1)]; exact d⟩
inductive Ap : List T → List T → Prop
 | here {p q : T} {r s : List T} (h : p ≠ q) : Ap (p :: r) (q :: s)
 | there {p : T} {r s : List T} (h : Ap r s) : Ap (p :: r) (p :: s)
theorem Ap.symm : ∀ {c o : List T}, Ap c o → Ap o c
 | _, _, .here h => .here (Ne.symm h)
 | _, _, .there h => .there h.symm
def isPk : Kd → Bool
 | .pick _ => true
 | _ => false
def setW : Kd → T → List T → T → Option T
 | _, _, [], v => some v
 | k, u, p :: r, v => match stepK k p with
  | none => none
  | some _ => if isPk k = true ∧ r = [] then some (T.tup [p, v]) else match stepW k u p, placeW k u p with
   | some (k', t), some j => (setW k' t r v).map (putJ j u)
   | _, _ => none
theorem set_at {k k' k2 : Kd} {u p t v : T} {r : List T} {j : Nat} (s : stepK k p = some k2) (c : ¬ (isPk k = true ∧ r = [])) (f : stepW k u p = some (k', t)) (e : placeW k u p = some j) : setW k u (p :: r) v = (setW k' t r v).map (putJ j u) := by
 show (match stepK k p with
  | none => none
  | some _ => if isPk k = true ∧ r = [] then some (T.tup [p, v]) else match stepW k u p, placeW k u p with
   | some (k', t), some j => (setW k' t r v).map (putJ j u)
   | _, _ => none) = _
 rw [s]
 show (if isPk k = true ∧ r = [] then _ else _) = _
 rw [if_neg c, f, e]
theorem set_pk {k k2 : Kd} {u p v : T} (s : stepK k p = some k2) (c : isPk k = true) : setW k u [p] v = some (.tup [p, v]) := by
 show (match stepK k p with
  | none => none
  | some _ => if isPk k = true ∧ ([] : List T) = [] then some (T.tup [p, v]) else match stepW k u p, placeW k u p with
   | some (k', t), some j => (setW k' t [] v).map (putJ j u)
   | _, _ => none) = _
 rw [s]
 exact if_pos ⟨c, rfl⟩
theorem set_no {k : Kd} {u p v : T} {r : List T} (h : stepK k p = none ∨ (¬ (isPk k = true ∧ r = []) ∧ stepW k u p = none)) : setW k u (p :: r) v = none := by
 show (match stepK k p with
  | none => none
  | some _ => if isPk k = true ∧ r = [] then some (T.tup [p, v]) else match stepW k u p, placeW k u p with
   | some (k', t), some j => (setW k' t r v).map (putJ j u)
   | _, _ => none) = _
 rcases h with h | ⟨c, h⟩
 ·rw [h]
 ·cases stepK k p with
  | none => rfl
  | some x =>
   show (if isPk k = true ∧ r = [] then _ else _) = _
   rw [if_neg c, h]
theorem pick_step {k k' : Kd} {u p t : T} (h : Has k u) (c : isPk k = true) (f : stepW k u p = some (k', t)) : u = .tup [p, t] ∧ placeW k u p = some 1 := by
 cases h with
 | @pick fs m k2 j t2 f' q =>
  cases p with
  | str n =>
   have f : (if m = n then (findF fs n).map fun p => (p.2, t2) else none) = some (k', t) := f
   split at f
   ·rename_i e; subst e
    rw [f'] at f
    cases f
    exact ⟨rfl, if_pos ⟨rfl, by rw [f']; rfl⟩⟩
   ·cases f
  | _ => cases f
 | _ => cases c
theorem set_part : ∀ {ps : List T} {k kp : Kd} {u old v : T}, k.good → Has k u → partW k u ps = some (kp, old) → setW k u ps v = inW k u ps v
 | [], k, kp, u, old, v, g, h, e => rfl
 | p :: r, k, kp, u, old, v, g, h, e => by
  obtain ⟨k', t, f, e2⟩ := part_cons e
  obtain ⟨ts, j, V⟩ := step_view g h f
  obtain ⟨_, g', _⟩ := stepW_ok g h f
  by_cases c : isPk k = true ∧ r = []
  ·obtain ⟨c, rfl⟩ := c
   obtain ⟨hu, hp⟩ := pick_step h c f
   rw [set_pk V.kind c, in_at f hp, hu]
   rfl
  ·rw [set_at V.kind c f V.at_, in_at f V.at_, set_part g' V.has e2]
end Tg
set_option Elab.async false
set_option linter.all false
set_option maxRecDepth 100000
namespace Tg
open PySem L2 L3
def rowsR (f : T → List T → List T) : Nat → List T → List T → List T
 | _, [], _ => []
 | i, t :: ts, pre => f t (pre ++ [.int (i : Nat)]) ++ rowsR f (i + 1) ts pre
mutual
def holdsW : Kd → T → List T → List T
 | .row k, .tup ts, pre => .tup [.tup pre, .int ts.length] :: rowsR (fun t q => holdsW k t q) 0 ts pre
 | .rec_ fs, .tup ts, pre => holdsF fs ts pre
 | .pick fs, .tup [.str m, t], pre => .tup [.tup pre, .str m] :: holdsP fs m t pre
 | _, u, pre => [.tup [.tup pre, u]]
def holdsF : List (Str × Kd) → List T → List T → List T
 | [], _, _ => []
 | (n, k) :: fs, t :: r, pre => holdsW k t (pre ++ [.str n]) ++ holdsF fs r pre
 | (_, _) :: _, [], _ => []
def holdsP : List (Str × Kd) → Str → T → List T → List T
 | [], _, _, _ => []
 | (n, k) :: fs, m, t, pre => (if n = m then holdsW k t (pre ++ [.str n]) else []) ++ holdsP fs m t pre
end
def pathOf : T → List T
 | .tup (.tup q :: _) => q
 | _ => []
theorem rowsR_pre {f : T → List T → List T} {pre : List T} : ∀ {ts : List T} {i : Nat} {x : T}, (∀ t ∈ ts, ∀ q, ∀ y ∈ f t q, q <+: pathOf y) → x ∈ rowsR f i ts pre → pre <+: pathOf x
 | [], i, x, h, hx => by cases hx
 | t :: ts, i, x, h, hx => by
  rw [rowsR] at hx
  rcases List.mem_append.mp hx with hx | hx
  ·exact List.IsPrefix.trans ⟨_, rfl⟩ (h t (by simp) _ x hx)
  ·exact rowsR_pre (fun t' ht => h t' (by simp [ht])) hx
theorem holdsF_pre {pre : List T} : ∀ {fs : List (Str × Kd)} {ts : List T} {x : T}, (∀ (j : Nat) (n : Str) (k : Kd) (t : T), fs[j]? = some (n, k) → ts[j]? = some t → ∀ q, ∀ y ∈ holdsW k t q, q <+: pathOf y) → x ∈ holdsF fs ts pre → pre <+: pathOf x
 | [], ts, x, h, hx => by rw [holdsF] at hx; cases hx
 | (n, k) :: fs, [], x, h, hx => by rw [holdsF] at hx; cases hx
 | (n, k) :: fs, t :: ts, x, h, hx => by
  rw [holdsF] at hx
  rcases List.mem_append.mp hx with hx | hx
  ·exact List.IsPrefix.trans ⟨_, rfl⟩ (h 0 n k t rfl rfl _ x hx)
  ·exact holdsF_pre (fun j n' k' t' a b => h (j + 1) n' k' t' a b) hx
theorem holdsP_pre {pre : List T} {m : Str} {t : T} : ∀ {fs : List (Str × Kd)} {x : T}, (∀ (n : Str) (k : Kd), (n, k) ∈ fs → n = m → ∀ q, ∀ y ∈ holdsW k t q, q <+: pathOf y) → x ∈ holdsP fs m t pre → pre <+: pathOf x
 | [], x, h, hx => by rw [holdsP] at hx; cases hx
 | (n, k) :: fs, x, h, hx => by
  rw [holdsP] at hx
  rcases List.mem_append.mp hx with hx | hx
  ·split at hx
   ·rename_i c
    exact List.IsPrefix.trans ⟨_, rfl⟩ (h n k (by simp) c _ x hx)
   ·cases hx
  ·exact holdsP_pre (fun n' k' hm => h n' k' (by simp [hm])) hx
theorem pick_one {fs : List (Str × Kd)} {m n : Str} {j : Nat} {k k' : Kd} (nd : (fs.map (·.1)).Nodup) (f : findF fs m = some (j, k)) (h : (n, k') ∈ fs) (e : n = m) : k' = k := by
 obtain ⟨i, hi⟩ := List.getElem?_of_mem h
 have := findF_at nd hi
 rw [e, f] at this
 cases this
 rfl
theorem holds_pre {k : Kd} {u : T} (h : Has k u) : k.good → ∀ pre, ∀ x ∈ holdsW k u pre, pre <+: pathOf x := by
 induction h with
 | num l h => intro g pre x hx; rw [holdsW] at hx; cases List.mem_singleton.mp hx; exact List.prefix_refl _; all_goals (intros; contradiction)
 | text l h => intro g pre x hx; rw [holdsW] at hx; cases List.mem_singleton.mp hx; exact List.prefix_refl _; all_goals (intros; contradiction)
 | @row k ts l q ih =>
  intro g pre x hx
  unfold Kd.good at g
  rw [holdsW] at hx
  rcases List.mem_cons.mp hx with rfl | hx
  ·exact List.prefix_refl _
  ·exact rowsR_pre (fun t ht q y hy => ih t ht g q y hy) hx
 | @rec_ fs ts l q ih =>
  intro g pre x hx
  unfold Kd.good at g
  rw [holdsW] at hx
  exact holdsF_pre (fun j n k t a b q y hy => ih j n k t a b (goodF_mem g.1 (List.mem_of_getElem? a)) q y hy) hx
 | @pick fs m k j t f q ih =>
  intro g pre x hx
  unfold Kd.good at g
  rw [holdsW] at hx
  rcases List.mem_cons.mp hx with rfl | hx
  ·exact List.prefix_refl _
  ·refine holdsP_pre (fun n k' hm e q2 y hy => ?_) hx
   have := pick_one g.2.2.2 f hm e
   subst this
   exact ih (goodF_mem g.1 hm) q2 y hy
theorem rowsR_set {f : T → List T → List T} {P : T → Bool} {pre : List T} {t t1 : T} : ∀ {ts : List T} {i j : Nat}, ts[j]? = some t → (f t1 (pre ++ [.int ((i + j : Nat) : Int)])).filter P = (f t (pre ++ [.int ((i + j : Nat) : Int)])).filter P → (rowsR f i (ts.set j t1) pre).filter P = (rowsR f i ts pre).filter P
 | [], i, j, h, e => by simp at h
 | x :: ts, i, 0, h, e => by
  cases h
  show (f t1 _ ++ rowsR f (i + 1) ts pre).filter P = (f t _ ++ rowsR f (i + 1) ts pre).filter P
  rw [List.filter_append, List.filter_append]
  rw [show (i + 0 : Nat) = i from rfl] at e
  rw [e]
 | x :: ts, i, j + 1, h, e => by
  show (f x _ ++ rowsR f (i + 1) (ts.set j t1) pre).filter P = (f x _ ++ rowsR f (i + 1) ts pre).filter P
  rw [List.filter_append, List.filter_append]
  rw [rowsR_set (ts := ts) (i := i + 1) (j := j) (t := t) (by simpa using h) (by rw [show i + 1 + j = i + (j + 1) by omega]; exact e)]
theorem holdsF_set {P : T → Bool} {pre : List T} {t t1 : T} {n : Str} {k : Kd} : ∀ {fs : List (Str × Kd)} {ts : List T} {j : Nat}, fs[j]? = some (n, k) → ts[j]? = some t → (holdsW k t1 (pre ++ [.str n])).filter P = (holdsW k t (pre ++ [.str n])).filter P → (holdsF fs (ts.set j t1) pre).filter P = (holdsF fs ts pre).filter P
 | [], ts, j, a, h, e => by simp at a
 | (_, _) :: fs, [], j, a, h, e => by simp at h
 | (n', k') :: fs, x :: ts, 0, a, h, e => by
  cases a
  cases h
  show (holdsF _ (t1 :: ts) pre).filter P = _
  rw [holdsF, holdsF, List.filter_append, List.filter_append, e]
 | (n', k') :: fs, x :: ts, j + 1, a, h, e => by
  show (holdsF _ (x :: ts.set j t1) pre).filter P = _
  rw [holdsF, holdsF, List.filter_append, List.filter_append, holdsF_set (fs := fs) (ts := ts) (j := j) (by simpa using a) (by simpa using h) e]
theorem holdsP_set {P : T → Bool} {pre : List T} {m : Str} {t t1 : T} : ∀ {fs : List (Str × Kd)}, (∀ (n : Str) (k : Kd), (n, k) ∈ fs → n = m → (holdsW k t1 (pre ++ [.str n])).filter P = (holdsW k t (pre ++ [.str n])).filter P) → (holdsP fs m t1 pre).filter P = (holdsP fs m t pre).filter P
 | [], h => by rw [holdsP, holdsP]
 | (n, k) :: fs, h => by
  rw [holdsP, holdsP, List.filter_append, List.filter_append, holdsP_set (fs := fs) (fun n' k' hm => h n' k' (by simp [hm]))]
  split
  ·rename_i c
   rw [h n k (by simp) c]
  ·rfl
theorem hold_in : ∀ {c : List T} {k kc : Kd} {u w0 w1 u1 : T} {pre : List T} {P : T → Bool}, k.good → Has k u → partW k u c = some (kc, w0) → Has kc w1 → inW k u c w1 = some u1 → (∀ x, pre ++ c <+: pathOf x → P x = false) → (holdsW k u1 pre).filter P = (holdsW k u pre).filter P
 | [], k, kc, u, w0, w1, u1, pre, P, g, h, e, h1, i, hP => by
  cases e
  cases i
  rw [List.append_nil] at hP
  rw [List.filter_eq_nil_iff.mpr (fun x hx => by rw [hP x (holds_pre h1 g pre x hx)]; decide), List.filter_eq_nil_iff.mpr (fun x hx => by rw [hP x (holds_pre h g pre x hx)]; decide)]
 | p :: r, k, kc, u, w0, w1, u1, pre, P, g, h, e, h1, i, hP => by
  obtain ⟨k', t, f, e2⟩ := part_cons e
  obtain ⟨ts, j, V⟩ := step_view g h f
  obtain ⟨_, g', _⟩ := stepW_ok g h f
  obtain ⟨t1, a, b, d⟩ := in_ok (c := r) g' V.has e2 h1
  have ih : (holdsW k' t1 (pre ++ [p])).filter P = (holdsW k' t (pre ++ [p])).filter P := hold_in g' V.has e2 h1 a (fun x hx => hP x (by rw [List.append_assoc] at hx; exact hx))
  have hu := V.tup
  subst hu
  rw [in_at f V.at_, a] at i
  cases i
  show (holdsW k (.tup (ts.set j t1)) pre).filter P = _
  cases h with
  | @row k2 ts l q =>
   cases p with
   | int y =>
    have e3 : (if 0 ≤ y ∧ y < ts.length then some y.toNat else none) = some j := V.at_
    have e4 : (if 0 ≤ y ∧ y < 60 then some k2 else none) = some k' := V.kind
    split at e3
    ·rename_i c
     cases e3
     split at e4
     ·cases e4
      rw [holdsW, holdsW, List.length_set]
      have := rowsR_set (f := fun t q => holdsW k' t q) (P := P) (pre := pre) (t := t) (t1 := t1) (i := 0) V.get (by rw [Nat.zero_add, show ((y.toNat : Nat) : Int) = y by omega]; exact ih)
      rw [List.filter_cons, List.filter_cons, this]
     ·cases e4
    ·cases e3
   | _ => cases f
  | @rec_ fs ts l q =>
   have e3 : (byF fs p).map (·.1) = some j := V.at_
   have e4 : (byF fs p).map (·.2) = some k' := V.kind
   cases bx : byF fs p with
   | none => rw [bx] at e3; cases e3
   | some y =>
    rw [bx] at e3 e4
    cases e3
    cases e4
    obtain ⟨n, rfl, m⟩ := byF_mem (j := y.1) (k := y.2) bx
    rw [holdsW, holdsW]
    exact holdsF_set m V.get ih
  | @pick fs m k2 j2 t2 f2 q =>
   obtain ⟨x1, x2⟩ := pick_step (Has.pick f2 q) rfl f
   cases x1
   have e3 := V.at_
   rw [x2] at e3
   cases e3
   have e4 : (findF fs m).map (·.2) = some k' := V.kind
   rw [f2] at e4
   cases e4
   unfold Kd.good at g
   show (holdsW _ (.tup [.str m, t1]) pre).filter P = _
   rw [holdsW, holdsW, List.filter_cons, List.filter_cons, holdsP_set (t := t) (t1 := t1) (fun n k3 hm en => by
    have := pick_one g.2.2.2 f2 hm en
    subst this
    subst en
    exact ih)]
theorem rowsR_app {f : T → List T → List T} {pre : List T} : ∀ {xs ys : List T} {i : Nat}, rowsR f i (xs ++ ys) pre = rowsR f i xs pre ++ rowsR f (i + xs.length) ys pre
 | [], ys, i => rfl
 | x :: xs, ys, i => by
  show f x _ ++ rowsR f (i + 1) (xs ++ ys) pre = (f x _ ++ rowsR f (i + 1) xs pre) ++ rowsR f (i + (xs.length + 1)) ys pre
  rw [rowsR_app, List.append_assoc, show i + 1 + xs.length = i + (xs.length + 1) by omega]
theorem holdsF_app {pre : List T} : ∀ {fs gs : List (Str × Kd)} {ts us : List T}, fs.length = ts.length → holdsF (fs ++ gs) (ts ++ us) pre = holdsF fs ts pre ++ holdsF gs us pre
 | [], gs, [], us, _ => by rw [holdsF]; rfl
 | (n, k) :: fs, gs, t :: ts, us, h => by
  rw [List.cons_append, List.cons_append, holdsF, holdsF, holdsF_app (by simpa using h), List.append_assoc]
theorem holdsP_app {pre : List T} {m : Str} {t : T} : ∀ {fs gs : List (Str × Kd)}, holdsP (fs ++ gs) m t pre = holdsP fs m t pre ++ holdsP gs m t pre
 | [], gs => by rw [holdsP]; rfl
 | (n, k) :: fs, gs => by rw [List.cons_append, holdsP, holdsP, holdsP_app, List.append_assoc]
theorem rowsR_len {f : T → List T → List T} {pre : List T} : ∀ {xs : List T} {i : Nat}, (∀ t ∈ xs, ∀ q, (f t q).length ≤ tsz t) → (rowsR f i xs pre).length ≤ tszs xs
 | [], i, _ => Nat.zero_le _
 | x :: xs, i, h => by
  rw [rowsR, List.length_append, tszs]
  exact Nat.add_le_add (h x (by simp) _) (rowsR_len fun t ht => h t (by simp [ht]))
theorem holdsF_len {pre : List T} : ∀ {fs : List (Str × Kd)} {ts : List T}, (∀ (j : Nat) (n : Str) (k : Kd) (t : T), fs[j]? = some (n, k) → ts[j]? = some t → ∀ q, (holdsW k t q).length ≤ tsz t) → (holdsF fs ts pre).length ≤ tszs ts
 | [], ts, _ => by rw [holdsF]; exact Nat.zero_le _
 | (_, _) :: fs, [], _ => by rw [holdsF]; exact Nat.zero_le _
 | (n, k) :: fs, t :: ts, h => by
  rw [holdsF, List.length_append, tszs]
  exact Nat.add_le_add (h 0 n k t rfl rfl _) (holdsF_len fun j n' k' t' a b => h (j + 1) n' k' t' a b)
theorem holdsP_none {pre : List T} {m : Str} {t : T} : ∀ {fs : List (Str × Kd)}, m ∉ fs.map (·.1) → holdsP fs m t pre = []
 | [], _ => by rw [holdsP]
 | (n, k) :: fs, h => by
  rw [List.map_cons, List.mem_cons, not_or] at h
  rw [holdsP, if_neg (fun e => h.1 e.symm), holdsP_none h.2]
  rfl
theorem holdsP_len {pre : List T} {m : Str} {t : T} : ∀ {fs : List (Str × Kd)}, (fs.map (·.1)).Nodup → (∀ (n : Str) (k : Kd), (n, k) ∈ fs → n = m → ∀ q, (holdsW k t q).length ≤ tsz t) → (holdsP fs m t pre).length ≤ tsz t
 | [], _, _ => by rw [holdsP]; exact Nat.zero_le _
 | (n, k) :: fs, nd, h => by
  rw [List.map_cons, List.nodup_cons] at nd
  rw [holdsP]
  by_cases c : n = m
  ·subst c
   rw [if_pos rfl, holdsP_none nd.1, List.append_nil]
   exact h n k (by simp) rfl _
  ·rw [if_neg c, List.nil_append]
   exact holdsP_len nd.2 fun n' k' hm => h n' k' (by simp [hm])
theorem holds_len {k : Kd} {u : T} (h : Has k u) : k.good → ∀ pre, (holdsW k u pre).length ≤ tsz u := by
 induction h with
 | num l h => intro g pre; rw [holdsW]; exact tsz_pos _; all_goals (intros; contradiction)
 | text l h => intro g pre; rw [holdsW]; exact tsz_pos _; all_goals (intros; contradiction)
 | @row k ts l q ih =>
  intro g pre
  unfold Kd.good at g
  rw [holdsW, tsz, List.length_cons]
  have := rowsR_len (f := fun t q => holdsW k t q) (pre := pre) (i := 0) (fun t ht q => ih t ht g q)
  omega
 | @rec_ fs ts l q ih =>
  intro g pre
  unfold Kd.good at g
  rw [holdsW, tsz]
  have := holdsF_len (pre := pre) (fun j n k t a b q => ih j n k t a b (goodF_mem g.1 (List.mem_of_getElem? a)) q)
  omega
 | @pick fs m k j t f q ih =>
  intro g pre
  unfold Kd.good at g
  rw [holdsW, tsz, List.length_cons]
  have := holdsP_len (pre := pre) (m := m) (t := t) (fs := fs) g.2.2.2 (fun n k' hm e q2 => by
   have := pick_one g.2.2.2 f hm e
   subst this
   exact ih (goodF_mem g.1 hm) q2)
  rw [tszs, tszs, tszs]
  have := tsz_pos (T.str m)
  omega
def RowQ (x : T) : Prop := ∃ q y, x = .tup [.tup q, y] ∧ (∀ p ∈ q, Sx p) ∧ Sx y
theorem sx_snoc {pre : List T} {p : T} (h : ∀ x ∈ pre, Sx x) (hp : Sx p) : ∀ x ∈ pre ++ [p], Sx x := fun x hx => by
 rcases List.mem_append.mp hx with hx | hx
 ·exact h x hx
 ·cases List.mem_singleton.mp hx; exact hp
theorem rowsR_q {f : T → List T → List T} {pre : List T} (hp : ∀ x ∈ pre, Sx x) : ∀ {ts : List T} {i : Nat} {x : T}, (∀ t ∈ ts, ∀ q, (∀ p ∈ q, Sx p) → ∀ y ∈ f t q, RowQ y) → x ∈ rowsR f i ts pre → RowQ x
 | [], i, x, h, hx => by cases hx
 | t :: ts, i, x, h, hx => by
  rw [rowsR] at hx
  rcases List.mem_append.mp hx with hx | hx
  ·exact h t (by simp) _ (sx_snoc hp (.int _)) x hx
  ·exact rowsR_q hp (fun t' ht => h t' (by simp [ht])) hx
theorem nm_sx {n : Str} (h : Nm n) : Sx (.str n) := .str (by have := h.2.1; omega)
theorem holdsF_q {pre : List T} (hp : ∀ x ∈ pre, Sx x) : ∀ {fs : List (Str × Kd)} {ts : List T} {x : T}, goodF fs → (∀ (j : Nat) (n : Str) (k : Kd) (t : T), fs[j]? = some (n, k) → ts[j]? = some t → ∀ q, (∀ p ∈ q, Sx p) → ∀ y ∈ holdsW k t q, RowQ y) → x ∈ holdsF fs ts pre → RowQ x
 | [], ts, x, g, h, hx => by rw [holdsF] at hx; cases hx
 | (n, k) :: fs, [], x, g, h, hx => by rw [holdsF] at hx; cases hx
 | (n, k) :: fs, t :: ts, x, g, h, hx => by
  rw [holdsF] at hx
  rcases List.mem_append.mp hx with hx | hx
  ·exact h 0 n k t rfl rfl _ (sx_snoc hp (nm_sx (goodF_nm (p := (n, k)) g (by simp)))) x hx
  ·exact holdsF_q hp (by unfold goodF at g; exact g.2.2) (fun j n' k' t' a b => h (j + 1) n' k' t' a b) hx
theorem holdsP_q {pre : List T} {m : Str} {t : T} (hp : ∀ x ∈ pre, Sx x) : ∀ {fs : List (Str × Kd)} {x : T}, goodF fs → (∀ (n : Str) (k : Kd), (n, k) ∈ fs → n = m → ∀ q, (∀ p ∈ q, Sx p) → ∀ y ∈ holdsW k t q, RowQ y) → x ∈ holdsP fs m t pre → RowQ x
 | [], x, g, h, hx => by rw [holdsP] at hx; cases hx
 | (n, k) :: fs, x, g, h, hx => by
  rw [holdsP] at hx
  rcases List.mem_append.mp hx with hx | hx
  ·split at hx
   ·rename_i c
    exact h n k (by simp) c _ (sx_snoc hp (nm_sx (goodF_nm (p := (n, k)) g (by simp)))) x hx
   ·cases hx
  ·exact holdsP_q hp (by unfold goodF at g; exact g.2.2) (fun n' k' hm => h n' k' (by simp [hm])) hx
theorem holds_q {k : Kd} {u : T} (h : Has k u) : k.good → ∀ pre, (∀ p ∈ pre, Sx p) → ∀ x ∈ holdsW k u pre, RowQ x := by
 induction h with
 | num l h => intro g pre hp x hx; rw [holdsW] at hx; cases List.mem_singleton.mp hx; exact ⟨pre, _, rfl, hp, .int _⟩; all_goals (intros; contradiction)
 | text l h => intro g pre hp x hx; rw [holdsW] at hx; cases List.mem_singleton.mp hx; exact ⟨pre, _, rfl, hp, .str (by omega)⟩; all_goals (intros; contradiction)
 | @row k ts l q ih =>
  intro g pre hp x hx
  unfold Kd.good at g
  rw [holdsW] at hx
  rcases List.mem_cons.mp hx with rfl | hx
  ·exact ⟨pre, _, rfl, hp, .int _⟩
  ·exact rowsR_q hp (fun t ht q hq y hy => ih t ht g q hq y hy) hx
 | @rec_ fs ts l q ih =>
  intro g pre hp x hx
  unfold Kd.good at g
  rw [holdsW] at hx
  exact holdsF_q hp g.1 (fun j n k t a b q hq y hy => ih j n k t a b (goodF_mem g.1 (List.mem_of_getElem? a)) q hq y hy) hx
 | @pick fs m k j t f q ih =>
  intro g pre hp x hx
  unfold Kd.good at g
  rw [holdsW] at hx
  rcases List.mem_cons.mp hx with rfl | hx
  ·exact ⟨pre, _, rfl, hp, nm_sx (goodF_nm (p := (m, k)) g.1 (List.mem_of_getElem? (findF_mem f)))⟩
  ·refine holdsP_q hp g.1 (fun n k' hm e q2 hq y hy => ?_) hx
   have := pick_one g.2.2.2 f hm e
   subst this
   exact ih (goodF_mem g.1 hm) q2 hq y hy
def vx : T → V
 | .int i => .int i
 | .str z => .str z
 | _ => .non
theorem sx_scs : ∀ {ps : List T}, (∀ p ∈ ps, Sx p) → scs ps = some (ps.map vx) ∧ (ps.map vx).all flatV = true
 | [], _ => ⟨rfl, rfl⟩
 | p :: r, h => by
  obtain ⟨a, b⟩ := sx_scs (ps := r) fun q hq => h q (by simp [hq])
  have hp := h p (by simp)
  cases hp with
  | int i => refine ⟨?_, by rw [List.map_cons, List.all_cons, b]; rfl⟩; unfold scs; rw [a]; rfl
  | str l => refine ⟨?_, by rw [List.map_cons, List.all_cons, b]; rfl⟩; unfold scs; rw [a]; rfl
theorem vx_eq {p q : T} (hp : Sx p) (hq : Sx q) : eqV (vx p) (vx q) = true ↔ p = q := by
 cases hp <;> cases hq <;> simp [vx, eqV]
theorem eqL_sx : ∀ {ps qs : List T}, (∀ p ∈ ps, Sx p) → (∀ p ∈ qs, Sx p) → (eqL (ps.map vx) (qs.map vx) = true ↔ ps = qs) := by
 intro ps qs hp hq
 unfold eqL
 rw [Bool.and_eq_true, List.all_eq_true, beq_iff_eq, List.length_map, List.length_map]
 constructor
 ·rintro ⟨h, hl⟩
  apply List.ext_getElem hl
  intro i h1 h2
  have := h i (List.mem_range.mpr (by omega))
  rw [List.getD, List.getD, List.getElem?_map, List.getElem?_map, List.getElem?_eq_getElem h1, List.getElem?_eq_getElem h2] at this
  exact (vx_eq (hp _ (List.getElem_mem h1)) (hq _ (List.getElem_mem h2))).mp this
 ·rintro rfl
  refine ⟨fun j hj => ?_, rfl⟩
  have h1 : j < ps.length := by have := List.mem_range.mp hj; omega
  rw [List.getD, List.getElem?_map, List.getElem?_eq_getElem h1]
  exact (vx_eq (hp _ (List.getElem_mem h1)) (hp _ (List.getElem_mem h1))).mpr rfl
def byB (c : List T) (x : T) : Bool := !eqL (((pathOf x).take c.length).map vx) (c.map vx)
theorem byB_cut {c : List T} {x : T} (hc : ∀ p ∈ c, Sx p) (h : c <+: pathOf x) : byB c x = false := by
 obtain ⟨r, e⟩ := h
 unfold byB
 rw [← e, List.take_left, (eqL_sx hc hc).mpr rfl]
 rfl
end Tg
set_option Elab.async false
set_option linter.all false
set_option maxRecDepth 100000
set_option maxHeartbeats 4000000
namespace Tg
open PySem L2
def top (i : Nat) : Stmt := PySem.Challenge.pw_tonguegate_k07_one_more_and_full.main.body.getD i (.Pass ⟨0, 0, 0, 0⟩)
section
variable {P : Program} {w : World} {K : PySem.W.Frag} {mg : Str → Option Value} {base : Heap} {f : Addr} {fd : FuncData}
abbrev s_law_cell_at : Stmt := top 26
theorem sc_law_cell_at : FnScope ["script", "k"] ["script", "k"] (defScope s_law_cell_at) := ⟨rfl, rfl, rfl, by decide +kernel, rfl, by decide +kernel, by decide +kernel⟩
abbrev s_law_flow : Stmt := top 27
theorem sc_law_flow : FnScope ["cell", "mixed"] ["cell"] (defScope s_law_flow) := ⟨rfl, rfl, rfl, by decide +kernel, rfl, by decide +kernel, by decide +kernel⟩
def Flow (H : Hp) (a : Addr) : Prop := ∃ f0 f1 f2 : Int, H a = some (.lst [.int f0, .int f1, .int f2]) ∧ 0 ≤ f0 ∧ 0 ≤ f1 ∧ f1 < 10 ^ 40 + 121
def spFlow : Sp := fun vs H Q _ => ∃ c : Int, vs = [.int c] ∧ ∀ (a : Addr) (H' : Hp), H a = none → Same H H' → Flow H' a → Q (.ref a) H'
theorem ok_flow (F : Fun K "_law_flow" "_law_flow" s_law_flow f fd) (z_max : mg "max" = none) : FnOk P w K mg base CX0 1 f fd ["cell"] spFlow := by
 refine F.ok sc_law_flow (fun vs H Q E h => ?_) (fun cdv A outer s H vs Q E hr h => ?_)
 ·obtain ⟨c, rfl, _⟩ := h
  rfl
 obtain ⟨c, rfl, q⟩ := h
 refine ⟨_, (pss_cons (ps_set (i := 1) sc_law_flow.nd rfl (Or.inl rfl) (pe_op op_add (pe_op op_mul (pe_op op_mul (pv 0) pe_int) pe_int) pe_int))
  (pss_cons (ps_ret (pe_lst (pa_cons (pe_callB (call_max2 rfl) rfl z_max PyProof.Rows.boot_max (pa_cons pe_int (pa_cons (pe_op op_sub (pv 0) (pe_op op_pow pe_int pe_int)) pa_nil))) (pa_cons (pe_op op_mod (pv 1) (pe_op op_add (pe_op op_pow pe_int pe_int) pe_int)) (pa_cons pe_int pa_nil)))))
  pss_nil)), ?_⟩
 refine ⟨_, rfl, _, _, rfl, rfl, .inr ⟨by decide, by decide⟩, _, _, rfl, rfl, .inr ⟨by decide, by decide⟩, _, _, rfl, rfl, ?_⟩
 refine ⟨_, rfl, _, _, rfl, rfl, ⟨by decide, by decide, by decide⟩, _, _, rfl, rfl, _, _, rfl, ?_⟩
 refine ⟨_, rfl, _, _, rfl, rfl, ⟨by decide, by decide, by decide⟩, _, _, rfl, rfl, _, _, rfl, rfl, (by show (0 : Int) < 10 ^ Int.toNat 40 + 121; decide), ?_⟩
 refine ⟨by show 3 ≤ sizeLine; decide, fun p hp => ?_⟩
 refine q p _ hp (fun b o h => by rw [upd_ne (ne_of_none h hp)]; exact h) ⟨_, _, _, upd_same, ?_, ?_, ?_⟩
 ·split <;> omega
 ·exact Int.emod_nonneg _ (by decide)
 ·exact Int.emod_lt_of_pos _ (by decide)
abbrev s_law_draw : Stmt := top 28
theorem sc_law_draw : FnScope ["flow", "many", "found"] ["flow", "many"] (defScope s_law_draw) := ⟨rfl, rfl, rfl, by decide +kernel, rfl, by decide +kernel, by decide +kernel⟩
def spDraw : Sp := fun vs H Q _ => ∃ (a : Addr) (m : Int), vs = [.ref a, .int m] ∧ Flow H a ∧ 0 < m ∧ m < 2 ^ 200 ∧ ∀ (r : Int) (H' : Hp), 0 ≤ r → r < m → Flow H' a → Kp [a] H H' → Q (.int r) H'
theorem atI0 {α : Type} {x : α} {r : List α} : atI (x :: r) 0 = some x := atI_nat (j := 0) rfl
theorem atI1 {α : Type} {x y : α} {r : List α} : atI (x :: y :: r) 1 = some y := atI_nat (j := 1) rfl
theorem atI2 {α : Type} {x y z : α} {r : List α} : atI (x :: y :: z :: r) 2 = some z := atI_nat (j := 2) rfl
theorem ok_draw (F : Fun K "_law_draw" "_law_draw" s_law_draw f fd) : FnOk P w K mg base CX0 1 f fd ["flow", "many"] spDraw := by
 refine F.ok sc_law_draw (fun vs H Q E h => ?_) (fun cdv A outer s H vs Q E hr h => ?_)
 ·obtain ⟨a, m, rfl, _⟩ := h
  rfl
 obtain ⟨a, m, rfl, ⟨f0, f1, f2, hf, b0, b1, b2⟩, m0, m1, q⟩ := h
 refine ⟨_, (pss_cons (ps_if (pt_cmpR op_gt (pe_ix ix_list (pv 0) pe_int (fun _ _ => rfl)) pe_int (nomark _)) (pss_cons (ps_set (i := 2) sc_law_draw.nd rfl (Or.inl rfl) (pe_op op_mod (pe_ix ix_list (pv 0) pe_int (fun _ _ => rfl)) (pv 1)))
  (pss_cons (ps_asg (pe_op op_fdivG (pe_ix ix_list (pv 0) pe_int (fun _ _ => rfl)) (pv 1)) (pg_sub (pv 0) pe_int set_list (fun _ => rfl)))
  (pss_cons (ps_ret (pv 2))
  pss_nil))) pss_nil)
  (pss_cons (ps_asg (pe_op op_add (pe_ix ix_list (pv 0) pe_int (fun _ _ => rfl)) pe_int) (pg_sub (pv 0) pe_int set_list (fun _ => rfl)))
  (pss_cons (ps_asg (pe_op op_mod (pe_op op_add (pe_op op_mulB (pe_ix ix_list (pv 0) pe_int (fun _ _ => rfl)) (pe_ix ix_list (pv 0) pe_int (fun _ _ => rfl))) (pe_op op_mul (pe_ix ix_list (pv 0) pe_int (fun _ _ => rfl)) pe_int)) (pe_op op_add (pe_op op_pow pe_int pe_int) pe_int)) (pg_sub (pv 0) pe_int set_list (fun _ => rfl)))
  (pss_cons (ps_ret (pe_op op_mod (pe_op op_fdivG (pe_ix ix_list (pv 0) pe_int (fun _ _ => rfl)) pe_int) (pv 1)))
  pss_nil)))), ?_⟩
 have sq : SqL K H a [.int f0, .int f1, .int f2] := SqL.of hf
 refine ⟨_, rfl, a, _, _, _, rfl, rfl, sq, atI0, _, _, rfl, rfl, _, rfl, ?_⟩
 refine ite2 (fun c => ?_) (fun c => ?_)
 ·refine ⟨_, rfl, a, _, _, _, rfl, rfl, sq, atI0, _, rfl, _, _, rfl, rfl, m0, ?_⟩
  refine ⟨_, rfl, a, _, _, _, rfl, rfl, sq, atI0, _, rfl, _, _, rfl, rfl, ⟨m0, m1⟩, _, rfl, a, _, _, _, rfl, rfl, hf, rfl, ?_⟩
  refine ⟨_, rfl, ?_⟩
  refine q _ _ (Int.emod_nonneg _ (by omega)) (Int.emod_lt_of_pos _ m0) ⟨_, _, _, upd_same, Int.ediv_nonneg b0 (by omega), b1, b2⟩ (Kp.set (by simp) _)
 ·refine ⟨_, rfl, a, _, _, _, rfl, rfl, sq, atI2, _, _, rfl, rfl, _, rfl, a, _, _, _, rfl, rfl, hf, rfl, ?_⟩
  have sq2 : SqL K (upd H a (.lst ([.int f0, .int f1, .int f2].set 2 (.int (f2 + 1))))) a [.int f0, .int f1, .int (f2 + 1)] := SqL.of upd_same
  have n1 : f1.natAbs < 2 ^ 200 := Nat.lt_of_lt_of_le (by omega : f1.natAbs < 10 ^ 40 + 121) (by decide)
  refine ⟨_, rfl, a, _, _, _, rfl, rfl, sq2, atI1, _, rfl, a, _, _, _, rfl, rfl, sq2, atI1, _, _, rfl, rfl, ⟨n1, n1⟩, _, rfl, a, _, _, _, rfl, rfl, sq2, atI2, _, _, rfl, rfl, .inr ⟨by decide, by decide⟩, _, _, rfl, rfl, _, _, rfl, rfl, ⟨by decide, by decide, by decide⟩, _, _, rfl, rfl, _, _, rfl, rfl, (by show (0 : Int) < 10 ^ Int.toNat 40 + 121; decide), ?_⟩
  refine ⟨_, rfl, a, _, _, _, rfl, rfl, upd_same, rfl, ?_⟩
  refine ⟨_, rfl, a, _, _, _, rfl, rfl, SqL.of upd_same, atI1, _, _, rfl, rfl, ⟨by decide, by decide⟩, _, rfl, _, _, rfl, rfl, m0, ?_⟩
  refine q _ _ (Int.emod_nonneg _ (by omega)) (Int.emod_lt_of_pos _ m0) ⟨_, _, _, upd_same, b0, ?_, ?_⟩ ((Kp.set (by simp) _).trans (Kp.set (by simp) _))
  ·exact Int.emod_nonneg _ (by decide)
  ·exact Int.emod_lt_of_pos _ (by decide)
end
end Tg
set_option Elab.async false
set_option linter.all false
set_option maxRecDepth 100000
set_option maxHeartbeats 4000000
namespace Tg
open PySem L2
section
variable {P : Program} {w : World} {K : PySem.W.Frag} {mg : Str → Option Value} {base : Heap} {f : Addr} {fd : FuncData}
abbrev s_law_name : Stmt := top 29
theorem sc_law_name : FnScope ["flow", "taken", "way", "name", "k", "old", "at", "some", "spare"] ["flow", "taken"] (defScope s_law_name) := ⟨rfl, rfl, rfl, by decide +kernel, rfl, by decide +kernel, by decide +kernel⟩
def spName : Sp := fun vs H Q _ => ∃ (a b : Addr) (ss : List Str), vs = [.ref a, .ref b] ∧ Flow H a ∧ H b = some (.lst (ss.map V.str)) ∧ ss.length ≤ 6 ∧ (∀ z ∈ ss, Nm z) ∧
 ∀ (z : Str) (H' : Hp), Nm z → z ∉ ss → Flow H' a → Kp [a] H H' → Q (.str z) H'
theorem Flow.ne {H : Hp} {a b : Addr} {ss : List Str} (h : Flow H a) (h' : H b = some (.lst (ss.map V.str))) : b ≠ a := by
 obtain ⟨f0, f1, f2, e, _⟩ := h
 refine ne_of h' e ?_
 intro z
 have z' := HO.lst.inj z
 cases ss with
 | nil => cases z'
 | cons x r => cases z'
theorem Flow.kp {H H' : Hp} {a : Addr} {l : List Addr} (h : Flow H a) (k : Kp l H H') (n : a ∉ l) : Flow H' a := by
 obtain ⟨f0, f1, f2, e, r⟩ := h
 exact ⟨f0, f1, f2, k a _ n e, r⟩
theorem Flow.some {H : Hp} {a : Addr} (h : Flow H a) : ∃ o, H a = .some o := by
 obtain ⟨f0, f1, f2, e, r⟩ := h
 exact ⟨_, e⟩
theorem Flow.new {H : Hp} {a p : Addr} {o : HO} (h : Flow H a) (n : H p = none) : Flow (upd H p o) a := by
 obtain ⟨f0, f1, f2, e, r⟩ := h
 exact ⟨f0, f1, f2, by rw [upd_ne (ne_of_none e n)]; exact e, r⟩
theorem ok_name (F : Fun K "_law_name" "_law_name" s_law_name f fd) (c_law_draw : Callee P w K mg base "_law_draw" 1 ["flow", "many"] spDraw)
    (z_len : mg "len" = none) (z_max : mg "max" = none) (z_range : mg "range" = none) : FnOk P w K mg base CX0 2 f fd ["flow", "taken"] spName := by
  refine F.ok sc_law_name (fun vs H Q E h => ?_) (fun cdv A outer s H vs Q E hr h => ?_)
  · obtain ⟨a, b, ss, rfl, _⟩ := h
    rfl
  obtain ⟨a, b, ss, rfl, fl, hb, h6, hnm, q⟩ := h
  refine ⟨_, (pss_cons (ps_set (i := 2) sc_law_name.nd rfl (Or.inl rfl) (pe_callC c_law_draw hr (by omega) rfl (pa_cons (pv 0) (pa_cons pe_int pa_nil))))
    (pss_cons (ps_set (i := 3) sc_law_name.nd rfl (Or.inl rfl) pe_str)
    (pss_cons (ps_for PassesOwn.never rfl (pi_range1 rfl z_range (pa_cons (pe_op op_add pe_int (pe_callC c_law_draw hr (by omega) rfl (pa_cons (pv 0) (pa_cons pe_int pa_nil)))) pa_nil)) (pg_name (i := 4) sc_law_name.nd rfl (Or.inl rfl)) (pss_cons (ps_set (i := 3) sc_law_name.nd rfl (Or.inl rfl) (pe_op op_add_str (pv 3) (pe_ix ix_str pe_str (pe_callC c_law_draw hr (by omega) rfl (pa_cons (pv 0) (pa_cons pe_int pa_nil))) (fun _ _ => rfl))))
    pss_nil))
    (pss_cons (ps_cut (ps_if (pt_cmpR op_eq (pv 2) pe_int (nomark _)) (pss_cons (ps_set (i := 3) sc_law_name.nd rfl (Or.inl rfl) (pe_ix ix_list (pe_lst (pa_cons pe_str (pa_cons pe_str (pa_cons pe_str (pa_cons pe_str (pa_cons pe_str (pa_cons pe_str (pa_cons pe_str (pa_cons pe_str pa_nil))))))))) (pe_callC c_law_draw hr (by omega) rfl (pa_cons (pv 0) (pa_cons pe_int pa_nil))) (fun _ _ => rfl)))
    pss_nil) pss_nil))
    (pss_cons (ps_cut (ps_if (PW.pt (pw_and (pt_cmpR (op_neNil hr.units0) (pv 1) (pe_lst pa_nil) (nomark _)) (pw_and (pt_cmpR op_le pe_int (pv 2) (nomark _)) (pw_and1 (pt_cmpR op_le (pv 2) pe_int (nomark _)))))) (pss_cons (ps_set (i := 5) sc_law_name.nd rfl (Or.inl rfl) (pe_ix ix_list (pv 1) (pe_callC c_law_draw hr (by omega) rfl (pa_cons (pv 0) (pa_cons (pe_callB call_len_seq rfl z_len PySem.boot_len (pa_cons (pv 1) pa_nil)) pa_nil))) (fun _ _ => rfl)))
    (pss_cons (ps_set (i := 6) sc_law_name.nd rfl (Or.inl rfl) (pe_callC c_law_draw hr (by omega) rfl (pa_cons (pv 0) (pa_cons (pe_op op_add (pe_callB call_len_str rfl z_len PySem.boot_len (pa_cons (pv 5) pa_nil)) pe_int) pa_nil))))
    (pss_cons (ps_set (i := 7) sc_law_name.nd rfl (Or.inl rfl) (pe_lst (pa_cons (pe_op op_add_str (pe_op op_add_str (pe_slice sl_str (pv 5) po_none (po_some (pv 6))) (pe_slice sl_str (pv 3) po_none (po_some pe_int))) (pe_slice sl_str (pv 5) (po_some (pe_op op_add (pv 6) pe_int)) po_none)) (pa_cons (pe_op op_add_str (pe_op op_add_str (pe_slice sl_str (pv 5) po_none (po_some (pv 6))) (pe_slice sl_str (pv 3) po_none (po_some pe_int))) (pe_slice sl_str (pv 5) (po_some (pv 6)) po_none)) (pa_cons (pe_slice sl_str (pv 5) po_none (po_some (pe_callB (call_max2 rfl) rfl z_max PyProof.Rows.boot_max (pa_cons pe_int (pa_cons (pv 6) pa_nil))))) (pa_cons (pe_op op_add_str (pv 3) (pv 5)) pa_nil))))))
    (pss_cons (ps_set (i := 3) sc_law_name.nd rfl (Or.inl rfl) (pe_slice sl_str (pe_ix ix_list (pv 7) (pe_op op_sub (pv 2) pe_int) (fun _ _ => rfl)) po_none (po_some pe_int)))
    pss_nil)))) pss_nil))
    (pss_cons (ps_comp (i := 8) (own := ["one"]) (cap := [(1, "taken")]) (compOkC rfl (by decide +kernel) (by decide +kernel) rfl (⟨rfl, trivial⟩) rfl (⟨⟨rfl, rfl, rfl⟩, trivial⟩)) rfl (pi_list (pe_lst (pa_cons (pv 3) (pa_cons pe_str (pa_cons pe_str (pa_cons pe_str (pa_cons pe_str (pa_cons pe_str (pa_cons pe_str (pa_cons pe_str pa_nil)))))))))) (fun _ _ _ _ => (pg_name (i := 0) (show List.Nodup (["one", "taken"] : List Str) from by decide +kernel) rfl (Or.inl rfl) (Or.inr rfl))) (fun _ _ _ _ => (pts_one (pt_cmpR (show OpR _ (compareOp .NotIn) (rIn K true) from op_notIn_seq) (pv 0) (pv 1) (by with_unfolding_all rfl)))) (fun _ _ _ _ => (pv 0)) sc_law_name.nd rfl rfl)
    (pss_cons (ps_ret (pe_ix ix_list (pv 8) pe_int (fun _ _ => rfl)))
    pss_nil))))))), ?_⟩
  have hba : b ≠ a := fl.ne hb
  have hbn : b ∉ [a] := by simpa using hba
  refine ⟨_, rfl, a, 8, rfl, fl, by decide, by decide, fun way H1 w0 w8 fl1 k1 => ?_⟩
  -- the letters
  refine ⟨_, rfl, a, 8, rfl, fl1, by decide, by decide, fun r2 H2 r0 r8 fl2 k2 => ?_⟩
  refine ⟨_, _, rfl, rfl, 1 + r2, rfl, by omega, by omega, ?_⟩
  refine for_range (fun i σ H' => ∃ o z, σ = [some (.ref a), some (.ref b), some (.int way), some (.str z), o, none, none, none, none] ∧ z.length = i ∧ Lets z ∧ Flow H' a ∧ Kp [a] H H') ?_ ?_ ?_
  · exact ⟨none, _, rfl, by decide, (fun c hc => nomatch (show c ∈ ([] : List Nat) from hc)), fl2, k1.trans k2⟩
  · rintro i σ H3 hi ⟨o, z, rfl, hz, hl, fl3, k3⟩
    refine ⟨_, rfl, _, rfl, a, 26, rfl, fl3, by decide, by decide, fun r4 H4 r40 r41 fl4 k4 => ?_⟩
    obtain ⟨c, hc, hc1⟩ := abc_at r40 r41
    refine ⟨_, _, c, rfl, rfl, (by show abc.length ≤ sizeLine; rw [abc_len]; decide), hc, _, _, rfl, rfl, ?_, ?_⟩
    · have : z.length + 1 ≤ sizeLine := by rw [hz]; have : i + 1 ≤ 1000 := by omega
                                           exact Nat.le_of_lt (small1000 this)
      exact this
    · refine ⟨_, _, rfl, ?_, hl.app (fun d hd => ?_), fl4, k3.trans k4⟩
      · rw [app_len, hz]; rfl
      · have hd' : d ∈ [c] := hd
        rw [List.mem_singleton.mp hd']; exact hc1
  rintro σ H3 ⟨o, z, rfl, hz, hl, fl3, k3⟩
  have hz1 : Nm z := ⟨by omega, by omega, hl⟩
  have hb3 := k3 b _ hbn hb
  -- a word in its place
  refine ⟨fun σ H' => ∃ z, σ = [some (.ref a), some (.ref b), some (.int way), some (.str z), o, none, none, none, none] ∧ Nm z ∧ Flow H' a ∧ Kp [a] H H', ?_, ?_⟩
  · refine ⟨_, rfl, rfl, _, rfl, ?_⟩
    refine ite2 (fun c => ?_) (fun c => ⟨z, rfl, hz1, fl3, k3⟩)
    refine ⟨by show 8 ≤ sizeLine; decide, fun p hp => ?_⟩
    refine ⟨_, rfl, a, 8, rfl, fl3.new hp, by decide, by decide, fun r4 H4 r40 r41 fl4 k4 => ?_⟩
    have hpa : p ∉ [a] := by
      obtain ⟨u, e⟩ := fl3.some
      simpa using (ne_of_none e hp).symm
    obtain ⟨x, hx, hm⟩ := at_some (xs := wordsL.map V.str) r40 (by simpa using r41)
    obtain ⟨y, hy, rfl⟩ := List.mem_map.mp hm
    exact ⟨p, _, _, _, rfl, rfl, SqL.of (k4 p _ hpa upd_same), hx, y, rfl, words_nm y hy, fl4, (k3.trans (Kp.new hp _)).trans k4⟩
  rintro σ H5 ⟨z5, rfl, nm5, fl5, k5⟩
  have hb5 := k5 b _ hbn hb
  -- near a taken one
  refine ⟨fun σ H' => ∃ z o5 o6 o7, σ = [some (.ref a), some (.ref b), some (.int way), some (.str z), o, o5, o6, o7, none] ∧ Nm z ∧ Flow H' a ∧ Kp [a] H H', ?_, ?_⟩
  · have sz : ∀ n : Nat, n ≤ 1000 → n ≤ sizeLine := fun n h => Nat.le_of_lt (small1000 h)
    have stay : ∀ {p : Addr} {o' : HO}, H5 p = none → Kp [a] H (upd H5 p o') := fun hp => k5.trans (Kp.new hp _)
    refine ⟨_, rfl, by show 0 ≤ sizeLine; decide, fun p hp => ⟨b, p, _, rfl, rfl, SqL.of (by rw [upd_ne (ne_of_none hb5 hp)]; exact hb5), SqL.of upd_same, _, rfl, ?_⟩⟩
    have flp : Flow (upd H5 p (.lst [])) a := fl5.new hp
    refine ite2 (fun c1 => ?_) (fun c1 => iteF ⟨z5, none, none, none, rfl, nm5, flp, stay hp⟩)
    refine ⟨_, rfl, _, _, rfl, rfl, _, rfl, ?_⟩
    refine ite2 (fun c2 => ?_) (fun c2 => iteF ⟨z5, none, none, none, rfl, nm5, flp, stay hp⟩)
    refine ⟨_, rfl, _, _, rfl, rfl, _, rfl, ?_⟩
    refine ite2 (fun c3 => ?_) (fun c3 => ⟨z5, none, none, none, rfl, nm5, flp, stay hp⟩)
    have w1 : (1 : Int) ≤ way := of_decide_eq_true c2
    have w4 : way ≤ 4 := of_decide_eq_true c3
    have hss : 0 < ss.length := by
      cases ss with
      | nil => exact absurd c1 (by decide)
      | cons x r => exact Nat.succ_pos _
    have hbp : (upd H5 p (.lst [])) b = some (.lst (ss.map V.str)) := by rw [upd_ne (ne_of_none hb5 hp)]; exact hb5
    have kp0 : Kp [a] H (upd H5 p (.lst [])) := stay hp
    generalize upd H5 p (.lst []) = Hp0 at hbp kp0 flp ⊢
    -- old
    refine ⟨_, rfl, _, rfl, _, rfl, b, _, rfl, .inl (SqL.of hbp), a, _, rfl, flp, (by show (0 : Int) < ((ss.map V.str).length : Nat); rw [List.length_map]; omega), (by show (((ss.map V.str).length : Nat) : Int) < 2 ^ 200; rw [List.length_map]; omega), fun r7 H7 r70 r71 fl7 k7 => ?_⟩
    obtain ⟨x, hx, hm⟩ := at_some r70 r71
    obtain ⟨y, hy, rfl⟩ := List.mem_map.mp hm
    have nmy := hnm y hy
    have hb7 := k7 b _ hbn hbp
    refine ⟨b, _, _, _, rfl, rfl, SqL.of hb7, hx, ?_⟩
    -- at
    refine ⟨_, rfl, _, rfl, y, rfl, sz _ (by have := nmy.2.1; omega), _, _, rfl, rfl, a, _, rfl, fl7, (by show (0 : Int) < (y.length : Int) + 1; omega), (by have := nmy.2.1; show (y.length : Int) + 1 < 2 ^ 200; omega), fun r8 H8 r80 r81 fl8 k8 => ?_⟩
    have ly : y.length ≤ sizeLine := sz _ (by have := nmy.2.1; omega)
    have lz : z5.length ≤ sizeLine := sz _ (by have := nm5.2.1; omega)
    have l8 := nmy.2.1
    have z8 := nm5.2.1
    have ny := nmy.1
    have nz := nm5.1
    -- some
    refine ⟨_, rfl, _, rfl, _, rfl, y, rfl, ly, fun s1 e1 => ?_⟩
    refine ⟨_, rfl, _, rfl, z5, rfl, lz, fun s2 e2 => ?_⟩
    have q1 := cut_le e1
    have q2 := cut_le e2
    refine ⟨_, _, rfl, rfl, sz _ (by omega), ?_⟩
    refine ⟨_, rfl, _, rfl, _, _, rfl, rfl, _, rfl, y, rfl, ly, fun s3 e3 => ?_⟩
    have q3 := cut_le e3
    refine ⟨_, _, rfl, rfl, sz _ (by rw [app_len]; omega), ?_⟩
    refine ⟨_, rfl, _, rfl, _, rfl, y, rfl, ly, fun s4 e4 => ?_⟩
    refine ⟨_, rfl, _, rfl, z5, rfl, lz, fun s5 e5 => ?_⟩
    have q4 := cut_le e4
    have q5 := cut_le e5
    refine ⟨_, _, rfl, rfl, sz _ (by omega), ?_⟩
    refine ⟨_, rfl, _, rfl, _, rfl, y, rfl, ly, fun s6 e6 => ?_⟩
    have q6 := cut_le e6
    refine ⟨_, _, rfl, rfl, sz _ (by rw [app_len]; omega), ?_⟩
    refine ⟨_, rfl, _, rfl, _, _, rfl, _, rfl, y, rfl, ly, fun s7 e7 => ?_⟩
    refine ⟨_, rfl, _, rfl, _, _, rfl, rfl, sz _ (by omega), ?_⟩
    refine ⟨by show 4 ≤ sizeLine; decide, fun p2 hp2 => ?_⟩
    have h2 := cut_head (by decide : (0 : Int) ≤ 1) e2
    have h5 := cut_head (by decide : (0 : Int) ≤ 1) e5
    have h7 := cut_head (by split <;> omega) e7
    have good : ∀ x ∈ [s1 ++ s2 ++ s3, s4 ++ s5 ++ s6, s7, z5 ++ y], 1 ≤ x.length ∧ x.length ≤ 24 ∧ Lets x := by
      intro x hx
      simp only [List.mem_cons, List.not_mem_nil, or_false] at hx
      rcases hx with rfl | rfl | rfl | rfl
      · refine ⟨?_, ?_, ((nmy.2.2.cut e1).app (nm5.2.2.cut e2)).app (nmy.2.2.cut e3)⟩
        · rw [app_len, app_len, h2]; omega
        · rw [app_len, app_len]; omega
      · refine ⟨?_, ?_, ((nmy.2.2.cut e4).app (nm5.2.2.cut e5)).app (nmy.2.2.cut e6)⟩
        · rw [app_len, app_len, h5]; omega
        · rw [app_len, app_len]; omega
      · refine ⟨?_, ?_, nmy.2.2.cut e7⟩
        · rw [h7]; split <;> omega
        · have := cut_le e7; omega
      · refine ⟨?_, ?_, nm5.2.2.app nmy.2.2⟩
        · rw [app_len]; omega
        · rw [app_len]; omega
    obtain ⟨v, hv, hvm⟩ := at_some (xs := [s1 ++ s2 ++ s3, s4 ++ s5 ++ s6, s7, z5 ++ y].map V.str) (r := way - 1) (by omega) (by show way - 1 < 4; omega)
    obtain ⟨u, hu, rfl⟩ := List.mem_map.mp hvm
    obtain ⟨g1, g2, g3⟩ := good u hu
    refine ⟨_, rfl, _, rfl, _, _, rfl, rfl, p2, _, _, _, rfl, rfl, SqL.of upd_same, hv, _, rfl, u, rfl, sz _ (by omega), fun t9 e9 => ?_⟩
    have h9 := cut_head (by decide : (0 : Int) ≤ 8) e9
    exact ⟨t9, _, _, _, rfl, ⟨by rw [h9]; have : (8 : Int).toNat = 8 := rfl; omega, by rw [h9]; have : (8 : Int).toNat = 8 := rfl; omega, g3.cut e9⟩, fl8.new hp2, ((kp0.trans k7).trans k8).trans (Kp.new hp2 _)⟩
  rintro σ H6 ⟨z6, o5, o6, o7, rfl, nm6, fl6, k6⟩
  have hb6 := k6 b _ hbn hb
  -- the spare ones
  refine ⟨_, rfl, by show 8 ≤ sizeLine; decide, fun p hp => ?_⟩
  have hbp : (upd H6 p (.lst ((z6 :: spareL).map V.str))) b = some (.lst (ss.map V.str)) := by rw [upd_ne (ne_of_none hb6 hp)]; exact hb6
  have flp : Flow (upd H6 p (.lst ((z6 :: spareL).map V.str))) a := fl6.new hp
  have kpp : Kp [a] H (upd H6 p (.lst ((z6 :: spareL).map V.str))) := k6.trans (Kp.new hp _)
  have hpp : (upd H6 p (.lst ((z6 :: spareL).map V.str))) p = some (.lst ((z6 :: spareL).map V.str)) := upd_same
  refine ⟨p, rfl, ⟨_, SqL.of hpp⟩, ?_⟩
  intro D hD
  have hD : (upd H6 p (.lst ((z6 :: spareL).map V.str))) D = none := hD
  refine comp_list (K := K) (xs := (z6 :: spareL).map V.str) (fun i σ' ys H' => ∃ o', σ' = [o', some (.ref b)] ∧ ys = (((z6 :: spareL).take i).filter fun x => !decide (x ∈ ss)).map V.str ∧ H' = upd (upd H6 p (.lst ((z6 :: spareL).map V.str))) D (.lst ys)) ?_ ?_ ?_ ?_ ?_
  · exact ⟨none, rfl, rfl, rfl⟩
  · rintro i σ' ys H' hi ⟨o', rfl, rfl, rfl⟩
    refine ⟨upd_same, ?_, SqL.of (by rw [upd_ne (ne_of_none hpp hD)]; exact hpp)⟩
    rw [List.length_map]
    refine Nat.le_trans (List.length_filter_le _ _) ?_
    rw [List.length_take]
    exact Nat.min_le_left _ _
  · show 8 ≤ sizeLine
    decide
  · rintro i x σ' ys H' hx ⟨o', rfl, rfl, rfl⟩
    rw [List.getElem?_map] at hx
    cases hy : (z6 :: spareL)[i]? with
    | none => rw [hy] at hx; cases hx
    | some y =>
      rw [hy] at hx
      cases hx
      have hb8 : (upd (upd H6 p (.lst ((z6 :: spareL).map V.str))) D (.lst ((((z6 :: spareL).take i).filter fun x => !decide (x ∈ ss)).map V.str))) b = some (.lst (ss.map V.str)) := by rw [upd_ne (ne_of_none hbp hD)]; exact hbp
      refine ⟨_, rfl, _, rfl, b, _, rfl, .inl (SqL.of hb8), rfl, flat_strs ss, _, rfl, ?_⟩
      have tk : (z6 :: spareL).take (i + 1) = (z6 :: spareL).take i ++ [y] := by rw [List.take_add_one, hy]; rfl
      show if (!inV (.str y) (ss.map V.str)) = true then _ else _
      rw [inV_strs]
      refine ite2 (fun c => ?_) (fun c => ?_)
      · refine ⟨_, rfl, upd_same, _, rfl, ?_, ?_⟩
        · rw [tk, List.filter_append, List.map_append]
          simp only [List.filter_cons, c, if_true, List.filter_nil, List.map_cons, List.map_nil]
        · rw [upd_upd]
      · refine ⟨_, rfl, ?_, rfl⟩
        rw [tk, List.filter_append, List.map_append]
        have c' : (!decide (y ∈ ss)) = false := Bool.eq_false_iff.mpr c
        simp only [List.filter_cons, c', Bool.false_eq_true, if_false, List.filter_nil, List.map_nil, List.append_nil]
  · rintro σ' ys H' ⟨o', rfl, rfl, rfl⟩
    obtain ⟨y, r, e, ny, ns⟩ := fresh_name nm6 h6
    have e8 : (((z6 :: spareL).take ((z6 :: spareL).map V.str).length).filter fun x => !decide (x ∈ ss)) = y :: r := by rw [List.length_map, List.take_length]; exact e
    rw [e8]
    refine ⟨_, rfl, D, _, _, _, rfl, rfl, SqL.of upd_same, atI0, ?_⟩
    exact q y _ ny ns (flp.new hD) (kpp.trans (Kp.new hD _))
end
end Tg
set_option Elab.async false
set_option linter.all false
set_option maxRecDepth 100000
set_option maxHeartbeats 4000000
namespace Tg
open PySem L2
section
variable {P : Program} {w : World} {K : PySem.W.Frag} {mg : Str → Option Value} {base : Heap} {f : Addr} {fd : FuncData}
abbrev s_law_kind : Stmt := top 30
theorem sc_law_kind : FnScope ["flow", "depth", "room", "word", "many", "deepest", "names", "fields", "k", "below"] ["flow", "depth", "room"] (defScope s_law_kind) := ⟨rfl, rfl, rfl, by decide +kernel, rfl, by decide +kernel, by decide +kernel⟩
def One (H : Hp) (b : Addr) : Prop := ∃ r : Int, H b = some (.lst [.int r])
theorem One.ne {H : Hp} {a b : Addr} (h : Flow H a) (h' : One H b) : b ≠ a := by
 obtain ⟨f0, f1, f2, e, _⟩ := h
 obtain ⟨r, e'⟩ := h'
 exact ne_of e' e (by intro z; have z' := HO.lst.inj z; cases z')
theorem One.kp {H H' : Hp} {b : Addr} {l : List Addr} (h : One H b) (k : Kp l H H') (n : b ∉ l) : One H' b := by
 obtain ⟨r, e⟩ := h
 exact ⟨r, k b _ n e⟩
theorem One.new {H : Hp} {b p : Addr} {o : HO} (h : One H b) (n : H p = none) : One (upd H p o) b := by
 obtain ⟨r, e⟩ := h
 exact ⟨r, by rw [upd_ne (ne_of_none e n)]; exact e⟩
theorem tp_set {H : Hp} {p : Addr} {xs : List V} (h : H p = some (.lst xs)) (o : HO) : Tp H (upd H p o) := fun b ys q => by
 rw [upd_ne (ne_of q h (by intro z; cases z))]; exact q
theorem tp_new {H : Hp} {p : Addr} (h : H p = none) (o : HO) : Tp H (upd H p o) := fun b ys q => by rw [upd_ne (ne_of_none q h)]; exact q
theorem Flow.tp {H H' : Hp} {a : Addr} (h : Flow H a) (k : Kp [a] H H') : Tp H H' := k.tp fun b hb xs e => by
 obtain ⟨f0, f1, f2, e', _⟩ := h
 rw [List.mem_singleton.mp hb, e'] at e
 cases e
theorem Flow.tp2 {H H' : Hp} {a b : Addr} (h : Flow H a) (h' : One H b) (k : Kp [a, b] H H') : Tp H H' := k.tp fun c hb xs e => by
 obtain ⟨f0, f1, f2, e', _⟩ := h
 obtain ⟨r, e2⟩ := h'
 rcases List.mem_cons.mp hb with rfl | hb
 ·rw [e'] at e; cases e
 ·rw [List.mem_singleton.mp hb, e2] at e; cases e
def spKind (n : Nat) : Sp := fun vs H Q _ => ∃ (a b : Addr) (d : Int), vs = [.ref a, .int d, .ref b] ∧ Flow H a ∧ One H b ∧ 1 ≤ d ∧ d < n ∧ d ≤ 10 ∧
 ∀ (v : V) (k : Kd) (H' : Hp), KIn H' v k → k.good → k.depth ≤ d.toNat → Flow H' a → One H' b → Kp [a, b] H H' → Q v H'
theorem goodF_snoc {nm : Str} {k : Kd} (h1 : Nm nm) (h2 : k.good) : ∀ {fs : List (Str × Kd)}, goodF fs → goodF (fs ++ [(nm, k)])
 | [], _ => by show goodF [(nm, k)]; unfold goodF; exact ⟨⟨h1.1, h1.2.1, h1.2.2⟩, h2, by unfold goodF; trivial⟩
 | (n', k') :: r, h => by
  show goodF ((n', k') :: (r ++ [(nm, k)]))
  unfold goodF at h ⊢
  exact ⟨h.1, h.2.1, goodF_snoc h1 h2 h.2.2⟩
theorem nodup_snoc {α : Type} {xs : List α} {x : α} (h : xs.Nodup) (n : x ∉ xs) : (xs ++ [x]).Nodup := by
 rw [List.nodup_append]
 exact ⟨h, by simp, fun a ha b hb => by rw [List.mem_singleton.mp hb]; rintro rfl; exact n ha⟩
theorem ok_kind {n : Nat} (F : Fun K "_law_kind" "_law_kind" s_law_kind f fd) (c_law_draw : Callee P w K mg base "_law_draw" 1 ["flow", "many"] spDraw) (c_law_name : Callee P w K mg base "_law_name" 2 ["flow", "taken"] spName)
  (c_law_kind : Callee P w K mg base "_law_kind" (2 + n) ["flow", "depth", "room"] (spKind n))
  (z_range : mg "range" = none) (z_tuple : mg "tuple" = none) : FnOk P w K mg base CX0 (2 + n + 1) f fd ["flow", "depth", "room"] (spKind (n + 1)) := by
 refine F.ok sc_law_kind (fun vs H Q E h => ?_) (fun cdv A outer s H vs Q E hr h => ?_)
 ·obtain ⟨a, b, d, rfl, _⟩ := h
  rfl
 obtain ⟨a, b, d, rfl, fl, on, d1, dn, d10, q⟩ := h
 refine ⟨_, (pss_cons (ps_if (pt_cmpR op_lt (pv 1) pe_int (nomark _)) (pss_cons (ps_if (pt_cmpR op_eq (pe_callC c_law_draw hr (by omega) rfl (pa_cons (pv 0) (pa_cons pe_int pa_nil))) pe_int (nomark _)) (pss_cons (ps_ret (pe_tup (pa_cons pe_str pa_nil)))
  pss_nil) pss_nil)
  (pss_cons (ps_ret (pe_tup (pa_cons pe_str (pa_cons (pe_op op_add pe_int (pe_callC c_law_draw hr (by omega) rfl (pa_cons (pv 0) (pa_cons pe_int pa_nil)))) pa_nil))))
  pss_nil)) pss_nil)
  (pss_cons (ps_set (i := 3) sc_law_kind.nd rfl (Or.inl rfl) (pe_ix ix_list (pe_lst (pa_cons pe_str (pa_cons pe_str (pa_cons pe_str (pa_cons pe_str pa_nil))))) (pe_callC c_law_draw hr (by omega) rfl (pa_cons (pv 0) (pa_cons pe_int pa_nil))) (fun _ _ => rfl)))
  (pss_cons (ps_if (pt_cmpR op_eq (pv 3) pe_str (nomark _)) (pss_cons (ps_ret (pe_tup (pa_cons pe_str (pa_cons (pe_callC c_law_kind hr (by omega) rfl (pa_cons (pv 0) (pa_cons (pe_op op_sub (pv 1) pe_int) (pa_cons (pv 2) pa_nil)))) pa_nil))))
  pss_nil) pss_nil)
  (pss_cons (ps_set (i := 4) sc_law_kind.nd rfl (Or.inl rfl) (pe_op op_add pe_int (pe_callC c_law_draw hr (by omega) rfl (pa_cons (pv 0) (pa_cons (pe_ix ix_list (pe_lst (pa_cons pe_int (pa_cons pe_int (pa_cons pe_int (pa_cons pe_int pa_nil))))) (pe_callC c_law_draw hr (by omega) rfl (pa_cons (pv 0) (pa_cons pe_int pa_nil))) (fun _ _ => rfl)) pa_nil)))))
  (pss_cons (ps_set (i := 5) sc_law_kind.nd rfl (Or.inl rfl) (pe_callC c_law_draw hr (by omega) rfl (pa_cons (pv 0) (pa_cons (pv 4) pa_nil))))
  (pss_cons (ps_set (i := 6) sc_law_kind.nd rfl (Or.inl rfl) (pe_lst pa_nil))
  (pss_cons (ps_set (i := 7) sc_law_kind.nd rfl (Or.inl rfl) (pe_lst pa_nil))
  (pss_cons (ps_for PassesOwn.never rfl (pi_range1 rfl z_range (pa_cons (pv 4) pa_nil)) (pg_name (i := 8) sc_law_kind.nd rfl (Or.inl rfl)) (pss_cons (ps_set (i := 9) sc_law_kind.nd rfl (Or.inl rfl) pe_int)
  (pss_cons (ps_cut (ps_if (pt_cmpR op_eq (pv 8) (pv 5) (nomark _)) (pss_cons (ps_set (i := 9) sc_law_kind.nd rfl (Or.inl rfl) (pe_op op_sub (pv 1) pe_int))
  pss_nil) (pss_cons (ps_cut (ps_if (PW.pt (pw_and (pt_cmpR op_gt (pe_ix ix_list (pv 2) pe_int (fun _ _ => rfl)) pe_int (nomark _)) (pw_and1 (pt_cmpR op_eq (pe_callC c_law_draw hr (by omega) rfl (pa_cons (pv 0) (pa_cons pe_int pa_nil))) pe_int (nomark _))))) (pss_cons (ps_asg (pe_op op_sub (pe_ix ix_list (pv 2) pe_int (fun _ _ => rfl)) pe_int) (pg_sub (pv 2) pe_int set_list (fun _ => rfl)))
  (pss_cons (ps_set (i := 9) sc_law_kind.nd rfl (Or.inl rfl) (pe_op op_add pe_int (pe_callC c_law_draw hr (by omega) rfl (pa_cons (pv 0) (pa_cons (pe_op op_sub (pv 1) pe_int) pa_nil)))))
  pss_nil)) pss_nil))
  pss_nil)))
  (pss_cons (ps_expr (pe_bm PySem.F.plainAttrs_list PySem.F.slot_list_append PySem.F.type_list_append mt_append (pv 6) (pa_cons (pe_callC c_law_name hr (by omega) rfl (pa_cons (pv 0) (pa_cons (pv 6) pa_nil))) pa_nil)))
  (pss_cons (ps_expr (pe_bm PySem.F.plainAttrs_list PySem.F.slot_list_append PySem.F.type_list_append mt_append (pv 7) (pa_cons (pe_tup (pa_cons (pe_ix ix_list (pv 6) (pv 8) (fun _ _ => rfl)) (pa_cons (pe_callC c_law_kind hr (by omega) rfl (pa_cons (pv 0) (pa_cons (pv 9) (pa_cons (pv 2) pa_nil)))) pa_nil))) pa_nil)))
  pss_nil)))))
  (pss_cons (ps_ret (pe_tup (pa_cons (pv 3) (pa_cons (pe_callTy call_tuple_of rfl z_tuple bt_tuple (pa_cons (pv 7) pa_nil)) pa_nil))))
  pss_nil))))))))), ?_⟩
 have hba : b ≠ a := One.ne fl on
 have hbn : b ∉ [a] := by simpa using hba
 have up1 : ∀ {H1 H2 : Hp}, Kp [a] H1 H2 → Kp [a, b] H1 H2 := fun k => k.mono (by simp)
 have sz : ∀ n : Nat, n ≤ 1000 → n ≤ sizeLine := fun n h => Nat.le_of_lt (small1000 h)
 refine ⟨_, rfl, _, _, rfl, rfl, _, rfl, ?_⟩
 refine ite2 (fun c => ?_) (fun c => ?_)
 ·-- a leaf
  refine ⟨_, rfl, a, 3, rfl, fl, by decide, by decide, fun r H1 r0 r1 fl1 k1 => ⟨rfl, _, rfl, ?_⟩⟩
  refine ite2 (fun c => ?_) (fun c => ?_)
  ·refine ⟨by show 1 ≤ sizeLine; decide, fun p hp => ?_⟩
   refine q _ .text _ (by unfold KIn; exact ⟨p, rfl, upd_same⟩) (by unfold Kd.good; trivial) (by unfold Kd.depth; omega) (fl1.new hp) ((on.kp k1 hbn).new hp) ((up1 k1).trans (Kp.new hp _))
  ·refine ⟨_, rfl, a, 4, rfl, fl1, by decide, by decide, fun r2 H2 r20 r21 fl2 k2 => ⟨_, _, rfl, rfl, by show 2 ≤ sizeLine; decide, fun p hp => ?_⟩⟩
   refine q _ (.num (1 + r2)) _ (by unfold KIn; exact ⟨p, rfl, upd_same⟩) (by unfold Kd.good; omega) (by unfold Kd.depth; omega) (fl2.new hp) (((on.kp k1 hbn).kp k2 hbn).new hp) (((up1 k1).trans (up1 k2)).trans (Kp.new hp _))
 have d2 : 2 ≤ d := by
  have : ¬ d < 2 := fun z => c (decide_eq_true z)
  omega
 -- the word
 refine ⟨by show 4 ≤ sizeLine; decide, fun p0 hp0 => ?_⟩
 refine ⟨_, rfl, a, 4, rfl, fl.new hp0, by decide, by decide, fun r1 H1 r10 r11 fl1 k1 => ?_⟩
 have hp0a : p0 ∉ [a] := by
  obtain ⟨u, e⟩ := fl.some
  simpa using (ne_of_none e hp0).symm
 obtain ⟨x, hx, hm⟩ := at_some (xs := (["row", "rec", "pick", "rec"] : List Str).map V.str) r10 (by simpa using r11)
 obtain ⟨word, hw, rfl⟩ := List.mem_map.mp hm
 refine ⟨p0, _, _, _, rfl, rfl, SqL.of (k1 p0 _ hp0a upd_same), hx, ?_⟩
 have kH1 : Kp [a, b] H H1 := (Kp.new hp0 _).trans (up1 k1)
 have on1 : One H1 b := (on.new hp0).kp k1 hbn
 refine ⟨_, rfl, rfl, _, rfl, ?_⟩
 refine ite2 (fun c => ?_) (fun c => ?_)
 ·-- a row
  refine ⟨_, rfl, _, rfl, _, _, rfl, rfl, _, rfl, a, b, d - 1, rfl, fl1, on1, by omega, by omega, by omega, fun v k H2 ki kg kd fl2 on2 k2 => ?_⟩
  refine ⟨by show 2 ≤ sizeLine; decide, fun p hp => ?_⟩
  refine q _ (.row k) _ (by unfold KIn; exact ⟨p, v, rfl, upd_same, ki.mono (tp_new hp _)⟩) (by unfold Kd.good; exact kg) (by unfold Kd.depth; omega) (fl2.new hp) (on2.new hp) ((kH1.trans k2).trans (Kp.new hp _))
 have hw2 : word = "rec" ∨ word = "pick" := by
  have cw : ¬ word = "row" := fun z => c (decide_eq_true (congrArg V.str z))
  simp only [List.mem_cons, List.not_mem_nil, or_false] at hw
  rcases hw with h | h | h | h
  ·exact absurd h cw
  ·exact .inl h
  ·exact .inr h
  ·exact .inl h
 -- many
 refine ⟨_, rfl, by show 4 ≤ sizeLine; decide, fun p1 hp1 => ?_⟩
 refine ⟨_, rfl, a, 4, rfl, fl1.new hp1, by decide, by decide, fun r2 H2 r20 r21 fl2 k2 => ?_⟩
 have hp1a : p1 ∉ [a] := by
  obtain ⟨u, e⟩ := fl1.some
  simpa using (ne_of_none e hp1).symm
 obtain ⟨x2, hx2, hm2⟩ := at_some (xs := ([3, 3, 2, 6] : List Int).map V.int) r20 (by simpa using r21)
 obtain ⟨m, hmm, rfl⟩ := List.mem_map.mp hm2
 have hm6 : 0 < m ∧ m ≤ 6 := by
  simp only [List.mem_cons, List.not_mem_nil, or_false] at hmm
  omega
 refine ⟨p1, _, _, _, rfl, rfl, SqL.of (k2 p1 _ hp1a upd_same), hx2, a, m, rfl, fl2, hm6.1, by omega, fun r3 H3 r30 r31 fl3 k3 => ⟨_, _, rfl, rfl, ?_⟩⟩
 -- deepest
 refine ⟨_, rfl, _, rfl, a, 1 + r3, rfl, fl3, by omega, by omega, fun dp H4 dp0 dp1 fl4 k4 => ?_⟩
 have kH4 : Kp [a, b] H H4 := (((kH1.trans (Kp.new hp1 _)).trans (up1 k2)).trans (up1 k3)).trans (up1 k4)
 have on4 : One H4 b := ((((on1.new hp1).kp k2 hbn).kp k3 hbn).kp k4 hbn)
 -- names, fields
 refine ⟨by show 0 ≤ sizeLine; decide, fun N hN => ?_⟩
 refine ⟨by show 0 ≤ sizeLine; decide, fun Fa hF => ?_⟩
 have hNa : N ≠ a := by
  obtain ⟨u, e⟩ := fl4.some
  exact (ne_of_none e hN).symm
 have hNb : N ≠ b := by
  obtain ⟨u, e⟩ := on4
  exact (ne_of_none e hN).symm
 have hFN : Fa ≠ N := (ne_of_none (upd_same (H := H4) (a := N) (o := .lst [])) hF).symm
 have hF4 : H4 Fa = none := by rw [upd_ne hFN] at hF; exact hF
 have hFa : Fa ≠ a := by
  obtain ⟨u, e⟩ := fl4.some
  exact (ne_of_none e hF4).symm
 have hFb : Fa ≠ b := by
  obtain ⟨u, e⟩ := on4
  exact (ne_of_none e hF4).symm
 have frH : ∀ {c : Addr}, H4 c = none → (c ≠ a) → (c ≠ b) → H c = none := fun {c} h1 h2 h3 => by
  cases e : H c with
  | none => rfl
  | some o => rw [kH4 c o (by simp [h2, h3]) e] at h1; cases h1
 have HN : H N = none := frH hN hNa hNb
 have HF : H Fa = none := frH hF4 hFa hFb
 have stay : ∀ {H' : Hp} {c : Addr} {o : HO}, H c = none → Kp [a, b] H H' → Kp [a, b] H (upd H' c o) := fun {H' c o} hc k x u hx hu => by
  have e : x ≠ c := ne_of_none hu hc
  rw [upd_ne e]; exact k x u hx hu
 refine ⟨_, rfl, 1 + r3, rfl, by omega, by omega, ?_⟩
 refine for_range (fun i σ H' => ∃ o8 o9 ss xs fs, σ = [some (.ref a), some (.int d), some (.ref b), some (.str word), some (.int (1 + r3)), some (.int dp), some (.ref N), some (.ref Fa), o8, o9] ∧
   H' N = some (.lst (ss.map V.str)) ∧ ss.length = i ∧ (∀ z ∈ ss, Nm z) ∧ ss.Nodup ∧ H' Fa = some (.lst xs) ∧ FIn H' xs fs ∧ fs.map (·.1) = ss ∧ goodF fs ∧ depthF fs ≤ (d - 1).toNat ∧ Flow H' a ∧ One H' b ∧ Kp [a, b] H H') ?_ ?_ ?_
 ·refine ⟨none, none, [], [], [], rfl, ?_, rfl, (fun z hz => nomatch hz), List.nodup_nil, upd_same, by unfold FIn; rfl, rfl, by unfold goodF; trivial, by unfold depthF; omega, (fl4.new hN).new hF, (on4.new hN).new hF, stay HF (stay HN kH4)⟩
  rw [upd_ne hFN.symm]; exact upd_same
 ·rintro i σ H5 hi ⟨o8, o9, ss, xs, fs, rfl, hN5, hsl, hnm, hnd, hF5, fin, hfs, hgf, hdf, fl5, on5, k5⟩
  -- below
  refine ⟨fun σ H' => ∃ bl : Int, σ = [some (.ref a), some (.int d), some (.ref b), some (.str word), some (.int (1 + r3)), some (.int dp), some (.ref N), some (.ref Fa), some (.int (0 + i)), some (.int bl)] ∧ 1 ≤ bl ∧ bl ≤ d - 1 ∧
   H' N = some (.lst (ss.map V.str)) ∧ H' Fa = some (.lst xs) ∧ FIn H' xs fs ∧ Flow H' a ∧ One H' b ∧ Kp [a, b] H H', ?_, ?_⟩
  ·refine ⟨_, rfl, _, rfl, rfl, _, rfl, ?_⟩
   refine ite2 (fun c => ?_) (fun c => ?_)
   ·exact ⟨_, rfl, _, _, rfl, rfl, d - 1, rfl, by omega, by omega, hN5, hF5, fin, fl5, on5, k5⟩
   ·refine ⟨fun σ H' => ∃ bl : Int, σ = [some (.ref a), some (.int d), some (.ref b), some (.str word), some (.int (1 + r3)), some (.int dp), some (.ref N), some (.ref Fa), some (.int (0 + i)), some (.int bl)] ∧ 1 ≤ bl ∧ bl ≤ d - 1 ∧
     H' N = some (.lst (ss.map V.str)) ∧ H' Fa = some (.lst xs) ∧ FIn H' xs fs ∧ Flow H' a ∧ One H' b ∧ Kp [a, b] H H', ?_, fun _ _ h => h⟩
    obtain ⟨rr, er⟩ := id on5
    refine ⟨_, rfl, b, _, _, _, rfl, rfl, SqL.of er, atI0, _, _, rfl, rfl, _, rfl, ?_⟩
    refine ite2 (fun c1 => ?_) (fun c1 => iteF ⟨1, rfl, by omega, by omega, hN5, hF5, fin, fl5, on5, k5⟩)
    refine ⟨_, rfl, a, 3, rfl, fl5, by decide, by decide, fun r6 H6 r60 r61 fl6 k6 => ⟨rfl, _, rfl, ?_⟩⟩
    have on6 := on5.kp k6 hbn
    have hN6 := k6 N _ (by simpa using hNa) hN5
    have hF6 := k6 Fa _ (by simpa using hFa) hF5
    have fin6 := fin.mono (fl5.tp k6)
    refine ite2 (fun c2 => ?_) (fun c2 => ⟨1, rfl, by omega, by omega, hN6, hF6, fin6, fl6, on6, k5.trans (up1 k6)⟩)
    obtain ⟨r7, er7⟩ := id on6
    refine ⟨_, rfl, b, _, _, _, rfl, rfl, SqL.of er7, atI0, _, _, rfl, rfl, _, rfl, b, _, _, _, rfl, rfl, er7, rfl, ?_⟩
    have flb : Flow (upd H6 b (.lst ([.int r7].set 0 (.int (r7 - 1))))) a := by
     obtain ⟨f0, f1, f2, e, z⟩ := fl6
     exact ⟨f0, f1, f2, by rw [upd_ne hba.symm]; exact e, z⟩
    have onb : One (upd H6 b (.lst ([.int r7].set 0 (.int (r7 - 1))))) b := ⟨r7 - 1, upd_same⟩
    refine ⟨_, rfl, _, rfl, _, _, rfl, rfl, a, d - 1, rfl, flb, by omega, by omega, fun r8 H8 r80 r81 fl8 k8 => ⟨_, _, rfl, rfl, ?_⟩⟩
    refine ⟨1 + r8, rfl, by omega, by omega, k8 N _ (by simpa using hNa) (by rw [upd_ne hNb]; exact hN6), k8 Fa _ (by simpa using hFa) (by rw [upd_ne hFb]; exact hF6), (fin6.mono (tp_set er7 _)).mono (flb.tp k8), fl8, onb.kp k8 hbn, ?_⟩
    exact ((k5.trans (up1 k6)).trans (Kp.set (by simp) _)).trans (up1 k8)
  rintro σ H6 ⟨bl, rfl, bl1, bld, hN6, hF6, fin6, fl6, on6, k6⟩
  -- names.append(name)
  refine ⟨_, rfl, .inl ⟨rfl, _, SqL.of hN6⟩, _, rfl, _, rfl, a, N, ss, rfl, fl6, hN6, by omega, hnm, fun z H7 nz nf fl7 k7 => ?_⟩
  have hN7 := k7 N _ (by simpa using hNa) hN6
  have hF7 := k7 Fa _ (by simpa using hFa) hF6
  refine ⟨N, _, _, rfl, rfl, hN7, ?_, ?_⟩
  ·rw [List.length_map, hsl]; exact small1000 (by omega)
  -- fields.append((names[k], kind))
  have on7 := on6.kp k7 hbn
  have fl8 : Flow (upd H7 N (.lst (ss.map V.str ++ [.str z]))) a := by
   obtain ⟨f0, f1, f2, e, zz⟩ := fl7
   exact ⟨f0, f1, f2, by rw [upd_ne hNa.symm]; exact e, zz⟩
  have on8 : One (upd H7 N (.lst (ss.map V.str ++ [.str z]))) b := by
   obtain ⟨r, e⟩ := on7
   exact ⟨r, by rw [upd_ne hNb.symm]; exact e⟩
  have fin8 := (fin6.mono (fl6.tp k7)).mono (tp_set hN7 (.lst (ss.map V.str ++ [.str z])))
  have hF8 : (upd H7 N (.lst (ss.map V.str ++ [.str z]))) Fa = some (.lst xs) := by rw [upd_ne hFN]; exact hF7
  have k8 : Kp [a, b] H (upd H7 N (.lst (ss.map V.str ++ [.str z]))) := stay HN (k6.trans (up1 k7))
  have hix : atI (ss.map V.str ++ [.str z]) (0 + (i : Int)) = some (.str z) := by
   have e : (0 + (i : Int)) = ((ss.map V.str).length : Nat) := by rw [List.length_map, hsl]; omega
   rw [e]
   exact atI_nat (by rw [List.getElem?_append_right (Nat.le_refl _), Nat.sub_self]; rfl)
  refine ⟨_, rfl, .inl ⟨rfl, _, SqL.of hF8⟩, _, rfl, _, rfl, N, _, _, _, rfl, rfl, SqL.of upd_same, hix, ?_⟩
  refine ⟨_, rfl, _, rfl, _, rfl, a, b, bl, rfl, fl8, on8, bl1, by omega, by omega, fun v k H9 ki kg kd fl9 on9 k9 => ?_⟩
  have nNab : N ∉ [a, b] := by simp [hNa, hNb]
  have nFab : Fa ∉ [a, b] := by simp [hFa, hFb]
  have hN9 := k9 N _ nNab upd_same
  have hF9 := k9 Fa _ nFab hF8
  have fin9 := fin8.mono (fl8.tp2 on8 k9)
  refine ⟨by show 2 ≤ sizeLine; decide, fun p hp => ?_⟩
  have hFp : Fa ≠ p := ne_of_none hF9 hp
  have hNp : N ≠ p := ne_of_none hN9 hp
  have hF10 : (upd H9 p (.tup [.str z, v])) Fa = some (.lst xs) := by rw [upd_ne hFp]; exact hF9
  have xl : xs.length = i := by rw [fin.length, ← hsl, ← hfs, List.length_map]
  refine ⟨Fa, _, _, rfl, rfl, hF10, by rw [xl]; exact small1000 (by omega), ?_⟩
  refine ⟨_, _, ss ++ [z], xs ++ [.ref p], fs ++ [(z, k)], rfl, ?_, ?_, ?_, ?_, upd_same, ?_, ?_, ?_, ?_, ?_, ?_, ?_⟩
  ·rw [upd_ne hFN.symm, upd_ne hNp, hN9, List.map_append]; rfl
  ·rw [List.length_append, hsl]; rfl
  ·intro y hy
   rcases List.mem_append.mp hy with h | h
   ·exact hnm y h
   ·rw [List.mem_singleton.mp h]; exact nz
  ·exact nodup_snoc hnd nf
  ·have t1 : Tp H9 (upd (upd H9 p (.tup [.str z, v])) Fa (.lst (xs ++ [.ref p]))) := (tp_new hp _).trans (tp_set hF10 _)
   exact (fin9.mono t1).snoc (by rw [upd_ne hFp.symm]; exact upd_same) (ki.mono t1)
  ·rw [List.map_append, hfs]; rfl
  ·exact goodF_snoc nz kg hgf
  ·exact depthF_snoc hdf (by omega)
  ·obtain ⟨f0, f1, f2, e, zz⟩ := fl9
   have ea : a ≠ p := ne_of_none e hp
   exact ⟨f0, f1, f2, by rw [upd_ne hFa.symm, upd_ne ea]; exact e, zz⟩
  ·obtain ⟨r, e⟩ := on9
   have eb : b ≠ p := ne_of_none e hp
   exact ⟨r, by rw [upd_ne hFb.symm, upd_ne eb]; exact e⟩
  ·exact stay HF ((k8.trans k9).trans (Kp.new hp _))
 rintro σ H5 ⟨o8, o9, ss, xs, fs, rfl, hN5, hsl, hnm, hnd, hF5, fin, hfs, hgf, hdf, fl5, on5, k5⟩
 -- the end
 refine ⟨_, rfl, _, rfl, Fa, xs, rfl, .inl ⟨SqL.of hF5, fun l hl => ⟨by show 2 ≤ sizeLine; decide, fun p hp => ?_⟩⟩⟩
 have lp : l ≠ p := ne_of_none upd_same hp
 have fl7 : fs.length = (1 + r3).toNat := by rw [← hsl, ← hfs, List.length_map]
 have t1 : Tp H5 (upd (upd H5 l (.tup xs)) p (.tup [.str word, .ref l])) := (tp_new hl _).trans (tp_new hp _)
 have hl' : (upd (upd H5 l (.tup xs)) p (.tup [.str word, .ref l])) l = some (.tup xs) := by rw [upd_ne lp]; exact upd_same
 have kk : Kp [a, b] H (upd (upd H5 l (.tup xs)) p (.tup [.str word, .ref l])) := (k5.trans (Kp.new hl _)).trans (Kp.new hp _)
 rcases hw2 with e | e <;> subst e
 ·refine q _ (.rec_ fs) _ (by unfold KIn; exact ⟨p, l, xs, rfl, upd_same, hl', fin.mono t1⟩) (by unfold Kd.good; exact ⟨hgf, by omega, by omega, by rw [hfs]; exact hnd⟩) (by unfold Kd.depth; omega) ((fl5.new hl).new hp) ((on5.new hl).new hp) kk
 ·refine q _ (.pick fs) _ (by unfold KIn; exact ⟨p, l, xs, rfl, upd_same, hl', fin.mono t1⟩) (by unfold Kd.good; exact ⟨hgf, by omega, by omega, by rw [hfs]; exact hnd⟩) (by unfold Kd.depth; omega) ((fl5.new hl).new hp) ((on5.new hl).new hp) kk
end
end Tg
set_option Elab.async false
set_option linter.all false
set_option maxRecDepth 100000
set_option maxHeartbeats 4000000
namespace Tg
open PySem L2 L3
mutual
theorem kin_r {H : Hp} : ∀ {k : Kd} {v : V}, KIn H v k → R H v k.tr
 | .num w, v, h => by
  unfold KIn at h
  obtain ⟨a, rfl, e⟩ := h
  exact r_tup e (rs_cons r_str (rs_cons r_int rs_nil))
 | .text, v, h => by
  unfold KIn at h
  obtain ⟨a, rfl, e⟩ := h
  exact r_tup e (rs_cons r_str rs_nil)
 | .row k, v, h => by
  unfold KIn at h
  obtain ⟨a, u, rfl, e, q⟩ := h
  exact r_tup e (rs_cons r_str (rs_cons (kin_r q) rs_nil))
 | .rec_ fs, v, h => by
  unfold KIn at h
  obtain ⟨a, f, xs, rfl, e, e2, q⟩ := h
  exact r_tup e (rs_cons r_str (rs_cons (r_tup e2 (fin_r q)) rs_nil))
 | .pick fs, v, h => by
  unfold KIn at h
  obtain ⟨a, f, xs, rfl, e, e2, q⟩ := h
  exact r_tup e (rs_cons r_str (rs_cons (r_tup e2 (fin_r q)) rs_nil))
theorem fin_r {H : Hp} : ∀ {fs : List (Str × Kd)} {xs : List V}, FIn H xs fs → Rs H xs (trF fs)
 | [], xs, h => by unfold FIn at h; rw [h]; exact rs_nil
 | (nm, k) :: r, xs, h => by
  unfold FIn at h
  obtain ⟨p, u, ys, rfl, e, q, z⟩ := h
  exact rs_cons (r_tup e (rs_cons r_str (rs_cons (kin_r q) rs_nil))) (fin_r z)
end
def FlowAt (Γ : Gp) (a : Addr) : Prop := ∃ f0 f1 f2 : Int, Γ a = some (.lst [.int f0, .int f1, .int f2]) ∧ 0 ≤ f0 ∧ 0 ≤ f1 ∧ f1 < 10 ^ 40 + 121
def OneAt (Γ : Gp) (b : Addr) : Prop := ∃ r : Int, Γ b = some (.lst [.int r])
theorem FlowAt.fr {Γ Γ' : Gp} {a : Addr} {l : List Addr} (h : FlowAt Γ a) (f : Fr l Γ Γ') (n : a ∉ l) : FlowAt Γ' a := by
 obtain ⟨f0, f1, f2, e, r⟩ := h
 exact ⟨f0, f1, f2, by rw [f a n]; exact e, r⟩
theorem FlowAt.kq {Γ Γ' : Gp} {a : Addr} {l : List Addr} (h : FlowAt Γ a) (f : Kq l Γ Γ') (n : a ∉ l) : FlowAt Γ' a := by
 obtain ⟨f0, f1, f2, e, r⟩ := h
 exact ⟨f0, f1, f2, f a _ n e, r⟩
theorem FlowAt.new {Γ : Gp} {a p : Addr} {o : O} (h : FlowAt Γ a) (n : Γ p = none) : FlowAt (up Γ p o) a := h.kq (l := []) (Kq.new n o) (by simp)
theorem FlowAt.up {Γ : Gp} {a p : Addr} {o : O} (h : FlowAt Γ a) (n : a ≠ p) : FlowAt (up Γ p o) a := by
 obtain ⟨f0, f1, f2, e, r⟩ := h
 exact ⟨f0, f1, f2, by rw [up_ne n]; exact e, r⟩
theorem FlowAt.some {Γ : Gp} {a : Addr} (h : FlowAt Γ a) : ∃ o, Γ a = .some o := by
 obtain ⟨f0, f1, f2, e, r⟩ := h
 exact ⟨_, e⟩
theorem FlowAt.nn {Γ : Gp} {a p : Addr} (h : FlowAt Γ a) (n : Γ p = none) : p ≠ a := by
 obtain ⟨o, e⟩ := h.some
 exact (gnn e n).symm
theorem OneAt.fr {Γ Γ' : Gp} {a : Addr} {l : List Addr} (h : OneAt Γ a) (f : Fr l Γ Γ') (n : a ∉ l) : OneAt Γ' a := by
 obtain ⟨r, e⟩ := h
 exact ⟨r, by rw [f a n]; exact e⟩
theorem OneAt.kq {Γ Γ' : Gp} {a : Addr} {l : List Addr} (h : OneAt Γ a) (f : Kq l Γ Γ') (n : a ∉ l) : OneAt Γ' a := by
 obtain ⟨r, e⟩ := h
 exact ⟨r, f a _ n e⟩
theorem OneAt.ne {Γ : Gp} {a b : Addr} (h : FlowAt Γ a) (h' : OneAt Γ b) : b ≠ a := by
 obtain ⟨f0, f1, f2, e, _⟩ := h
 obtain ⟨r, e'⟩ := h'
 exact gne e' e (fun z => by have := O.lst.inj z; cases this)
theorem br_step {H H' : Hp} {Γ Γ' : Gp} {l : List Addr} (hr : HR H Γ) (k : Kp l H H') (hl : ∀ b ∈ l, ∃ ts ts' vs', Γ b = some (.lst ts) ∧ H' b = some (.lst vs') ∧ Rs H' vs' ts' ∧ Γ' b = some (.lst ts')) (fr : Fr l Γ Γ') : Stp H Γ H' Γ' ∧ HR H' Γ' := by
 have nl : ∀ b ∈ l, ∃ vs, H b = some (.lst vs) := fun b hb => by
  obtain ⟨ts, ts', vs', g, _⟩ := hl b hb
  obtain ⟨vs, h, _⟩ := hr b _ g
  exact ⟨vs, h⟩
 have tq : Tq H H' := ⟨fun a vs h => k a _ (fun z => by obtain ⟨us, h'⟩ := nl a z; rw [h] at h'; cases h') h, fun a o u h => k a _ (fun z => by obtain ⟨us, h'⟩ := nl a z; rw [h] at h'; cases h') h⟩
 refine ⟨⟨tq, fun a h z => ?_, fun a h g => ?_, fun a o h g => ?_⟩, fun a o g => ?_⟩
 ·by_cases m : a ∈ l
  ·obtain ⟨_, _, vs', _, h', _⟩ := hl a m
   rw [z] at h'; cases h'
  ·cases e : H a with
   | none => exact h e
   | some o => exact (by rw [k a o m e] at z; cases z)
 ·have m : a ∉ l := fun m => by obtain ⟨ts, _, _, g', _⟩ := hl a m; rw [g] at g'; cases g'
  rw [fr a m]; exact g
 ·have m : a ∉ l := fun m => by obtain ⟨ts, _, _, g', _⟩ := hl a m; rw [g] at g'; cases g'
  exact k a o m h
 ·by_cases m : a ∈ l
  ·obtain ⟨_, ts', vs', _, h', q, g'⟩ := hl a m
   rw [g] at g'; cases g'
   exact ⟨vs', h', q⟩
  ·rw [fr a m] at g
   exact (hr a o g).mono tq fun u h => k a u m h
theorem flow_dn {H : Hp} {Γ : Gp} {a : Addr} (hr : HR H Γ) (h : FlowAt Γ a) : Flow H a := by
 obtain ⟨f0, f1, f2, e, r⟩ := h
 obtain ⟨vs, hv, q⟩ := hr a _ e
 rw [rs_ints (ns := [f0, f1, f2]) q] at hv
 exact ⟨f0, f1, f2, hv, r⟩
theorem one_dn {H : Hp} {Γ : Gp} {a : Addr} (hr : HR H Γ) (h : OneAt Γ a) : One H a := by
 obtain ⟨r, e⟩ := h
 obtain ⟨vs, hv, q⟩ := hr a _ e
 rw [rs_ints (ns := [r]) q] at hv
 exact ⟨r, hv⟩
theorem rs_of_ints {H : Hp} : ∀ ns : List Int, Rs H (ns.map V.int) (ns.map T.int)
 | [] => rs_nil
 | n :: r => rs_cons r_int (rs_of_ints r)
def spDr : Sp3 := fun ts Γ Z _ => ∃ (a : Addr) (m : Int), ts = [.ref a, .int m] ∧ FlowAt Γ a ∧ 0 < m ∧ m < 2 ^ 200 ∧ ∀ (r : Int) (Γ' : Gp), 0 ≤ r → r < m → FlowAt Γ' a → Fr [a] Γ Γ' → Z (.int r) Γ'
def spKd (n : Nat) : Sp3 := fun ts Γ Z _ => ∃ (a b : Addr) (d : Int), ts = [.ref a, .int d, .ref b] ∧ FlowAt Γ a ∧ OneAt Γ b ∧ 1 ≤ d ∧ d < n ∧ d ≤ 10 ∧
 ∀ (k : Kd) (Γ' : Gp), k.good → (k.depth : Int) ≤ d → FlowAt Γ' a → OneAt Γ' b → Fr [a, b] Γ Γ' → Z k.tr Γ'
section
variable {P : Program} {w : World} {K : PySem.W.Frag} {mg : Str → Option Value} {base : Heap}
theorem br_draw {k : Nat} (c : Callee P w K mg base "_law_draw" k ["flow", "many"] spDraw) : Cl3 P w K mg base "_law_draw" k ["flow", "many"] spDr :=
 c.imp fun vs H Q E ⟨ts, Γ, Z, Y, r, hr, ⟨a, m, e, fl, m0, m1, q⟩, vr, xr⟩ => by
  subst e
  obtain ⟨v, w, rfl, r1, r2⟩ := rs2 r
  refine ⟨a, m, by rw [i_ref r1, i_int r2], flow_dn hr fl, m0, m1, fun i H' i0 i1 fl' k => ?_⟩
  obtain ⟨f0, f1, f2, e', b'⟩ := fl'
  obtain ⟨g0, g1, g2, eg, _⟩ := fl
  have fr : Fr [a] Γ (up Γ a (.lst [.int f0, .int f1, .int f2])) := .set (by simp) _
  obtain ⟨s, hr'⟩ := br_step hr k (fun b hb => by rw [List.mem_singleton.mp hb]; exact ⟨_, _, _, eg, e', rs_of_ints [f0, f1, f2], up_same⟩) fr
  exact vr _ _ H' _ s hr' r_int (q i _ i0 i1 ⟨f0, f1, f2, up_same, b'⟩ fr)
theorem br_kind {k n : Nat} (c : Callee P w K mg base "_law_kind" k ["flow", "depth", "room"] (spKind n)) : Cl3 P w K mg base "_law_kind" k ["flow", "depth", "room"] (spKd n) :=
 c.imp fun vs H Q E ⟨ts, Γ, Z, Y, r, hr, ⟨a, b, d, e, fl, on, d1, dn, d10, q⟩, vr, xr⟩ => by
  subst e
  obtain ⟨v, ws, rfl, r1, r'⟩ := rs_inv r
  obtain ⟨w, u, rfl, r2, r3⟩ := rs2 r'
  refine ⟨a, b, d, by rw [i_ref r1, i_int r2, i_ref r3], flow_dn hr fl, one_dn hr on, d1, dn, d10, fun v k H' ki kg kd fl' on' kp => ?_⟩
  have nab : b ≠ a := OneAt.ne fl on
  obtain ⟨f0, f1, f2, e', b'⟩ := fl'
  obtain ⟨g0, g1, g2, eg, _⟩ := fl
  obtain ⟨r0, er⟩ := on
  obtain ⟨r', er'⟩ := on'
  have fr : Fr [a, b] Γ (up (up Γ a (.lst [.int f0, .int f1, .int f2])) b (.lst [.int r'])) := (Fr.set (by simp) _).trans (Fr.set (by simp) _)
  obtain ⟨s, hr'⟩ := br_step hr kp (fun c hc => by
   rcases List.mem_cons.mp hc with rfl | hc
   ·exact ⟨_, _, _, eg, e', rs_of_ints [f0, f1, f2], by rw [up_ne nab.symm]; exact up_same⟩
   ·rw [List.mem_singleton.mp hc]; exact ⟨_, _, _, er, er', rs_of_ints [r'], up_same⟩) fr
  exact vr _ _ H' _ s hr' (kin_r ki) (q k _ kg (by omega) ⟨f0, f1, f2, by rw [up_ne nab.symm]; exact up_same, b'⟩ ⟨r', up_same⟩ fr)
end
end Tg
set_option Elab.async false
set_option linter.all false
set_option maxRecDepth 100000
set_option maxHeartbeats 4000000
namespace Tg
open PySem L2 L3
local macro_rules | `(tactic| and_intros) => `(tactic| repeat (first
 | with_reducible refine t_seq ?_ | with_reducible refine t_if ?_ | with_reducible refine t_op ?_ | with_reducible refine t_T ?_ | with_reducible refine t_c ?_
 | ((with_reducible apply t_var); exact rfl) | with_reducible refine t_set ?_ | with_reducible refine t_ret ?_ | with_reducible refine t_retN ?_ | with_reducible refine t_drop ?_ | with_reducible refine t_next ?_ | with_reducible refine t_cnt ?_
 | with_reducible refine t_ix0 ?_ | with_reducible refine t_ix1 ?_ | with_reducible refine t_J ?_ | with_reducible refine t_eqS ?_ | with_reducible refine t_eqI ?_ | with_reducible refine t_neS ?_ | with_reducible refine t_neI ?_ | with_reducible refine t_bl ?_
 | with_reducible refine t_band ?_ | with_reducible refine t_bor ?_ | with_reducible refine t_bnot ?_ | with_reducible refine t_and ?_ | with_reducible refine t_or ?_ | with_reducible refine t_not ?_ | with_reducible refine t_eif ?_
 | with_reducible refine t_cons ?_ | with_reducible refine t_nil ?_ | with_reducible refine t_tup ?_ | with_reducible refine t_lst ?_ | with_reducible refine t_call ?_ | with_reducible refine t_callX ?_ | with_reducible refine t_cb ?_
 | with_reducible refine t_bm ?_ | with_reducible refine t_bm0 ?_ | with_reducible refine t_inst ?_ | with_reducible refine t_tru ?_ | with_reducible refine t_asg ?_ | with_reducible refine t_hn ?_ | ((with_reducible refine t_ht ?_ ?_); exact rfl) | with_reducible refine t_hc ?_ | with_reducible refine t_h0 ?_ | with_reducible refine t_hs ?_
 | with_reducible refine t_un ?_ | with_reducible refine t_neg ?_ | with_reducible refine t_sl ?_ | with_reducible refine t_on ?_ | with_reducible refine t_os ?_ | with_reducible refine t_oi ?_ | with_reducible refine t_rev ?_ | with_reducible refine t_for ?_ | with_reducible refine t_itp ?_ | with_reducible refine t_tp ?_ | with_reducible refine t_comp ?_ | with_reducible refine t_bt ?_ | with_reducible refine t_raise ?_ | with_reducible refine t_rg1 ?_ | with_reducible refine t_zp ?_ | with_reducible refine t_en ?_ | with_reducible refine t_ils ?_ | with_reducible refine t_ist ?_ | with_reducible refine t_str ?_
 | with_reducible refine t_2i ?_ | ((with_reducible apply t_ixR); (first | assumption | exact up_same); (first | exact at0 | exact at1)) | ((with_reducible apply t_hsub); (first | assumption | exact up_same); exact rfl)
 | with_reducible refine And.intro (rfl : T.non = T.non) ?_ | with_reducible refine t_try ?_ | with_reducible refine t_lz ?_ | with_reducible refine t_e0 ?_ | with_reducible refine t_chain ?_ | ((with_reducible apply t_inT); exact rfl; exact rfl; exact rfl) | with_reducible refine t_tyS ?_ | with_reducible refine t_1t ?_ | with_reducible refine t_2t ?_ | with_reducible refine t_eqSI ?_ | with_reducible refine t_eqIS ?_ | with_reducible refine t_neSI ?_ | with_reducible refine t_neIS ?_ | with_reducible refine t_gT ?_ | with_reducible refine t_lenT ?_
 | ((with_reducible refine t_len ?_ ?_); exact rfl)
 | ((with_reducible refine t_I ?_ ?_); (first | exact ⟨by decide, by decide, by decide⟩ | exact ⟨by decide, by decide⟩ | exact Or.inl ⟨by decide, by decide⟩ | exact Or.inr ⟨by decide, by decide⟩ | ((show (0 : Int) < _); decide)))
 | ((with_reducible refine c_ifT ?_ ?_); (first | exact rfl | decide +kernel)) | ((with_reducible refine c_ifF ?_ ?_); (first | exact rfl | decide +kernel))))
theorem map_shift {α : Type} (o : Option (Nat × α)) (i : Nat) : (o.map fun p => (p.1 + 1, p.2)).map (fun p => (p.1 + i, p.2)) = o.map fun p => (p.1 + (i + 1), p.2) := by
 cases o with
 | none => rfl
 | some p => show some (p.1 + 1 + i, p.2) = some (p.1 + (i + 1), p.2); congr 2; omega
section
variable {P : Program} {w : World} {K : PySem.W.Frag} {mg : Str → Option Value} {base : Heap} {f : Addr} {fd : FuncData} {v1 v2 v3 : Value} {dN : Addr}
abbrev s_field_place : Stmt := top 19
theorem sc_field_place : FnScope ["kind", "name", "place", "other", "inner"] ["kind", "name"] (defScope s_field_place) := ⟨rfl, rfl, rfl, by decide +kernel, rfl, by decide +kernel, by decide +kernel⟩
def spFP (D : Addr) : Sp3 := fun ts Γ Z Y => ∃ (hd : Str) (fs : List (Str × Kd)) (x : T), ts = [.tup [.str hd, .tup (trF fs)], x] ∧ Sx x ∧ (∀ j k, byF fs x = some (j, k) → Z (.int j) Γ) ∧ (byF fs x = none → Y (.ref D) Γ)
theorem ok_field_place (F : Fun K "field_place" "field_place" s_field_place f fd) (m_NoPart : mg "NoPart" = some (.ref dN)) (x_NoPart : PySem.W.excIn K dN [.type "ValueError", .type "Exception", .type "BaseException", .type "object"] "ValueError.__new__" = true)
  (z_enumerate : mg "enumerate" = none) : FnOk P w K mg base (CXe P w) 1 f fd ["kind", "name"] (liSp (spFP dN)) := by
 refine okdX F sc_field_place (fun ts Γ Z Y h => ?_) (fun cdv A outer s H E ts Γ Z Y hr h => ?_)
 ·obtain ⟨hd, fs, x, rfl, _⟩ := h
  rfl
 obtain ⟨hd, fs, x, rfl, sx, q, qE⟩ := h
 refine ⟨_, (qss_cons (qs_for own_def rfl (qi_enum rfl z_enumerate (qa_cons (qe_ix (qv 0) qe_int (fun _ _ => rfl)) qa_nil)) (qg_tup (n := 2) rfl (qgs_cons (qg_name (i := 2) sc_field_place.nd rfl (Or.inl rfl)) (qgs_cons (qg_tup (n := 2) rfl (qgs_cons (qg_name (i := 3) sc_field_place.nd rfl (Or.inl rfl)) (qgs_cons (qg_name (i := 4) sc_field_place.nd rfl (Or.inl rfl)) qgs_nil))) qgs_nil))) (qss_cons (qs_if (qt_cmpR oq_eq (qv 3) (qv 1) (nomark _)) (qss_cons (qs_ret (qv 2))
  qss_nil) qss_nil)
  qss_nil))
  (qss_cons (qs_raise rfl rfl m_NoPart x_NoPart PySem.F.excBase_ValueError (qa_cons qe_str qa_nil) raise_def)
  qss_nil)), ?_⟩
 simp only [start3]
 and_intros
 refine ⟨fun rest τ Γ' => ∃ (i : Nat) (gs : List (Str × Kd)) (o2 o3 o4 : Option T), rest = enumT i (trF gs) ∧ τ = [some (.tup [.str hd, .tup (trF fs)]), some x, o2, o3, o4] ∧ Γ' = Γ ∧ byF fs x = (byF gs x).map fun p => (p.1 + i, p.2), ?_, ?_, ?_⟩
 ·exact ⟨0, fs, none, none, none, rfl, rfl, rfl, by cases byF fs x <;> rfl⟩
 ·rintro τ Γ' ⟨i, gs, o2, o3, o4, e, rfl, rfl, b⟩
  cases gs with
  | cons p r => cases e
  | nil =>
   refine ⟨trivial, ?_⟩
   and_intros
   refine ⟨Γ', .refl, qE ?_⟩
   rw [b]
   cases sx <;> rfl
 ·rintro x0 r τ Γ' ⟨i, gs, o2, o3, o4, e, rfl, rfl, b⟩
  cases gs with
  | nil => cases e
  | cons p gs =>
   obtain ⟨n, k⟩ := p
   cases e
   and_intros
   cases sx with
   | int j =>
    and_intros
    exact ⟨i + 1, gs, _, _, _, rfl, rfl, rfl, b⟩
   | @str z l =>
    and_intros
    refine c_if (fun c => ?_) (fun c => ?_)
    ·cases d_str c
     and_intros
     refine drop0 .refl (q i k ?_)
     rw [b]
     show (if n = n then some (0, k) else _).map _ = _
     rw [if_pos rfl]
     show some (0 + i, k) = _
     rw [Nat.zero_add]
    ·and_intros
     refine ⟨i + 1, gs, _, _, _, rfl, rfl, rfl, ?_⟩
     rw [b]
     show (if n = z then some (0, k) else (findF gs z).map fun p => (p.1 + 1, p.2)).map _ = _
     rw [if_neg (d_strN c)]
     exact map_shift _ _
abbrev s_is_whole : Stmt := top 16
theorem sc_is_whole : FnScope ["thing"] ["thing"] (defScope s_is_whole) := ⟨rfl, rfl, rfl, by decide +kernel, rfl, by decide +kernel, by decide +kernel⟩
def spWhole : Sp3 := fun ts Γ Z _ => ∃ x : T, ts = [x] ∧ Sx x ∧ Z (.bl (match x with | .int _ => true | _ => false)) Γ
theorem ok_is_whole (F : Fun K "is_whole" "is_whole" s_is_whole f fd) (z_isinstance : mg "isinstance" = none) (z_int : mg "int" = none) (z_bool : mg "bool" = none) : FnOk P w K mg base CX0 1 f fd ["thing"] (liSp spWhole) := by
 refine okd F sc_is_whole (fun ts Γ Z Y h => ?_) (fun cdv A outer s H E ts Γ Z Y hr h => ?_)
 ·obtain ⟨x, rfl, _⟩ := h
  rfl
 obtain ⟨x, rfl, sx, q⟩ := h
 refine ⟨_, (qss_cons (qs_ret (qe_and (qe_inst rfl z_isinstance rfl z_int bt_int (qv 0)) (qe_one (qe_not (qe_inst rfl z_isinstance rfl z_bool bt_bool (qv 0))))))
  qss_nil), ?_⟩
 simp only [start3]
 and_intros
 cases sx with
 | int i =>
  refine ⟨_, true, rfl, rfl, ?_⟩
  and_intros
  refine ⟨_, false, rfl, rfl, ?_⟩
  and_intros
  exact drop0 .refl q
 | str l =>
  refine ⟨_, false, rfl, rfl, ?_⟩
  and_intros
  exact drop0 .refl q
abbrev s_step_kind : Stmt := top 18
theorem sc_step_kind : FnScope ["kind", "step", "head"] ["kind", "step"] (defScope s_step_kind) := ⟨rfl, rfl, rfl, by decide +kernel, rfl, by decide +kernel, by decide +kernel⟩
def spSt (D : Addr) : Sp3 := fun ts Γ Z Y => ∃ (k : Kd) (x : T), ts = [k.tr, x] ∧ Sx x ∧ (∀ k', stepK k x = some k' → Z k'.tr Γ) ∧ (stepK k x = none → Y (.ref D) Γ)
theorem ok_step_kind (F : Fun K "step_kind" "step_kind" s_step_kind f fd) (c_is_whole : Cl3 P w K mg base "is_whole" 1 ["thing"] spWhole) (c_field_place : Clx P w K mg base "field_place" 1 ["kind", "name"] (spFP dN)) (m_NoPart : mg "NoPart" = some (.ref dN)) (x_NoPart : PySem.W.excIn K dN [.type "ValueError", .type "Exception", .type "BaseException", .type "object"] "ValueError.__new__" = true)
  (m_MOST_ITEMS : mg "MOST_ITEMS" = some v1) (g_MOST_ITEMS : GlobIs v1 (.int 60)) : FnOk P w K mg base (CXe P w) 2 f fd ["kind", "step"] (liSp (spSt dN)) := by
 refine okdX F sc_step_kind (fun ts Γ Z Y h => ?_) (fun cdv A outer s H E ts Γ Z Y hr h => ?_)
 ·obtain ⟨k, x, rfl, _⟩ := h
  rfl
 obtain ⟨k, x, rfl, sx, q, qE⟩ := h
 refine ⟨_, (qss_cons (qs_set (i := 2) sc_step_kind.nd rfl (Or.inl rfl) (qe_ix (qv 0) qe_int (fun _ _ => rfl)))
  (qss_cons (qs_if (qt_cmpR oq_eq (qv 2) qe_str (nomark _)) (qss_cons (qs_if (PW.pt (qw_and (qt_val (qe_call c_is_whole hr (by omega) rfl (qa_cons (qv 1) qa_nil))) (qw_and1 (qt_chain oq_le oq_lt qe_int (qv 1) (qe_glob rfl m_MOST_ITEMS g_MOST_ITEMS))))) (qss_cons (qs_ret (qe_ix (qv 0) qe_int (fun _ _ => rfl)))
  qss_nil) qss_nil)
  (qss_cons (qs_raise rfl rfl m_NoPart x_NoPart PySem.F.excBase_ValueError (qa_cons qe_str qa_nil) raise_def)
  qss_nil)) qss_nil)
  (qss_cons (qs_if (qt_cmpR oq_in (qv 2) (qe_tup (qa_cons qe_str (qa_cons qe_str qa_nil))) (by with_unfolding_all rfl)) (qss_cons (qs_ret (qe_ix (qe_ix (qe_ix (qv 0) qe_int (fun _ _ => rfl)) (qe_callX c_field_place hr (by omega) rfl pass_def (qa_cons (qv 0) (qa_cons (qv 1) qa_nil))) (fun _ _ => rfl)) qe_int (fun _ _ => rfl)))
  qss_nil) qss_nil)
  (qss_cons (qs_raise rfl rfl m_NoPart x_NoPart PySem.F.excBase_ValueError (qa_cons qe_str qa_nil) raise_def)
  qss_nil)))), ?_⟩
 simp only [start3]
 have no : stepK k x = none → ∃ Γ2, Le Γ2 Γ ∧ Y (.ref dN) Γ2 := fun e => ⟨Γ, .refl, qE e⟩
 cases k with
 | num wd => rw [Kd.tr]; and_intros; exact no rfl
 | text => rw [Kd.tr]; and_intros; exact no rfl
 | row j =>
  rw [Kd.tr]
  and_intros
  refine ⟨x, rfl, sx, ?_⟩
  cases sx with
  | str l => and_intros; exact no rfl
  | int i =>
   and_intros
   refine c_if (fun c => ?_) (fun c => ?_)
   ·and_intros
    refine c_if (fun c2 => ?_) (fun c2 => ?_)
    ·and_intros
     refine drop0 .refl (q j ?_)
     exact if_pos ⟨of_decide_eq_true c, of_decide_eq_true c2⟩
    ·and_intros
     exact no (if_neg fun z => of_decide_eq_false c2 z.2)
   ·and_intros
    exact no (if_neg fun z => of_decide_eq_false c z.1)
 | rec_ fs =>
  rw [Kd.tr]
  and_intros
  refine ⟨"rec", fs, x, rfl, sx, fun j k e => ?_, fun e => no (by show (byF fs x).map _ = _; rw [e]; rfl)⟩
  obtain ⟨n, rfl, m⟩ := byF_mem e
  refine t_ixN (trF_get m) ?_
  and_intros
  exact drop0 .refl (q k (by show (byF fs _).map _ = _; rw [e]; rfl))
 | pick fs =>
  rw [Kd.tr]
  and_intros
  refine ⟨"pick", fs, x, rfl, sx, fun j k e => ?_, fun e => no (by show (byF fs x).map _ = _; rw [e]; rfl)⟩
  obtain ⟨n, rfl, m⟩ := byF_mem e
  refine t_ixN (trF_get m) ?_
  and_intros
  exact drop0 .refl (q k (by show (byF fs _).map _ = _; rw [e]; rfl))
abbrev s_part_place : Stmt := top 22
theorem sc_part_place : FnScope ["kind", "worth", "step", "head"] ["kind", "worth", "step"] (defScope s_part_place) := ⟨rfl, rfl, rfl, by decide +kernel, rfl, by decide +kernel, by decide +kernel⟩
def spPP (D : Addr) : Sp3 := fun ts Γ Z Y => ∃ (k : Kd) (u x : T), ts = [k.tr, u, x] ∧ Has k u ∧ Sx x ∧ (∀ j, placeW k u x = some j → Z (.int (j : Nat)) Γ) ∧ (placeW k u x = none → Y (.ref D) Γ)
theorem ok_part_place (F : Fun K "part_place" "part_place" s_part_place f fd) (c_step_kind : Clx P w K mg base "step_kind" 2 ["kind", "step"] (spSt dN)) (c_field_place : Clx P w K mg base "field_place" 1 ["kind", "name"] (spFP dN)) (m_NoPart : mg "NoPart" = some (.ref dN)) (x_NoPart : PySem.W.excIn K dN [.type "ValueError", .type "Exception", .type "BaseException", .type "object"] "ValueError.__new__" = true)
  (z_len : mg "len" = none) : FnOk P w K mg base (CXe P w) 3 f fd ["kind", "worth", "step"] (liSp (spPP dN)) := by
 refine okdX F sc_part_place (fun ts Γ Z Y h => ?_) (fun cdv A outer s H E ts Γ Z Y hr h => ?_)
 ·obtain ⟨k, u, x, rfl, _⟩ := h
  rfl
 obtain ⟨k, u, x, rfl, hs, sx, q, qE⟩ := h
 refine ⟨_, (qss_cons (qs_expr (qe_callX c_step_kind hr (by omega) rfl pass_def (qa_cons (qv 0) (qa_cons (qv 2) qa_nil))))
  (qss_cons (qs_set (i := 3) sc_part_place.nd rfl (Or.inl rfl) (qe_ix (qv 0) qe_int (fun _ _ => rfl)))
  (qss_cons (qs_if (qt_cmpR oq_eq (qv 3) qe_str (nomark _)) (qss_cons (qs_ret (qe_callX c_field_place hr (by omega) rfl pass_def (qa_cons (qv 0) (qa_cons (qv 2) qa_nil))))
  qss_nil) qss_nil)
  (qss_cons (qs_if (qt_cmpR oq_eq (qv 3) qe_str (nomark _)) (qss_cons (qs_if (qt_cmpR oq_lt (qv 2) (qe_callB cq_len rfl z_len PySem.boot_len (qa_cons (qv 1) qa_nil)) (nomark _)) (qss_cons (qs_ret (qv 2))
  qss_nil) qss_nil)
  (qss_cons (qs_raise rfl rfl m_NoPart x_NoPart PySem.F.excBase_ValueError (qa_cons qe_str qa_nil) raise_def)
  qss_nil)) qss_nil)
  (qss_cons (qs_if (qt_cmpR oq_eq (qe_ix (qv 1) qe_int (fun _ _ => rfl)) (qv 2) (nomark _)) (qss_cons (qs_ret qe_int)
  qss_nil) qss_nil)
  (qss_cons (qs_raise rfl rfl m_NoPart x_NoPart PySem.F.excBase_ValueError (qa_cons qe_str qa_nil) raise_def)
  qss_nil)))))), ?_⟩
 simp only [start3]
 have no : placeW k u x = none → ∃ Γ2, Le Γ2 Γ ∧ Y (.ref dN) Γ2 := fun e => ⟨Γ, .refl, qE e⟩
 and_intros
 refine ⟨k, x, rfl, sx, fun k' e => ?_, fun e => no ?_⟩
 ·cases hs with
  | num l h => cases x <;> cases e
  | text l h => cases x <;> cases e
  | @row j ts l hq =>
   cases sx with
   | str l => cases e
   | int i =>
    have e : (if 0 ≤ i ∧ i < 60 then some j else none) = some k' := e
    split at e
    ·rename_i c
     rw [Kd.tr]
     and_intros
     refine c_if (fun c2 => ?_) (fun c2 => ?_)
     ·have c2' : i < (ts.length : Nat) := of_decide_eq_true c2
      and_intros
      have ei : T.int i = .int (i.toNat : Nat) := by congr 1; omega
      rw [ei]
      exact drop0 .refl (q _ (if_pos ⟨c.1, c2'⟩))
     ·have c2' : ¬ i < (ts.length : Nat) := of_decide_eq_false c2
      and_intros
      exact no (if_neg fun z => c2' z.2)
    ·cases e
  | @rec_ fs ts l hq =>
   rw [Kd.tr]
   and_intros
   refine ⟨"rec", fs, x, rfl, sx, fun j k e2 => ?_, fun e2 => no (by show (byF fs x).map _ = _; rw [e2]; rfl)⟩
   exact drop0 .refl (q j (by show (byF fs x).map _ = _; rw [e2]; rfl))
  | @pick fs m k j t f hq =>
   cases sx with
   | int i => cases e
   | @str n l =>
    rw [Kd.tr]
    and_intros
    refine c_if (fun c => ?_) (fun c => ?_)
    ·cases d_str c
     and_intros
     exact drop0 .refl (q 1 (if_pos ⟨rfl, by rw [f]; rfl⟩))
    ·and_intros
     exact no (if_neg fun z => d_strN c z.1)
 ·cases hs with
  | num l h => cases x <;> rfl
  | text l h => cases x <;> rfl
  | @row j ts l hq =>
   cases sx with
   | str l => rfl
   | int i =>
    have e : (if 0 ≤ i ∧ i < 60 then some j else none) = none := e
    split at e
    ·cases e
    ·rename_i c
     exact if_neg fun z => c ⟨z.1, by omega⟩
  | @rec_ fs ts l hq =>
   have e : (byF fs x).map (·.2) = none := e
   show (byF fs x).map (·.1) = none
   cases b : byF fs x with
   | none => rfl
   | some p => rw [b] at e; cases e
  | @pick fs m k j t f hq =>
   cases sx with
   | int i => rfl
   | @str n l =>
    have e : (findF fs n).map (·.2) = none := e
    refine if_neg fun z => ?_
    cases b : findF fs n with
    | none => rw [b] at z; cases z.2
    | some p => rw [b] at e; cases e
end
theorem ret1 {Γ Γ' : Gp} {a : Addr} {Z : K3} {x : T} (fl : FlowAt Γ' a) (k : Kq [a] Γ Γ') (q : ∀ Γ2, FlowAt Γ2 a → Fr [a] Γ Γ2 → Z x Γ2) : dropK Z x Γ' := by
 obtain ⟨f0, f1, f2, e, r⟩ := fl
 exact dropL1 k e (q _ ⟨f0, f1, f2, up_same, r⟩ (Fr.set (by simp) _))
theorem ret2 {Γ Γ' : Gp} {a b : Addr} {Z : K3} {x : T} (fl : FlowAt Γ' a) (on : OneAt Γ' b) (k : Kq [a, b] Γ Γ') (q : ∀ Γ2, FlowAt Γ2 a → OneAt Γ2 b → Fr [a, b] Γ Γ2 → Z x Γ2) : dropK Z x Γ' := by
 have n := OneAt.ne fl on
 obtain ⟨f0, f1, f2, e, r⟩ := fl
 obtain ⟨r', e'⟩ := on
 exact dropL2 k e e' (q _ ⟨f0, f1, f2, by rw [up_ne n.symm]; exact up_same, r⟩ ⟨r', up_same⟩ ((Fr.set (by simp) _).trans (Fr.set (by simp) _)))
theorem menu {ns : List Int} {r : Int} (h0 : 0 ≤ r) (h1 : r < ns.length) : ∃ n, n ∈ ns ∧ atI (ns.map T.int) r = some (.int n) := by
 obtain ⟨x, hx, hm⟩ := at_some (xs := ns.map T.int) h0 (by simpa using h1)
 obtain ⟨n, hn, rfl⟩ := List.mem_map.mp hm
 exact ⟨n, hn, hx⟩
abbrev signsS : Str := " !\"#$&'()*+,-./0123456789:;<=>?@ABCDEFGHIJKLMNOPQRSTUVWXYZ[\\]^_`abcdefghijklmnopqrstuvwxyz{|}~"
theorem signs_len : signsS.cps.toList.length = 94 := by decide +kernel
theorem signs_ok : ∀ c ∈ signsS.cps.toList, okc c = true := by decide +kernel
theorem pow_le4 {k : Nat} (h : k ≤ 4) : (65536 : Int) ^ k ≤ 65536 ^ 4 := by
 have c : k = 0 ∨ k = 1 ∨ k = 2 ∨ k = 3 ∨ k = 4 := by omega
 rcases c with rfl | rfl | rfl | rfl | rfl <;> decide
theorem pow_lt {k : Nat} (h : k ≤ 4) : (65536 : Int) ^ k < 2 ^ 200 := by
 have := pow_le4 h
 have e : (65536 : Int) ^ 4 < 2 ^ 200 := by decide
 omega
theorem pow_mul {k : Nat} (h : 1 ≤ k) : ∃ m : Int, (65536 : Int) ^ k = 65536 * m ∧ 1 ≤ m := by
 obtain ⟨j, rfl⟩ : ∃ j, k = j + 1 := ⟨k - 1, by omega⟩
 refine ⟨65536 ^ j, by rw [Int.pow_succ, Int.mul_comm], ?_⟩
 have := pow_pos' j
 omega
theorem pow7_pos (d : Nat) : (1 : Int) ≤ 7 ^ d := by
 have : (0 : Int) < 7 ^ d := Int.pow_pos (by decide)
 omega
theorem pow7_mono {d e : Nat} (h : d ≤ e) : (7 : Int) ^ d ≤ 7 ^ e := by
 obtain ⟨t, rfl⟩ : ∃ t, e = d + t := ⟨e - d, by omega⟩
 rw [Int.pow_add]
 have h3 := Int.mul_le_mul_of_nonneg_left (pow7_pos t) (show (0 : Int) ≤ 7 ^ d by have := pow7_pos d; omega)
 rw [Int.mul_one] at h3
 exact h3
theorem sum_in {d : Int} : ∀ {ns : List Int}, (∀ x ∈ ns, 1 ≤ x ∧ x ≤ d) → (ns.length : Int) ≤ ns.sum ∧ ns.sum ≤ ns.length * d
 | [], _ => by simp
 | x :: r, h => by
  have h1 := h x List.mem_cons_self
  have h2 := sum_in fun y hy => h y (List.mem_cons_of_mem _ hy)
  rw [List.sum_cons, List.length_cons]
  have e : ((r.length + 1 : Nat) : Int) * d = r.length * d + d := by push_cast; rw [Int.add_mul, Int.one_mul]
  rw [e]
  push_cast
  omega
section
variable {P : Program} {w : World} {K : PySem.W.Frag} {mg : Str → Option Value} {base : Heap} {f : Addr} {fd : FuncData}
abbrev s_law_sign : Stmt := top 31
theorem sc_law_sign : FnScope ["flow", "some"] ["flow"] (defScope s_law_sign) := ⟨rfl, rfl, rfl, by decide +kernel, rfl, by decide +kernel, by decide +kernel⟩
def spSg : Sp3 := fun ts Γ Z _ => ∃ a : Addr, ts = [.ref a] ∧ FlowAt Γ a ∧ ∀ (z : Str) (Γ' : Gp), z.length = 1 → z.cps.toList.all okc = true → FlowAt Γ' a → Fr [a] Γ Γ' → Z (.str z) Γ'
theorem ok_sign (F : Fun K "_law_sign" "_law_sign" s_law_sign f fd) (c_law_draw : Cl3 P w K mg base "_law_draw" 1 ["flow", "many"] spDr) : FnOk P w K mg base CX0 2 f fd ["flow"] (liSp spSg) := by
 refine okd F sc_law_sign (fun ts Γ Z Y h => ?_) (fun cdv A outer s H E ts Γ Z Y hr h => ?_)
 ·obtain ⟨a, rfl, _⟩ := h
  rfl
 obtain ⟨a, rfl, fl, q⟩ := h
 refine ⟨_, (qss_cons (qs_set (i := 1) sc_law_sign.nd rfl (Or.inl rfl) qe_str)
  (qss_cons (qs_ret (qe_ixS (qv 1) (qe_call c_law_draw hr (by omega) rfl (qa_cons (qv 0) (qa_cons qe_int qa_nil))) (fun _ _ => rfl)))
  qss_nil)), ?_⟩
 simp only [start3]
 and_intros
 refine ⟨a, 94, rfl, fl, by decide, by decide, fun r Γ1 r0 r1 fl1 k1 => ?_⟩
 obtain ⟨c, hc, hm⟩ := at_some (xs := signsS.cps.toList) r0 (by rw [signs_len]; exact r1)
 refine ⟨signsS, _, c, rfl, rfl, by show signsS.cps.size ≤ sizeLine; rw [← Array.length_toList, signs_len]; decide, hc, ?_⟩
 refine drop0 .refl (q _ Γ1 rfl ?_ fl1 k1)
 show ([c].all okc) = true
 rw [List.all_cons, signs_ok c hm]; rfl
abbrev s_law_number : Stmt := top 32
theorem sc_law_number : FnScope ["flow", "width", "span", "way", "found"] ["flow", "width"] (defScope s_law_number) := ⟨rfl, rfl, rfl, by decide +kernel, rfl, by decide +kernel, by decide +kernel⟩
def spNm : Sp3 := fun ts Γ Z _ => ∃ (a : Addr) (k : Nat), ts = [.ref a, .int (k : Nat)] ∧ FlowAt Γ a ∧ 1 ≤ k ∧ k ≤ 4 ∧ ∀ (n : Int) (Γ' : Gp), -(65536 ^ k) ≤ 2 * n → 2 * n < 65536 ^ k → FlowAt Γ' a → Fr [a] Γ Γ' → Z (.int n) Γ'
theorem ok_number (F : Fun K "_law_number" "_law_number" s_law_number f fd) (c_law_draw : Cl3 P w K mg base "_law_draw" 1 ["flow", "many"] spDr) : FnOk P w K mg base CX0 2 f fd ["flow", "width"] (liSp spNm) := by
 refine okd F sc_law_number (fun ts Γ Z Y h => ?_) (fun cdv A outer s H E ts Γ Z Y hr h => ?_)
 ·obtain ⟨a, k, rfl, _⟩ := h
  rfl
 obtain ⟨a, k, rfl, fl, k1, k4, q⟩ := h
 refine ⟨_, (qss_cons (qs_set (i := 2) sc_law_number.nd rfl (Or.inl rfl) (qe_ix (qe_lst (qa_cons qe_int (qa_cons qe_int (qa_cons (qe_op oq_pow qe_int qe_int) (qa_cons (qe_op oq_pow qe_int qe_int) (qa_cons (qe_op oq_pow qe_int qe_int) qa_nil)))))) (qv 1) (fun _ _ => rfl)))
  (qss_cons (qs_set (i := 3) sc_law_number.nd rfl (Or.inl rfl) (qe_call c_law_draw hr (by omega) rfl (qa_cons (qv 0) (qa_cons qe_int qa_nil))))
  (qss_cons (qs_set (i := 4) sc_law_number.nd rfl (Or.inl rfl) (qe_call c_law_draw hr (by omega) rfl (qa_cons (qv 0) (qa_cons (qv 2) qa_nil))))
  (qss_cons (qs_cut (qs_if (qt_cmpR oq_eq (qv 3) qe_int (nomark _)) (qss_cons (qs_set (i := 4) sc_law_number.nd rfl (Or.inl rfl) (qe_ix (qe_lst (qa_cons qe_int (qa_cons qe_int (qa_cons (qe_op oq_sub (qe_op oq_fdiv (qv 2) qe_int) qe_int) (qa_cons (qe_op oq_fdiv (qv 2) qe_int) (qa_cons (qe_op oq_sub (qv 2) qe_int) (qa_cons qe_int qa_nil))))))) (qe_call c_law_draw hr (by omega) rfl (qa_cons (qv 0) (qa_cons qe_int qa_nil))) (fun _ _ => rfl)))
  qss_nil) (qss_cons (qs_cut (qs_if (qt_cmpR oq_eq (qv 3) qe_int (nomark _)) (qss_cons (qs_set (i := 4) sc_law_number.nd rfl (Or.inl rfl) (qe_op oq_mul (qe_op oq_mod (qv 4) qe_int) (qe_ix (qe_lst (qa_cons qe_int (qa_cons qe_int (qa_cons (qe_op oq_pow qe_int qe_int) (qa_cons (qe_op oq_pow qe_int qe_int) qa_nil))))) (qe_call c_law_draw hr (by omega) rfl (qa_cons (qv 0) (qa_cons (qv 1) qa_nil))) (fun _ _ => rfl))))
  qss_nil) (qss_cons (qs_cut (qs_if (qt_cmpR oq_eq (qv 3) qe_int (nomark _)) (qss_cons (qs_set (i := 4) sc_law_number.nd rfl (Or.inl rfl) (qe_op oq_mod (qv 4) qe_int))
  qss_nil) qss_nil))
  qss_nil)))
  qss_nil)))
  (qss_cons (qs_cut (qs_if (qt_cmpR oq_ge (qv 4) (qe_op oq_fdiv (qv 2) qe_int) (nomark _)) (qss_cons (qs_set (i := 4) sc_law_number.nd rfl (Or.inl rfl) (qe_op oq_sub (qv 4) (qv 2)))
  qss_nil) qss_nil))
  (qss_cons (qs_ret (qv 4))
  qss_nil)))))), ?_⟩
 simp only [start3]
 obtain ⟨m, hm, m1⟩ := pow_mul k1
 have hp := pow_lt k4
 and_intros
 intro p hp0
 have hspan : atI [T.int 1, T.int 65536, T.int (65536 ^ (2 : Int).toNat), T.int (65536 ^ (3 : Int).toNat), T.int (65536 ^ (4 : Int).toNat)] (k : Int) = some (.int (65536 ^ k)) := by
  have c : k = 1 ∨ k = 2 ∨ k = 3 ∨ k = 4 := by omega
  rcases c with rfl | rfl | rfl | rfl <;> exact atI_nat rfl
 and_intros
 refine t_ixR up_same hspan ?_
 have fl0 := fl.new (o := .lst [T.int 1, T.int 65536, T.int (65536 ^ (2 : Int).toNat), T.int (65536 ^ (3 : Int).toNat), T.int (65536 ^ (4 : Int).toNat)]) hp0
 have q0 : Kq [a] Γ (up Γ p (.lst [T.int 1, T.int 65536, T.int (65536 ^ (2 : Int).toNat), T.int (65536 ^ (3 : Int).toNat), T.int (65536 ^ (4 : Int).toNat)])) := .new hp0 _
 and_intros
 refine ⟨a, 6, rfl, fl0, by decide, by decide, fun way Γ1 w0 w6 fl1 q1 => ?_⟩
 and_intros
 refine ⟨a, _, rfl, fl1, by omega, by omega, fun fo Γ2 f0 f1 fl2 q2 => ?_⟩
 have kq2 : Kq [a] Γ Γ2 := (q0.trans q1.kq).trans q2.kq
 and_intros
 refine ⟨fun τ Γ' => ∃ fo : Int, τ = [some (.ref a), some (.int k), some (.int (65536 ^ k)), some (.int way), some (.int fo)] ∧ 0 ≤ fo ∧ fo < 65536 ^ k ∧ FlowAt Γ' a ∧ Kq [a] Γ Γ', ?_, ?_⟩
 ·and_intros
  refine c_if (fun c => ?_) (fun c => ?_)
  ·and_intros
   intro p2 hp2
   and_intros
   refine ⟨a, 6, rfl, fl2.new hp2, by decide, by decide, fun r Γ3 r0 r6 fl3 q3 => ?_⟩
   obtain ⟨n, hn, he⟩ := menu (ns := [0, 1, 65536 ^ k / 2 - 1, 65536 ^ k / 2, 65536 ^ k - 1, 65535]) r0 r6
   refine t_ixR (by rw [q3 p2 (by simpa using fl2.nn hp2)]; exact up_same) he ?_
   refine ⟨n, rfl, ?_, ?_, fl3, (kq2.trans (.new hp2 _)).trans q3.kq⟩
   ·simp only [List.mem_cons, List.not_mem_nil, or_false] at hn; omega
   ·simp only [List.mem_cons, List.not_mem_nil, or_false] at hn; omega
  ·and_intros
   refine nocut ?_
   and_intros
   refine c_if (fun c => ?_) (fun c => ?_)
   ·and_intros
    intro p2 hp2
    and_intros
    refine ⟨a, _, rfl, fl2.new hp2, by omega, by omega, fun r Γ3 r0 r6 fl3 q3 => ?_⟩
    obtain ⟨j, rfl⟩ : ∃ j : Nat, r = j := ⟨r.toNat, by omega⟩
    have hj : atI [T.int 1, T.int 65536, T.int (65536 ^ (2 : Int).toNat), T.int (65536 ^ (3 : Int).toNat)] (j : Int) = some (.int (65536 ^ j)) := by
     have c : j = 0 ∨ j = 1 ∨ j = 2 ∨ j = 3 := by omega
     rcases c with rfl | rfl | rfl | rfl <;> exact atI_nat rfl
    refine t_ixR (by rw [q3 p2 (by simpa using fl2.nn hp2)]; exact up_same) hj ?_
    have e1 : 0 ≤ fo % 65536 := Int.emod_nonneg _ (by decide)
    have e2 : fo % 65536 < 65536 := Int.emod_lt_of_pos _ (by decide)
    have pj := pow_pos' j
    have up : fo % 65536 * 65536 ^ j < 65536 ^ k := by
     have h1 : (65536 : Int) ^ (j + 1) ≤ 65536 ^ k := by
      obtain ⟨t, rfl⟩ : ∃ t, k = j + 1 + t := ⟨k - (j + 1), by omega⟩
      rw [Int.pow_add 65536 (j + 1) t]
      have := pow_pos' t
      have h2 := pow_pos' (j + 1)
      have h3 := Int.mul_le_mul_of_nonneg_left (show (1 : Int) ≤ 65536 ^ t by omega) (Int.le_of_lt h2)
      rw [Int.mul_one] at h3
      exact h3
     have h2 : fo % 65536 * 65536 ^ j ≤ 65535 * 65536 ^ j := Int.mul_le_mul_of_nonneg_right (by omega) (by omega)
     rw [Int.pow_succ] at h1
     omega
    refine t_I (.inl ⟨by omega, by omega⟩) ?_
    exact ⟨_, rfl, Int.mul_nonneg e1 (Int.le_of_lt pj), up, fl3, (kq2.trans (.new hp2 _)).trans q3.kq⟩
   ·and_intros
    refine nocut ?_
    and_intros
    refine c_if (fun c => ?_) (fun c => ?_)
    ·and_intros
     exact ⟨_, rfl, Int.emod_nonneg _ (by decide), by have := Int.emod_lt_of_pos fo (show (0 : Int) < 256 by decide); omega, fl2, kq2⟩
    ·and_intros
     exact ⟨_, rfl, f0, f1, fl2, kq2⟩
 rintro τ Γ3 ⟨fo, rfl, f0, f1, fl3, q3⟩
 and_intros
 refine ⟨fun τ Γ' => ∃ fo : Int, τ = [some (.ref a), some (.int k), some (.int (65536 ^ k)), some (.int way), some (.int fo)] ∧ -(65536 ^ k) ≤ 2 * fo ∧ 2 * fo < 65536 ^ k ∧ FlowAt Γ' a ∧ Kq [a] Γ Γ', ?_, ?_⟩
 ·and_intros
  refine c_if (fun c => ?_) (fun c => ?_)
  ·have c' : 65536 ^ k / 2 ≤ fo := of_decide_eq_true c
   and_intros
   exact ⟨_, rfl, by omega, by omega, fl3, q3⟩
  ·have c' : ¬ 65536 ^ k / 2 ≤ fo := of_decide_eq_false c
   and_intros
   exact ⟨_, rfl, by omega, by omega, fl3, q3⟩
 rintro τ Γ4 ⟨fo, rfl, f0, f1, fl4, q4⟩
 and_intros
 exact ret1 fl4 q4 fun Γ5 fl5 k5 => q fo Γ5 f0 f1 fl5 k5
abbrev s_law_many : Stmt := top 33
theorem sc_law_many : FnScope ["flow", "way"] ["flow"] (defScope s_law_many) := ⟨rfl, rfl, rfl, by decide +kernel, rfl, by decide +kernel, by decide +kernel⟩
def spMn : Sp3 := fun ts Γ Z _ => ∃ a : Addr, ts = [.ref a] ∧ FlowAt Γ a ∧ ∀ (m : Int) (Γ' : Gp), 0 ≤ m → m ≤ 60 → FlowAt Γ' a → Fr [a] Γ Γ' → Z (.int m) Γ'
theorem ok_many (F : Fun K "_law_many" "_law_many" s_law_many f fd) (c_law_draw : Cl3 P w K mg base "_law_draw" 1 ["flow", "many"] spDr) : FnOk P w K mg base CX0 2 f fd ["flow"] (liSp spMn) := by
 refine okd F sc_law_many (fun ts Γ Z Y h => ?_) (fun cdv A outer s H E ts Γ Z Y hr h => ?_)
 ·obtain ⟨a, rfl, _⟩ := h
  rfl
 obtain ⟨a, rfl, fl, q⟩ := h
 refine ⟨_, (qss_cons (qs_set (i := 1) sc_law_many.nd rfl (Or.inl rfl) (qe_call c_law_draw hr (by omega) rfl (qa_cons (qv 0) (qa_cons qe_int qa_nil))))
  (qss_cons (qs_if (qt_cmpR oq_eq (qv 1) qe_int (nomark _)) (qss_cons (qs_ret qe_int)
  qss_nil) qss_nil)
  (qss_cons (qs_ret (qe_call c_law_draw hr (by omega) rfl (qa_cons (qv 0) (qa_cons (qe_ix (qe_lst (qa_cons qe_int (qa_cons qe_int (qa_cons qe_int (qa_cons qe_int (qa_cons qe_int (qa_cons qe_int (qa_cons qe_int (qa_cons qe_int qa_nil))))))))) (qe_op oq_sub (qv 1) qe_int) (fun _ _ => rfl)) qa_nil))))
  qss_nil))), ?_⟩
 simp only [start3]
 and_intros
 refine ⟨a, 9, rfl, fl, by decide, by decide, fun way Γ1 w0 w9 fl1 k1 => ?_⟩
 and_intros
 refine c_if (fun c => ?_) (fun c => ?_)
 ·and_intros
  exact drop0 .refl (q 60 Γ1 (by decide) (by decide) fl1 k1)
 ·have c' := d_intN c
  and_intros
  intro p hp
  obtain ⟨m, hm, he⟩ := menu (ns := [61, 4, 4, 2, 3, 3, 4, 5]) (r := way - 1) (by omega) (by show way - 1 < 8; omega)
  and_intros
  refine t_ixR up_same he ?_
  have hm6 : 0 < m ∧ m ≤ 61 := by
   simp only [List.mem_cons, List.not_mem_nil, or_false] at hm
   omega
  and_intros
  refine ⟨a, m, rfl, fl1.new hp, hm6.1, by omega, fun r Γ2 r0 r1 fl2 k2 => ?_⟩
  exact ret1 fl2 ((k1.kq.trans (.new hp _)).trans k2.kq) fun Γ3 fl3 k3 => q r Γ3 r0 (by omega) fl3 k3
abbrev s_law_leaves : Stmt := top 34
theorem sc_law_leaves : FnScope ["kind"] ["kind"] (defScope s_law_leaves) := ⟨rfl, rfl, rfl, by decide +kernel, rfl, by decide +kernel, by decide +kernel⟩
mutual
def leavesK : Kd → Int
 | .num _ => 1
 | .text => 1
 | .row k => 1 + leavesK k
 | .rec_ fs => (leavesF fs).sum
 | .pick fs => (leavesF fs).sum
def leavesF : List (Str × Kd) → List Int
 | [] => []
 | (_, k) :: r => leavesK k :: leavesF r
end
theorem leavesF_map : ∀ fs : List (Str × Kd), leavesF fs = fs.map fun p => leavesK p.2
 | [] => rfl
 | (_, k) :: r => by rw [leavesF, leavesF_map r]; rfl
mutual
theorem leaves_in : ∀ k : Kd, k.good → 1 ≤ leavesK k ∧ leavesK k ≤ 7 ^ k.depth
 | .num w, _ => by rw [leavesK, Kd.depth]; exact ⟨by decide, by decide⟩
 | .text, _ => by rw [leavesK, Kd.depth]; exact ⟨by decide, by decide⟩
 | .row k, g => by
  unfold Kd.good at g
  have h := leaves_in k g
  rw [leavesK, Kd.depth, Int.pow_succ]
  have := pow7_pos k.depth
  omega
 | .rec_ fs, g => by
  unfold Kd.good at g
  rw [leavesK, Kd.depth, Int.pow_succ]
  have h := sum_in (leavesF_in fs g.1)
  have hl : (leavesF fs).length = fs.length := by rw [leavesF_map, List.length_map]
  rw [hl] at h
  have h6 : (fs.length : Int) * 7 ^ depthF fs ≤ 6 * 7 ^ depthF fs := Int.mul_le_mul_of_nonneg_right (by omega) (by have := pow7_pos (depthF fs); omega)
  have := pow7_pos (depthF fs)
  omega
 | .pick fs, g => by
  unfold Kd.good at g
  rw [leavesK, Kd.depth, Int.pow_succ]
  have h := sum_in (leavesF_in fs g.1)
  have hl : (leavesF fs).length = fs.length := by rw [leavesF_map, List.length_map]
  rw [hl] at h
  have h6 : (fs.length : Int) * 7 ^ depthF fs ≤ 6 * 7 ^ depthF fs := Int.mul_le_mul_of_nonneg_right (by omega) (by have := pow7_pos (depthF fs); omega)
  have := pow7_pos (depthF fs)
  omega
theorem leavesF_in : ∀ fs : List (Str × Kd), goodF fs → ∀ x ∈ leavesF fs, 1 ≤ x ∧ x ≤ 7 ^ depthF fs
 | [], _, x, h => by rw [leavesF] at h; cases h
 | (n, k) :: r, g, x, h => by
  unfold goodF at g
  rw [leavesF] at h
  rw [depthF]
  rcases List.mem_cons.mp h with rfl | h
  ·have := leaves_in k g.2.1
   exact ⟨this.1, Int.le_trans this.2 (pow7_mono (Nat.le_max_left _ _))⟩
  ·have := leavesF_in r g.2.2 x h
   exact ⟨this.1, Int.le_trans this.2 (pow7_mono (Nat.le_max_right _ _))⟩
end
def spLv (n : Nat) : Sp3 := fun ts Γ Z _ => ∃ k : Kd, ts = [k.tr] ∧ k.good ∧ k.depth < n ∧ Z (.int (leavesK k)) Γ
theorem ok_leaves {n m : Nat} (F : Fun K "_law_leaves" "_law_leaves" s_law_leaves f fd) (c_law_leaves : Cl3 P w K mg base "_law_leaves" m ["kind"] (spLv n)) (z_sum : mg "sum" = none) : FnOk P w K mg base CX0 (m + 1) f fd ["kind"] (liSp (spLv (n + 1))) := by
 refine okd F sc_law_leaves (fun ts Γ Z Y h => ?_) (fun cdv A outer s H E ts Γ Z Y hr h => ?_)
 ·obtain ⟨k, rfl, _⟩ := h
  rfl
 obtain ⟨k, rfl, kg, kd, q⟩ := h
 refine ⟨_, (qss_cons (qs_if (PW.pt (qw_or (qt_cmpR oq_eq (qe_ix (qv 0) qe_int (fun _ _ => rfl)) qe_str (nomark _)) (qw_or1 (qt_cmpR oq_eq (qe_ix (qv 0) qe_int (fun _ _ => rfl)) qe_str (nomark _))))) (qss_cons (qs_ret qe_int)
  qss_nil) qss_nil)
  (qss_cons (qs_if (qt_cmpR oq_eq (qe_ix (qv 0) qe_int (fun _ _ => rfl)) qe_str (nomark _)) (qss_cons (qs_ret (qe_op oq_add qe_int (qe_call c_law_leaves hr (by omega) rfl (qa_cons (qe_ix (qv 0) qe_int (fun _ _ => rfl)) qa_nil))))
  qss_nil) qss_nil)
  (qss_cons (qs_ret (qe_callB (cq_sum rfl) rfl z_sum PyProof.Rows.boot_sum (qa_cons (qe_comp (own := ["field"]) (cap := []) (compOk0 rfl (by decide +kernel) (by decide +kernel)) rfl (qi_tup (qe_ix (qv 0) qe_int (fun _ _ => rfl))) (fun _ _ _ _ => (qg_name (i := 0) (show List.Nodup (["field"] : List Str) from by decide +kernel) rfl (Or.inl rfl) (Or.inr rfl))) (fun _ _ _ _ => qts_nil) (fun _ _ _ _ => (qe_call c_law_leaves hr (by omega) rfl (qa_cons (qe_ix (qv 0) qe_int (fun _ _ => rfl)) qa_nil)))) qa_nil)))
  qss_nil))), ?_⟩
 simp only [start3]
 have fld : ∀ fs : List (Str × Kd), goodF fs → depthF fs < n → fs.length ≤ 6 → Z (.int (leavesF fs).sum) Γ → ∀ (C : List T → Gp → Prop), (∀ Γ', C ((leavesF fs).map T.int) Γ') → True := fun _ _ _ _ _ _ _ => trivial
 cases k with
 | num wd => rw [Kd.tr]; and_intros; exact drop0 .refl q
 | text => rw [Kd.tr]; and_intros; exact drop0 .refl q
 | row k =>
  unfold Kd.good at kg
  rw [Kd.depth] at kd
  rw [Kd.tr]
  and_intros
  refine ⟨k, rfl, kg, by omega, ?_⟩
  and_intros
  exact drop0 .refl q
 | rec_ fs =>
  unfold Kd.good at kg
  rw [Kd.depth] at kd
  rw [Kd.tr]
  and_intros
  refine ⟨by rw [trF_len]; exact Nat.le_of_lt (small1000 (by omega)), fun rest τ ys Γ' => ∃ (gs hs : List (Str × Kd)) (o : Option T), τ = [o] ∧ rest = trF gs ∧ fs = hs ++ gs ∧ ys = (leavesF hs).map T.int ∧ Γ' = Γ, ?_, ?_, ?_⟩
  ·exact ⟨fs, [], none, rfl, rfl, rfl, rfl, rfl⟩
  ·rintro τ ys Γ' ⟨gs, hs, o, rfl, e, e2, rfl, rfl⟩
   cases gs with
   | cons p r => cases e
   | nil =>
    rw [List.append_nil] at e2
    subst e2
    refine ⟨trivial, fun D hD => ?_⟩
    refine ⟨D, leavesF fs, rfl, it3_l up_same, ?_⟩
    and_intros
    exact drop0 (Le.new hD) q
  ·rintro x r τ ys Γ' ⟨gs, hs, o, rfl, e, e2, rfl, rfl⟩
   cases gs with
   | nil => cases e
   | cons p gs =>
    obtain ⟨nm, k⟩ := p
    cases e
    have km : (nm, k) ∈ fs := by rw [e2]; simp
    have dk : k.depth ≤ depthF fs := depthF_le km
    and_intros
    refine ⟨k, rfl, goodF_mem kg.1 km, by omega, ?_⟩
    refine ⟨gs, hs ++ [(nm, k)], _, rfl, rfl, by rw [e2]; simp, ?_, rfl⟩
    rw [leavesF_map, leavesF_map, List.map_append, List.map_append]; rfl
 | pick fs =>
  unfold Kd.good at kg
  rw [Kd.depth] at kd
  rw [Kd.tr]
  and_intros
  refine ⟨by rw [trF_len]; exact Nat.le_of_lt (small1000 (by omega)), fun rest τ ys Γ' => ∃ (gs hs : List (Str × Kd)) (o : Option T), τ = [o] ∧ rest = trF gs ∧ fs = hs ++ gs ∧ ys = (leavesF hs).map T.int ∧ Γ' = Γ, ?_, ?_, ?_⟩
  ·exact ⟨fs, [], none, rfl, rfl, rfl, rfl, rfl⟩
  ·rintro τ ys Γ' ⟨gs, hs, o, rfl, e, e2, rfl, rfl⟩
   cases gs with
   | cons p r => cases e
   | nil =>
    rw [List.append_nil] at e2
    subst e2
    refine ⟨trivial, fun D hD => ?_⟩
    refine ⟨D, leavesF fs, rfl, it3_l up_same, ?_⟩
    and_intros
    exact drop0 (Le.new hD) q
  ·rintro x r τ ys Γ' ⟨gs, hs, o, rfl, e, e2, rfl, rfl⟩
   cases gs with
   | nil => cases e
   | cons p gs =>
    obtain ⟨nm, k⟩ := p
    cases e
    have km : (nm, k) ∈ fs := by rw [e2]; simp
    have dk : k.depth ≤ depthF fs := depthF_le km
    and_intros
    refine ⟨k, rfl, goodF_mem kg.1 km, by omega, ?_⟩
    refine ⟨gs, hs ++ [(nm, k)], _, rfl, rfl, by rw [e2]; simp, ?_, rfl⟩
    rw [leavesF_map, leavesF_map, List.map_append, List.map_append]; rfl
end
theorem rngT_cons {lo : Int} {n : Nat} {x : T} {r : List T} (h : x :: r = rngT lo n) : ∃ m, n = m + 1 ∧ x = .int lo ∧ r = rngT (lo + 1) m := by
 cases n with
 | zero => cases h
 | succ m => cases h; exact ⟨m, rfl, rfl, rfl⟩
theorem rngT_nil {lo : Int} {n : Nat} (h : [] = rngT lo n) : n = 0 := by
 cases n with
 | zero => rfl
 | succ m => cases h
theorem catS_codes (ss : List Str) : (catS ss).cps.toList = (ss.map (·.cps.toList)).flatten := rfl
theorem catS_ok {ss : List Str} (h : ∀ z ∈ ss, z.cps.toList.all okc = true) : (catS ss).cps.toList.all okc = true := by
 rw [catS_codes, List.all_eq_true]
 intro c hc
 obtain ⟨l, hl, hcl⟩ := List.mem_flatten.mp hc
 obtain ⟨z, hz, rfl⟩ := List.mem_map.mp hl
 exact List.all_eq_true.mp (h z hz) c hcl
theorem catS_one {ss : List Str} (h : ∀ z ∈ ss, z.length = 1) : (catS ss).length = ss.length := by
 rw [← len_codes, catS_codes]
 induction ss with
 | nil => rfl
 | cons x r ih =>
  rw [List.map_cons, List.flatten_cons, List.length_append, ih fun z hz => h z (List.mem_cons_of_mem _ hz), len_codes, h x List.mem_cons_self, List.length_cons]
  omega
section
variable {P : Program} {w : World} {K : PySem.W.Frag} {mg : Str → Option Value} {base : Heap} {f : Addr} {fd : FuncData}
abbrev s_law_worth : Stmt := top 35
theorem sc_law_worth : FnScope ["flow", "kind", "room", "many", "each", "name", "below"] ["flow", "kind", "room"] (defScope s_law_worth) := ⟨rfl, rfl, rfl, by decide +kernel, rfl, by decide +kernel, by decide +kernel⟩
def spWo (n : Nat) : Sp3 := fun ts Γ Z _ => ∃ (a b : Addr) (k : Kd), ts = [.ref a, k.tr, .ref b] ∧ FlowAt Γ a ∧ OneAt Γ b ∧ k.good ∧ k.depth < n ∧ k.depth ≤ 12 ∧ ∀ (t : T) (Γ' : Gp), Has k t → FlowAt Γ' a → OneAt Γ' b → Fr [a, b] Γ Γ' → Z t Γ'
theorem ok_worth {n m : Nat} (F : Fun K "_law_worth" "_law_worth" s_law_worth f fd) (c_law_worth : Cl3 P w K mg base "_law_worth" m ["flow", "kind", "room"] (spWo n)) (c_law_draw : Cl3 P w K mg base "_law_draw" 1 ["flow", "many"] spDr) (c_law_number : Cl3 P w K mg base "_law_number" 2 ["flow", "width"] spNm)
  (c_law_many : Cl3 P w K mg base "_law_many" 2 ["flow"] spMn) (c_law_sign : Cl3 P w K mg base "_law_sign" 2 ["flow"] spSg) (c_law_leaves : Cl3 P w K mg base "_law_leaves" m ["kind"] (spLv 13)) (m2 : 2 ≤ m)
  (z_min : mg "min" = none) (z_max : mg "max" = none) (z_range : mg "range" = none) (z_tuple : mg "tuple" = none) (z_len : mg "len" = none) : FnOk P w K mg base CX0 (m + 1) f fd ["flow", "kind", "room"] (liSp (spWo (n + 1))) := by
 refine okd F sc_law_worth (fun ts Γ Z Y h => ?_) (fun cdv A outer s H E ts Γ Z Y hr h => ?_)
 ·obtain ⟨a, b, k, rfl, _⟩ := h
  rfl
 obtain ⟨a, b, k, rfl, fl, on, kg, kd, kd12, q⟩ := h
 refine ⟨_, (qss_cons (qs_if (qt_cmpR oq_eq (qe_ix (qv 1) qe_int (fun _ _ => rfl)) qe_str (nomark _)) (qss_cons (qs_ret (qe_call c_law_number hr (by omega) rfl (qa_cons (qv 0) (qa_cons (qe_ix (qv 1) qe_int (fun _ _ => rfl)) qa_nil))))
  qss_nil) qss_nil)
  (qss_cons (qs_if (qt_cmpR oq_eq (qe_ix (qv 1) qe_int (fun _ _ => rfl)) qe_str (nomark _)) (qss_cons (qs_set (i := 3) sc_law_worth.nd rfl (Or.inl rfl) (qe_callB (cq_min2 rfl) rfl z_min PyProof.Rows.boot_min (qa_cons (qe_call c_law_many hr (by omega) rfl (qa_cons (qv 0) qa_nil)) (qa_cons (qe_callB (cq_max2 rfl) rfl z_max PyProof.Rows.boot_max (qa_cons qe_int (qa_cons (qe_ix (qv 2) qe_int (fun _ _ => rfl)) qa_nil))) qa_nil))))
  (qss_cons (qs_asg (qe_op oq_sub (qe_ix (qv 2) qe_int (fun _ _ => rfl)) (qv 3)) (qg_sub (qv 2) qe_int))
  (qss_cons (qs_ret (qe_bm PySem.F.plainAttrs_str PySem.F.slot_str_join PySem.F.type_str_join mq_join qe_str (qa_cons (qe_comp (own := ["k"]) (cap := [(0, "flow")]) (compOkC rfl (by decide +kernel) (by decide +kernel) rfl (⟨rfl, trivial⟩) rfl (⟨⟨rfl, rfl, rfl⟩, trivial⟩)) rfl (qi_range1 rfl z_range (qa_cons (qv 3) qa_nil)) (fun _ _ _ _ => (qg_name (i := 0) (show List.Nodup (["k", "flow"] : List Str) from by decide +kernel) rfl (Or.inl rfl) (Or.inr rfl))) (fun _ _ _ _ => qts_nil) (fun _ _ _ _ => (qe_call c_law_sign hr (by omega) rfl (qa_cons (qv 1) qa_nil)))) qa_nil)))
  qss_nil))) qss_nil)
  (qss_cons (qs_if (qt_cmpR oq_eq (qe_ix (qv 1) qe_int (fun _ _ => rfl)) qe_str (nomark _)) (qss_cons (qs_set (i := 4) sc_law_worth.nd rfl (Or.inl rfl) (qe_call c_law_leaves hr (by omega) rfl (qa_cons (qe_ix (qv 1) qe_int (fun _ _ => rfl)) qa_nil)))
  (qss_cons (qs_set (i := 3) sc_law_worth.nd rfl (Or.inl rfl) (qe_callB (cq_min2 rfl) rfl z_min PyProof.Rows.boot_min (qa_cons (qe_call c_law_many hr (by omega) rfl (qa_cons (qv 0) qa_nil)) (qa_cons (qe_op oq_fdiv (qe_callB (cq_max2 rfl) rfl z_max PyProof.Rows.boot_max (qa_cons qe_int (qa_cons (qe_ix (qv 2) qe_int (fun _ _ => rfl)) qa_nil))) (qv 4)) qa_nil))))
  (qss_cons (qs_asg (qe_op oq_sub (qe_ix (qv 2) qe_int (fun _ _ => rfl)) (qe_op oq_mul (qv 3) (qv 4))) (qg_sub (qv 2) qe_int))
  (qss_cons (qs_ret (qe_callTy cq_tuple rfl z_tuple bt_tuple (qa_cons (qe_comp (own := ["k"]) (cap := [(0, "flow"), (2, "room"), (1, "kind")]) (compOkC rfl (by decide +kernel) (by decide +kernel) rfl (⟨rfl, ⟨rfl, ⟨rfl, trivial⟩⟩⟩) rfl (⟨⟨rfl, rfl, rfl⟩, ⟨⟨rfl, rfl, rfl⟩, ⟨⟨rfl, rfl, rfl⟩, trivial⟩⟩⟩)) rfl (qi_range1 rfl z_range (qa_cons (qv 3) qa_nil)) (fun _ _ _ _ => (qg_name (i := 0) (show List.Nodup (["k", "flow", "room", "kind"] : List Str) from by decide +kernel) rfl (Or.inl rfl) (Or.inr rfl))) (fun _ _ _ _ => qts_nil) (fun _ _ _ _ => (qe_call c_law_worth hr (by omega) rfl (qa_cons (qv 1) (qa_cons (qe_ix (qv 3) qe_int (fun _ _ => rfl)) (qa_cons (qv 2) qa_nil)))))) qa_nil)))
  qss_nil)))) qss_nil)
  (qss_cons (qs_if (qt_cmpR oq_eq (qe_ix (qv 1) qe_int (fun _ _ => rfl)) qe_str (nomark _)) (qss_cons (qs_asg (qe_ix (qe_ix (qv 1) qe_int (fun _ _ => rfl)) (qe_call c_law_draw hr (by omega) rfl (qa_cons (qv 0) (qa_cons (qe_callB cq_len rfl z_len PySem.boot_len (qa_cons (qe_ix (qv 1) qe_int (fun _ _ => rfl)) qa_nil)) qa_nil))) (fun _ _ => rfl)) (qg_tup (n := 2) rfl (qgs_cons (qg_name (i := 5) sc_law_worth.nd rfl (Or.inl rfl)) (qgs_cons (qg_name (i := 6) sc_law_worth.nd rfl (Or.inl rfl)) qgs_nil))))
  (qss_cons (qs_ret (qe_tup (qa_cons (qv 5) (qa_cons (qe_call c_law_worth hr (by omega) rfl (qa_cons (qv 0) (qa_cons (qv 6) (qa_cons (qv 2) qa_nil)))) qa_nil))))
  qss_nil)) qss_nil)
  (qss_cons (qs_ret (qe_callTy cq_tuple rfl z_tuple bt_tuple (qa_cons (qe_comp (own := ["field"]) (cap := [(0, "flow"), (2, "room")]) (compOkC rfl (by decide +kernel) (by decide +kernel) rfl (⟨rfl, ⟨rfl, trivial⟩⟩) rfl (⟨⟨rfl, rfl, rfl⟩, ⟨⟨rfl, rfl, rfl⟩, trivial⟩⟩)) rfl (qi_tup (qe_ix (qv 1) qe_int (fun _ _ => rfl))) (fun _ _ _ _ => (qg_name (i := 0) (show List.Nodup (["field", "flow", "room"] : List Str) from by decide +kernel) rfl (Or.inl rfl) (Or.inr rfl))) (fun _ _ _ _ => qts_nil) (fun _ _ _ _ => (qe_call c_law_worth hr (by omega) rfl (qa_cons (qv 1) (qa_cons (qe_ix (qv 0) qe_int (fun _ _ => rfl)) (qa_cons (qv 2) qa_nil)))))) qa_nil)))
  qss_nil))))), ?_⟩
 simp only [start3]
 have hba : b ≠ a := OneAt.ne fl on
 have hbn : b ∉ [a] := by simpa using hba
 have up1 : ∀ {Γ1 Γ2 : Gp}, Kq [a] Γ1 Γ2 → Kq [a, b] Γ1 Γ2 := fun k => k.mono (by simp)
 have fin : ∀ {t : T} {Γ' : Gp}, Has k t → FlowAt Γ' a → OneAt Γ' b → Kq [a, b] Γ Γ' → dropK Z t Γ' := fun h1 h2 h3 h4 => ret2 h2 h3 h4 fun Γ2 a1 a2 a3 => q _ Γ2 h1 a1 a2 a3
 cases k with
 | num wd =>
  unfold Kd.good at kg
  obtain ⟨nn, rfl⟩ : ∃ nn : Nat, wd = nn := ⟨wd.toNat, by omega⟩
  rw [Kd.tr]
  and_intros
  refine ⟨a, nn, rfl, fl, by omega, by omega, fun i Γ1 i0 i1 fl1 k1 => ?_⟩
  exact fin (.num i0 i1) fl1 (on.fr k1 hbn) (up1 k1.kq)
 | text =>
  rw [Kd.tr]
  and_intros
  refine ⟨a, rfl, fl, fun mm Γ1 m0 m60 fl1 k1 => ?_⟩
  obtain ⟨r, hr1⟩ := on.fr k1 hbn
  and_intros
  obtain ⟨M, hM, M0, M60⟩ : ∃ M : Int, (if (if r > 0 then r else 0) < mm then (if r > 0 then r else 0) else mm) = M ∧ 0 ≤ M ∧ M ≤ 60 := ⟨_, rfl, by split <;> split <;> omega, by split <;> omega⟩
  rw [hM]
  refine ⟨M, rfl, by omega, by omega, by rw [rngT_len]; exact Nat.le_of_lt (small1000 (by omega)), fun rest τ ys Γ' => ∃ (lo : Int) (c : Nat) (o : Option T) (ss : List Str), τ = [o, some (.ref a)] ∧ rest = rngT lo c ∧ ys = ss.map T.str ∧ ss.length + c = M.toNat ∧ (∀ z ∈ ss, z.length = 1 ∧ z.cps.toList.all okc = true) ∧ FlowAt Γ' a ∧ OneAt Γ' b ∧ Kq [a, b] Γ Γ', ?_, ?_, ?_⟩
  ·exact ⟨0, _, none, [], rfl, rfl, rfl, by simp, (fun z hz => nomatch hz), fl1.up hba.symm, ⟨_, up_same⟩, (up1 k1.kq).trans (.set (by simp) _)⟩
  ·rintro τ ys Γ' ⟨lo, c, o, ss, rfl, e, rfl, sl, sb, fl', on', k'⟩
   have hc := rngT_nil e
   refine ⟨trivial, fun D hD => ?_⟩
   refine ⟨D, ss, rfl, rfl, it3_l up_same, by omega, fun y hy => by rw [(sb y hy).1]; decide, ?_⟩
   refine fin (.text ?_ (catS_ok fun z hz => (sb z hz).2)) (fl'.new hD) (on'.kq (l := []) (.new hD _) (by simp)) (k'.trans (.new hD _))
   rw [catS_one fun z hz => (sb z hz).1]
   omega
  ·rintro x rr τ ys Γ' ⟨lo, c, o, ss, rfl, e, rfl, sl, sb, fl', on', k'⟩
   obtain ⟨c', rfl, rfl, rfl⟩ := rngT_cons e
   and_intros
   refine ⟨a, rfl, fl', fun z Γ3 zl zc fl3 k3 => ?_⟩
   refine ⟨lo + 1, c', _, ss ++ [z], rfl, rfl, by rw [List.map_append]; rfl, by rw [List.length_append]; simp; omega, fun y hy => ?_, fl3, on'.fr k3 hbn, k'.trans (up1 k3.kq)⟩
   rcases List.mem_append.mp hy with h | h
   ·exact sb y h
   ·rw [List.mem_singleton.mp h]; exact ⟨zl, zc⟩
 | row k =>
  unfold Kd.good at kg
  rw [Kd.depth] at kd kd12
  rw [Kd.tr]
  and_intros
  refine ⟨k, rfl, kg, by omega, ?_⟩
  have lv := leaves_in k kg
  have ea3 : leavesK k < 2 ^ 200 := by
   have h1 := pow7_mono (show k.depth ≤ 12 by omega)
   have h2 : (7 : Int) ^ 12 < 2 ^ 200 := by decide
   omega
  generalize leavesK k = ea at lv ea3 ⊢
  and_intros
  refine ⟨a, rfl, fl, fun mm Γ1 m0 m60 fl1 k1 => ?_⟩
  obtain ⟨r, hr1⟩ := on.fr k1 hbn
  and_intros
  refine t_I ⟨by omega, ea3⟩ ?_
  and_intros
  obtain ⟨R, hR, R0⟩ : ∃ R : Int, (if r > 0 then r else 0) / ea = R ∧ 0 ≤ R := ⟨_, rfl, Int.ediv_nonneg (by split <;> omega) (by omega)⟩
  obtain ⟨M, hM, M0, M60⟩ : ∃ M : Int, (if (if r > 0 then r else 0) / ea < mm then (if r > 0 then r else 0) / ea else mm) = M ∧ 0 ≤ M ∧ M ≤ 60 := ⟨_, rfl, by rw [hR]; split <;> omega, by rw [hR]; split <;> omega⟩
  rw [hM]
  refine t_I (.inl ⟨by omega, by omega⟩) ?_
  and_intros
  refine ⟨M, rfl, by omega, by omega, by rw [rngT_len]; exact Nat.le_of_lt (small1000 (by omega)), fun rest τ ys Γ' => ∃ (lo : Int) (c : Nat) (o : Option T), τ = [o, some (.ref a), some (.ref b), some (.tup [.str "row", k.tr])] ∧ rest = rngT lo c ∧ ys.length + c = M.toNat ∧ (∀ t ∈ ys, Has k t) ∧ FlowAt Γ' a ∧ OneAt Γ' b ∧ Kq [a, b] Γ Γ', ?_, ?_, ?_⟩
  ·exact ⟨0, _, none, rfl, rfl, by simp, (fun z hz => nomatch hz), fl1.up hba.symm, ⟨_, up_same⟩, (up1 k1.kq).trans (.set (by simp) _)⟩
  ·rintro τ ys Γ' ⟨lo, c, o, rfl, e, sl, sb, fl', on', k'⟩
   have hc := rngT_nil e
   refine ⟨trivial, fun D hD => ?_⟩
   refine t_lenR up_same ?_
   exact fin (.row (by omega) sb) (fl'.new hD) (on'.kq (l := []) (.new hD _) (by simp)) (k'.trans (.new hD _))
  ·rintro x rr τ ys Γ' ⟨lo, c, o, rfl, e, sl, sb, fl', on', k'⟩
   obtain ⟨c', rfl, rfl, rfl⟩ := rngT_cons e
   and_intros
   refine ⟨a, b, k, rfl, fl', on', kg, by omega, by omega, fun t Γ3 ht fl3 on3 k3 => ?_⟩
   refine ⟨lo + 1, c', _, rfl, rfl, by rw [List.length_append]; simp; omega, fun y hy => ?_, fl3, on3, k'.trans k3.kq⟩
   rcases List.mem_append.mp hy with h | h
   ·exact sb y h
   ·rw [List.mem_singleton.mp h]; exact ht
 | pick fs =>
  unfold Kd.good at kg
  rw [Kd.depth] at kd kd12
  rw [Kd.tr]
  and_intros
  refine ⟨a, _, rfl, fl, by rw [trF_len]; omega, by rw [trF_len]; have := kg.2.2.1; omega, fun r Γ1 r0 r1 fl1 k1 => ?_⟩
  obtain ⟨j, rfl⟩ : ∃ j : Nat, r = j := ⟨r.toNat, by omega⟩
  have hj : j < fs.length := by rw [trF_len] at r1; omega
  obtain ⟨⟨nm, k⟩, hp⟩ : ∃ p, fs[j]? = some p := ⟨fs[j], by simp [hj]⟩
  refine t_ixN (trF_get hp) ?_
  have km := List.mem_of_getElem? hp
  have dk : k.depth ≤ depthF fs := depthF_le km
  and_intros
  refine ⟨a, b, k, rfl, fl1, on.fr k1 hbn, goodF_mem kg.1 km, by omega, by omega, fun t Γ3 ht fl3 on3 k3 => ?_⟩
  and_intros
  refine fin (.pick (findF_at kg.2.2.2 hp) ht) fl3 on3 ((up1 k1.kq).trans k3.kq)
 | rec_ fs =>
  unfold Kd.good at kg
  rw [Kd.depth] at kd kd12
  rw [Kd.tr]
  and_intros
  refine ⟨by rw [trF_len]; exact Nat.le_of_lt (small1000 (by omega)), fun rest τ ys Γ' => ∃ (gs hs : List (Str × Kd)) (o : Option T), τ = [o, some (.ref a), some (.ref b)] ∧ rest = trF gs ∧ fs = hs ++ gs ∧ ys.length = hs.length ∧ (∀ (j : Nat) (nm : Str) (k : Kd) (t : T), hs[j]? = some (nm, k) → ys[j]? = some t → Has k t) ∧ FlowAt Γ' a ∧ OneAt Γ' b ∧ Kq [a, b] Γ Γ', ?_, ?_, ?_⟩
  ·exact ⟨fs, [], none, rfl, rfl, rfl, rfl, (fun j nm k t h => by simp at h), fl, on, .refl⟩
  ·rintro τ ys Γ' ⟨gs, hs, o, rfl, e, e2, sl, sb, fl', on', k'⟩
   cases gs with
   | cons p r => cases e
   | nil =>
    rw [List.append_nil] at e2
    subst e2
    refine ⟨trivial, fun D hD => ?_⟩
    refine t_lenR up_same ?_
    exact fin (.rec_ sl sb) (fl'.new hD) (on'.kq (l := []) (.new hD _) (by simp)) (k'.trans (.new hD _))
  ·rintro x rr τ ys Γ' ⟨gs, hs, o, rfl, e, e2, sl, sb, fl', on', k'⟩
   cases gs with
   | nil => cases e
   | cons p gs =>
    obtain ⟨nm, k⟩ := p
    cases e
    have km : (nm, k) ∈ fs := by rw [e2]; simp
    have dk : k.depth ≤ depthF fs := depthF_le km
    and_intros
    refine ⟨a, b, k, rfl, fl', on', goodF_mem kg.1 km, by omega, by omega, fun t Γ3 ht fl3 on3 k3 => ?_⟩
    refine ⟨gs, hs ++ [(nm, k)], _, rfl, rfl, by rw [e2]; simp, by rw [List.length_append, List.length_append, sl]; rfl, fun j nm' k' t' h1 h2 => ?_, fl3, on3, k'.trans k3.kq⟩
    by_cases hj : j < hs.length
    ·rw [List.getElem?_append_left hj] at h1
     rw [List.getElem?_append_left (by omega)] at h2
     exact sb j nm' k' t' h1 h2
    ·rw [List.getElem?_append_right (by omega)] at h1
     rw [List.getElem?_append_right (by omega), sl] at h2
     cases jj : j - hs.length with
     | zero => rw [jj] at h1 h2; cases h1; cases h2; exact ht
     | succ i => rw [jj] at h1; simp at h1
end
def resK : Option Kd → T
 | some k => k.tr
 | none => .non
theorem findF_snoc {m n : Str} {k : Kd} : ∀ fs : List (Str × Kd), findF (fs ++ [(m, k)]) n = match findF fs n with | some p => some p | none => if m = n then some (fs.length, k) else none
 | [] => by
  show findF [(m, k)] n = _
  by_cases e : m = n
  ·simp [findF, e]
  ·simp [findF, e]
 | (m', k') :: r => by
  show findF ((m', k') :: (r ++ [(m, k)])) n = _
  unfold findF
  by_cases e : m' = n
  ·rw [if_pos e, if_pos e]
  ·rw [if_neg e, if_neg e, findF_snoc r]
   cases findF r n with
   | some p => rfl
   | none =>
    by_cases e2 : m = n
    ·simp [e2]
    ·simp [e2]
section
variable {P : Program} {w : World} {K : PySem.W.Frag} {mg : Str → Option Value} {base : Heap} {f : Addr} {fd : FuncData} {v1 v2 v3 : Value} {dN : Addr}
abbrev s_law_kind_at : Stmt := top 36
theorem sc_law_kind_at : FnScope ["kind", "path", "step", "below"] ["kind", "path"] (defScope s_law_kind_at) := ⟨rfl, rfl, rfl, by decide +kernel, rfl, by decide +kernel, by decide +kernel⟩
def spKA : Sp3 := fun ts Γ Z _ => ∃ (k : Kd) (ps : List T), ts = [k.tr, .tup ps] ∧ k.good ∧ (∀ p ∈ ps, Sx p) ∧ Z (resK (atK k ps)) Γ
theorem ok_kind_at (F : Fun K "_law_kind_at" "_law_kind_at" s_law_kind_at f fd) (z_isinstance : mg "isinstance" = none) (z_str : mg "str" = none) : FnOk P w K mg base CX0 1 f fd ["kind", "path"] (liSp spKA) := by
 refine okd F sc_law_kind_at (fun ts Γ Z Y h => ?_) (fun cdv A outer s H E ts Γ Z Y hr h => ?_)
 ·obtain ⟨k, ps, rfl, _⟩ := h
  rfl
 obtain ⟨k, ps, rfl, kg, sp, q⟩ := h
 refine ⟨_, (qss_cons (qs_for PassesOwn.never rfl (qi_tup (qv 1)) (qg_name (i := 2) sc_law_kind_at.nd rfl (Or.inr rfl)) (qss_cons (qs_if (PW.pt (qw_or (qt_cmpR oq_eq (qe_ix (qv 0) qe_int (fun _ _ => rfl)) qe_str (nomark _)) (qw_or1 (qt_cmpR oq_eq (qe_ix (qv 0) qe_int (fun _ _ => rfl)) qe_str (nomark _))))) (qss_cons (qs_ret qe_non)
  qss_nil) qss_nil)
  (qss_cons (qs_cut (qs_if (qt_cmpR oq_eq (qe_ix (qv 0) qe_int (fun _ _ => rfl)) qe_str (nomark _)) (qss_cons (qs_if (PW.pt (qw_or (qt_val (qe_inst rfl z_isinstance rfl z_str bt_str (qv 2))) (qw_or (qt_cmpR oq_lt (qv 2) qe_int (nomark _)) (qw_or1 (qt_cmpR oq_gt (qv 2) qe_int (nomark _)))))) (qss_cons (qs_ret qe_non)
  qss_nil) qss_nil)
  (qss_cons (qs_set (i := 0) sc_law_kind_at.nd rfl (Or.inl rfl) (qe_ix (qv 0) qe_int (fun _ _ => rfl)))
  qss_nil)) (qss_cons (qs_comp (i := 3) (own := ["name", "one"]) (cap := [(2, "step")]) (compOkC rfl (by decide +kernel) (by decide +kernel) rfl (⟨rfl, trivial⟩) rfl (⟨⟨rfl, rfl, rfl⟩, trivial⟩)) rfl (qi_tup (qe_ix (qv 0) qe_int (fun _ _ => rfl))) (fun _ _ _ _ => (qg_tup (n := 2) rfl (qgs_cons (qg_name (i := 0) (show List.Nodup (["name", "one", "step"] : List Str) from by decide +kernel) rfl (Or.inl rfl) (Or.inr rfl)) (qgs_cons (qg_name (i := 1) (show List.Nodup (["name", "one", "step"] : List Str) from by decide +kernel) rfl (Or.inl rfl) (Or.inr rfl)) qgs_nil)))) (fun _ _ _ _ => (qts_one (qt_cmpR oq_eq (qv 0) (qv 2) (nomark _)))) (fun _ _ _ _ => (qv 1)) sc_law_kind_at.nd rfl rfl)
  (qss_cons (qs_if (qt_cmpR (oq_eqNil hr.units0) (qv 3) (qe_lst qa_nil) (nomark _)) (qss_cons (qs_ret qe_non)
  qss_nil) qss_nil)
  (qss_cons (qs_set (i := 0) sc_law_kind_at.nd rfl (Or.inl rfl) (qe_ix (qv 3) qe_int (fun _ _ => rfl)))
  qss_nil)))))
  qss_nil)))
  (qss_cons (qs_ret (qv 0))
  qss_nil)), ?_⟩
 simp only [start3]
 and_intros
 refine ⟨fun rest τ Γ' => ∃ (k' : Kd) (o2 o3 : Option T), τ = [some k'.tr, some (.tup ps), o2, o3] ∧ k'.good ∧ (∀ p ∈ rest, Sx p) ∧ atK k ps = atK k' rest ∧ Le Γ Γ', ?_, ?_, ?_⟩
 ·exact ⟨k, none, none, rfl, kg, sp, rfl, .refl⟩
 ·rintro τ Γ' ⟨k', o2, o3, rfl, kg', sp', e, le⟩
  refine ⟨trivial, ?_⟩
  and_intros
  refine drop0 le ?_
  rw [e] at q
  exact q
 ·rintro x r τ Γ' ⟨k', o2, o3, rfl, kg', sp', e, le⟩
  have e' : atK k ps = match stepK k' x with | some k2 => atK k2 r | none => none := e
  have no : ∀ {Γ2 : Gp}, stepK k' x = none → Le Γ Γ2 → dropK Z .non Γ2 := fun h l => drop0 l (by rw [e', h] at q; exact q)
  have go : ∀ {Γ2 : Gp} {k2 : Kd} {o2 o3 : Option T}, stepK k' x = some k2 → Le Γ Γ2 → ∃ (k' : Kd) (o2' o3' : Option T), [some k2.tr, some (.tup ps), o2, o3] = [some k'.tr, some (.tup ps), o2', o3'] ∧ k'.good ∧ (∀ p ∈ r, Sx p) ∧ atK k ps = atK k' r ∧ Le Γ Γ2 := fun {Γ2 k2 o2 o3} h l =>
   ⟨k2, o2, o3, rfl, (stepK_good kg' h).1, fun p hp => sp' p (by simp [hp]), by rw [e', h], l⟩
  have sx := sp' x (by simp)
  cases k' with
  | num wd => rw [Kd.tr]; and_intros; exact no (by cases x <;> rfl) le
  | text => rw [Kd.tr]; and_intros; exact no (by cases x <;> rfl) le
  | row j =>
   rw [Kd.tr]
   and_intros
   refine nocut ?_
   and_intros
   cases sx with
   | @str n l =>
    refine ⟨_, true, rfl, rfl, ?_⟩
    and_intros
    exact no rfl le
   | int i =>
    refine ⟨_, false, rfl, rfl, ?_⟩
    and_intros
    refine c_if (fun c => ?_) (fun c => ?_)
    ·have c := of_decide_eq_true c
     and_intros
     exact no (if_neg fun z => by omega) le
    ·have c := of_decide_eq_false c
     and_intros
     refine c_if (fun c2 => ?_) (fun c2 => ?_)
     ·have c2 := of_decide_eq_true c2
      and_intros
      exact no (if_neg fun z => by omega) le
     ·have c2 := of_decide_eq_false c2
      and_intros
      exact go (if_pos ⟨by omega, by omega⟩) le
  | rec_ fs | pick fs =>
   unfold Kd.good at kg'
   rw [Kd.tr]
   and_intros
   refine nocut ?_
   and_intros
   refine ⟨by rw [trF_len]; exact Nat.le_of_lt (small1000 (by omega)), fun rest τ ys Γ' => ∃ (gs hs : List (Str × Kd)) (o0 o1 : Option T), τ = [o0, o1, some x] ∧ rest = trF gs ∧ fs = hs ++ gs ∧ ((ys = [] ∧ byF hs x = none) ∨ ∃ j k2 r2, byF hs x = some (j, k2) ∧ ys = k2.tr :: r2) ∧ Le Γ Γ', ?_, ?_, ?_⟩
   ·exact ⟨fs, [], none, none, rfl, rfl, rfl, .inl ⟨rfl, by cases x <;> rfl⟩, le⟩
   ·rintro τ ys Γ2 ⟨gs, hs, o0, o1, rfl, e0, e2, hy, le2⟩
    cases gs with
    | cons p r => cases e0
    | nil =>
     rw [List.append_nil] at e2
     subst e2
     refine ⟨trivial, fun D hD => ?_⟩
     and_intros
     intro p hp
     have gD : (up (up Γ2 D (.lst ys)) p (.lst [])) D = some (.lst ys) := by rw [up_ne (gnn up_same hp)]; exact up_same
     have le3 : Le Γ (up (up Γ2 D (.lst ys)) p (.lst [])) := (le2.trans (.new hD)).trans (.new hp)
     refine ⟨D, p, ys, rfl, rfl, gD, up_same, ?_⟩
     rcases hy with ⟨rfl, hb⟩ | ⟨j, k2, r2, hb, rfl⟩
     ·and_intros
      exact no (by show (byF fs x).map _ = _; rw [hb]; rfl) le3
     ·and_intros
      exact go (by show (byF fs x).map _ = _; rw [hb]; rfl) le3
   ·rintro y rr τ ys Γ2 ⟨gs, hs, o0, o1, rfl, e0, e2, hy, le2⟩
    cases gs with
    | nil => cases e0
    | cons p gs =>
     obtain ⟨nm, k2⟩ := p
     cases e0
     and_intros
     cases sx with
     | int i =>
      and_intros
      exact ⟨gs, hs ++ [(nm, k2)], _, _, rfl, rfl, by rw [e2]; simp, .inl (by rcases hy with h | ⟨j, k3, r3, h, _⟩; exact ⟨h.1, rfl⟩; cases h), le2⟩
     | @str n l =>
      and_intros
      refine c_if (fun c => ?_) (fun c => ?_)
      ·cases d_str c
       and_intros
       refine ⟨gs, hs ++ [(nm, k2)], _, _, rfl, rfl, by rw [e2]; simp, .inr ?_, le2⟩
       rcases hy with ⟨rfl, h⟩ | ⟨j, k3, r3, h, rfl⟩
       ·exact ⟨hs.length, k2, [], by show findF _ _ = _; rw [findF_snoc, show findF hs nm = none from h]; simp, rfl⟩
       ·exact ⟨j, k3, r3 ++ [k2.tr], by show findF _ _ = _; rw [findF_snoc, show findF hs nm = some (j, k3) from h], rfl⟩
      ·have c := d_strN c
       and_intros
       refine ⟨gs, hs ++ [(nm, k2)], _, _, rfl, rfl, by rw [e2]; simp, ?_, le2⟩
       rcases hy with ⟨rfl, h⟩ | ⟨j, k3, r3, h, rfl⟩
       ·exact .inl ⟨rfl, by show findF _ _ = _; rw [findF_snoc, show findF hs n = none from h]; simp [c]⟩
       ·exact .inr ⟨j, k3, r3, by show findF _ _ = _; rw [findF_snoc, show findF hs n = some (j, k3) from h], rfl⟩
inductive Sm : T → Prop
 | int {i : Int} (l : i.natAbs ≤ 100) : Sm (.int i)
 | str {z : Str} (l : z.length ≤ 100) : Sm (.str z)
theorem Sm.sx {x : T} (h : Sm x) : Sx x := by
 cases h with
 | int l => exact .int _
 | str l => exact .str (Nat.le_trans l (by decide))
theorem strs_at {fs : List (Str × Kd)} {n : Str} {j : Nat} {k : Kd} (h : findF fs n = some (j, k)) : (∃ z, ((fs.map (·.1)).map V.str)[j]? = some z ∧ eqV z (.str n) = true) ∧ ∀ m z, m < j → ((fs.map (·.1)).map V.str)[m]? = some z → eqV z (.str n) = false := by
 induction fs generalizing j with
 | nil => cases h
 | cons p r ih =>
  obtain ⟨m0, k0⟩ := p
  unfold findF at h
  by_cases e : m0 = n
  ·rw [if_pos e] at h
   cases h
   subst e
   exact ⟨⟨_, rfl, by simp [eqV]⟩, fun m z hm => absurd hm (Nat.not_lt_zero _)⟩
  ·rw [if_neg e] at h
   cases f : findF r n with
   | none => rw [f] at h; cases h
   | some q =>
    rw [f] at h
    cases h
    obtain ⟨⟨z, h1, h2⟩, h3⟩ := ih (j := q.1) f
    refine ⟨⟨z, by simpa using h1, h2⟩, fun m z hm hz => ?_⟩
    cases m with
    | zero => cases hz; simp [eqV, e]
    | succ m => exact h3 m z (by omega) (by simpa using hz)
end
theorem mem_cutN {α : Type} {xs : List α} {lo hi : Option Int} {x : α} (h : x ∈ cutN xs lo hi) : x ∈ xs := by
 unfold cutN at h
 exact List.mem_of_mem_drop (List.mem_of_mem_take h)
theorem cutN_le {α : Type} (xs : List α) (lo hi : Option Int) : (cutN xs lo hi).length ≤ xs.length := by
 unfold cutN
 rw [List.length_take, List.length_drop]
 omega
theorem atK_get : ∀ {ps : List T} {k k' : Kd} {j : Nat} {p : T}, atK k ps = some k' → ps[j]? = some p → ∃ k2 k3, atK k (ps.take j) = some k2 ∧ stepK k2 p = some k3
 | [], k, k', j, p, h, e => by simp at e
 | p0 :: r, k, k', j, p, h, e => by
  have h : (match stepK k p0 with | some k' => atK k' r | none => none) = some k' := h
  cases e0 : stepK k p0 with
  | none => rw [e0] at h; cases h
  | some k2 =>
   rw [e0] at h
   cases j with
   | zero => cases e; exact ⟨k, k2, rfl, e0⟩
   | succ j =>
    obtain ⟨k3, k4, h3, h4⟩ := atK_get (j := j) h (by simpa using e)
    refine ⟨k3, k4, ?_, h4⟩
    show (match stepK k p0 with | some k' => atK k' (r.take j) | none => none) = some k3
    rw [e0]; exact h3
theorem atK_good : ∀ {ps : List T} {k k' : Kd}, k.good → atK k ps = some k' → k'.good
 | [], k, k', g, h => by cases h; exact g
 | p :: r, k, k', g, h => by
  have h : (match stepK k p with | some k' => atK k' r | none => none) = some k' := h
  cases e : stepK k p with
  | none => rw [e] at h; cases h
  | some k2 => rw [e] at h; exact atK_good (stepK_good g e).1 h
theorem stepW_K {k k' : Kd} {u u' x : T} (h : Has k u) (e : stepW k u x = some (k', u')) : stepK k x = some k' := by
 obtain ⟨h1, h2⟩ := place_step (x := x) h
 cases p : placeW k u x with
 | none => rw [h2 p] at e; cases e
 | some j =>
  obtain ⟨ts, k2, u2, _, _, e2, e3⟩ := h1 j p
  rw [e] at e2; cases e2
  exact e3
theorem partW_K : ∀ {ps : List T} {k k' : Kd} {u u' : T}, k.good → Has k u → partW k u ps = some (k', u') → atK k ps = some k'
 | [], k, k', u, u', g, h, e => by cases e; rfl
 | p :: r, k, k', u, u', g, h, e => by
  have e : (match stepW k u p with | some (k', w') => partW k' w' r | none => none) = some (k', u') := e
  cases f : stepW k u p with
  | none => rw [f] at e; cases e
  | some y =>
   obtain ⟨k2, u2⟩ := y
   rw [f] at e
   obtain ⟨a, b, _⟩ := stepW_ok g h f
   show (match stepK k p with | some k' => atK k' r | none => none) = some k'
   rw [stepW_K h f]
   exact partW_K b a e
theorem cut_take {α : Type} {xs : List α} {n : Int} (h : 0 ≤ n) : cutN xs none (some n) = xs.take n.toNat := by
 unfold cutN
 rw [HT.sIx_none, List.drop_zero, Nat.sub_zero]
 have e1 : HT.sIx xs.length xs.length (some n) = min n.toNat xs.length := by
  show (if n < 0 then _ else min n.toNat _) = _
  rw [if_neg (by omega)]
 rw [e1]
 by_cases c : n.toNat ≤ xs.length
 ·rw [Nat.min_eq_left c]
 ·rw [Nat.min_eq_right (by omega), List.take_length, List.take_of_length_le (by omega)]
section
variable {P : Program} {w : World} {K : PySem.W.Frag} {mg : Str → Option Value} {base : Heap} {f : Addr} {fd : FuncData} {v1 v2 v3 : Value} {dN : Addr}
abbrev s_law_beside : Stmt := top 38
theorem sc_law_beside : FnScope ["flow", "kind", "path", "at", "above"] ["flow", "kind", "path"] (defScope s_law_beside) := ⟨rfl, rfl, rfl, by decide +kernel, rfl, by decide +kernel, by decide +kernel⟩
def spBs : Sp3 := fun ts Γ Z _ => ∃ (a : Addr) (k k' : Kd) (ps : List T), ts = [.ref a, k.tr, .tup ps] ∧ FlowAt Γ a ∧ k.good ∧ ps.length ≤ 5 ∧ (∀ p ∈ ps, Sx p) ∧ atK k ps = some k' ∧ ∀ (qs : List T) (Γ' : Gp), (∀ p ∈ qs, Sx p) → FlowAt Γ' a → Fr [a] Γ Γ' → Z (.tup qs) Γ'
theorem ok_beside (F : Fun K "_law_beside" "_law_beside" s_law_beside f fd) (c_law_draw : Cl3 P w K mg base "_law_draw" 1 ["flow", "many"] spDr) (c_law_kind_at : Cl3 P w K mg base "_law_kind_at" 1 ["kind", "path"] spKA) (z_len : mg "len" = none) : FnOk P w K mg base CX0 2 f fd ["flow", "kind", "path"] (liSp spBs) := by
 refine okd F sc_law_beside (fun ts Γ Z Y h => ?_) (fun cdv A outer s H E ts Γ Z Y hr h => ?_)
 ·obtain ⟨a, k, k', ps, rfl, _⟩ := h
  rfl
 obtain ⟨a, k, k', ps, rfl, fl, kg, hl, hs, ea, q⟩ := h
 refine ⟨_, (qss_cons (qs_if (qt_cmpR (oq_eqT0 hr.units0) (qv 2) (qe_tup qa_nil) (nomark _)) (qss_cons (qs_ret (qv 2))
  qss_nil) qss_nil)
  (qss_cons (qs_set (i := 3) sc_law_beside.nd rfl (Or.inl rfl) (qe_call c_law_draw hr (by omega) rfl (qa_cons (qv 0) (qa_cons (qe_callB cq_len rfl z_len PySem.boot_len (qa_cons (qv 2) qa_nil)) qa_nil))))
  (qss_cons (qs_set (i := 4) sc_law_beside.nd rfl (Or.inl rfl) (qe_call c_law_kind_at hr (by omega) rfl (qa_cons (qv 1) (qa_cons (qe_slice sq_tup (qv 2) qo_none (qo_some (qv 3))) qa_nil))))
  (qss_cons (qs_if (qt_cmpR oq_eq (qe_ix (qv 4) qe_int (fun _ _ => rfl)) qe_str (nomark _)) (qss_cons (qs_ret (qv 2))
  qss_nil) qss_nil)
  (qss_cons (qs_ret (qe_op oq_cat (qe_op oq_cat (qe_slice sq_tup (qv 2) qo_none (qo_some (qv 3))) (qe_tup (qa_cons (qe_ix (qe_ix (qe_ix (qv 4) qe_int (fun _ _ => rfl)) (qe_call c_law_draw hr (by omega) rfl (qa_cons (qv 0) (qa_cons (qe_callB cq_len rfl z_len PySem.boot_len (qa_cons (qe_ix (qv 4) qe_int (fun _ _ => rfl)) qa_nil)) qa_nil))) (fun _ _ => rfl)) qe_int (fun _ _ => rfl)) qa_nil))) (qe_slice sq_tup (qv 2) (qo_some (qe_op oq_add (qv 3) qe_int)) qo_none)))
  qss_nil))))), ?_⟩
 simp only [start3]
 and_intros
 refine c_if (fun c => ?_) (fun c => ?_)
 ·and_intros
  exact drop0 .refl (q ps Γ hs fl .refl)
 ·have hn : 0 < ps.length := by
   cases ps with
   | nil => cases c
   | cons _ _ => simp
  and_intros
  refine ⟨a, _, rfl, fl, by omega, by omega, fun r Γ1 r0 r1 fl1 k1 => ?_⟩
  obtain ⟨j, rfl⟩ : ∃ j : Nat, r = j := ⟨r.toNat, by omega⟩
  have hj : j < ps.length := by omega
  obtain ⟨k2, k3, h2, h3⟩ := atK_get (j := j) (p := ps[j]) ea (by simp [hj])
  and_intros
  have ct : cutN ps none (some (j : Int)) = ps.take j := by rw [cut_take (by omega), Int.toNat_natCast]
  refine ⟨k, cutN ps none (some (j : Int)), rfl, kg, fun p hp => hs p (mem_cutN hp), ?_⟩
  rw [ct, h2]
  have kg2 := atK_good kg h2
  simp only [resK]
  and_intros
  have sx := hs ps[j] (List.getElem_mem hj)
  cases k2 with
  | num wd => exact absurd h3 (by cases ps[j] <;> exact fun z => nomatch z)
  | text => exact absurd h3 (by cases ps[j] <;> exact fun z => nomatch z)
  | row k4 =>
   rw [Kd.tr]
   and_intros
   exact drop0 .refl (q ps Γ1 hs fl1 k1)
  | rec_ fs | pick fs =>
   unfold Kd.good at kg2
   rw [Kd.tr]
   and_intros
   refine ⟨a, _, rfl, fl1, by rw [trF_len]; omega, by rw [trF_len]; have := kg2.2.2.1; omega, fun r2 Γ2 r20 r21 fl2 k5 => ?_⟩
   rw [trF_len] at r21
   obtain ⟨i, rfl⟩ : ∃ i : Nat, r2 = i := ⟨r2.toNat, by omega⟩
   have hi : i < fs.length := by omega
   obtain ⟨⟨nm, k4⟩, hp⟩ : ∃ p, fs[i]? = some p := ⟨fs[i], by simp [hi]⟩
   have nm8 : nm.length ≤ 8 := (goodF_nm kg2.1 (List.mem_of_getElem? hp)).2.1
   and_intros
   refine t_ixN (trF_get hp) ?_
   and_intros
   have l1 := cutN_le ps none (some (j : Int))
   have l2 := cutN_le ps (some ((j : Int) + 1)) none
   refine t_cat (Nat.le_of_lt (small1000 (by show _ + 1 ≤ 1000; omega))) ?_
   and_intros
   refine t_cat (Nat.le_of_lt (small1000 (by rw [List.length_append]; show _ + 1 + _ ≤ 1000; omega))) ?_
   refine drop0 .refl (q _ Γ2 (fun p hp => ?_) fl2 (k1.trans k5))
   rcases List.mem_append.mp hp with h | h
   ·rcases List.mem_append.mp h with h | h
    ·exact hs p (mem_cutN h)
    ·rw [List.mem_singleton.mp h]; exact .str (by omega)
   ·exact hs p (mem_cutN h)
abbrev s_law_part : Stmt := top 39
theorem sc_law_part : FnScope ["kind", "worth", "path", "step", "names", "at"] ["kind", "worth", "path"] (defScope s_law_part) := ⟨rfl, rfl, rfl, by decide +kernel, rfl, by decide +kernel, by decide +kernel⟩
def resW : Option (Kd × T) → List T
 | some p => [p.2]
 | none => []
def spPt : Sp3 := fun ts Γ Z _ => ∃ (k : Kd) (u : T) (ps : List T), ts = [k.tr, u, .tup ps] ∧ k.good ∧ Has k u ∧ (∀ p ∈ ps, Sx p) ∧ ∀ p, Γ p = none → Z (.ref p) (up Γ p (.lst (resW (partW k u ps))))
theorem dropN {Z : K3} {Γ Γ' : Gp} {p : Addr} {o : O} (l : Le Γ Γ') (h : Γ' p = none) (z : ∀ p, Γ p = none → Z (.ref p) (up Γ p o)) : dropK Z (.ref p) (up Γ' p o) := by
 have g : Γ p = none := by
  cases e : Γ p with
  | none => rfl
  | some u => have := l p u e; rw [h] at this; cases this
 refine ⟨up Γ p o, fun b u q => ?_, z p g⟩
 by_cases e : b = p
 ·subst e; rw [up_same] at q ⊢; exact q
 ·rw [up_ne e] at q ⊢; exact l b u q
theorem strs_all (ss : List Str) : (ss.map V.str).all flatV = true := by
 rw [List.all_eq_true]
 intro v hv
 obtain ⟨z, _, rfl⟩ := List.mem_map.mp hv
 rfl
theorem in_names {fs : List (Str × Kd)} {n : Str} : inV (.str n) ((fs.map (·.1)).map V.str) = (findF fs n).isSome := by
 rw [inV_strs]
 cases e : findF fs n with
 | none =>
  rw [decide_eq_false]; rfl
  intro h
  obtain ⟨p, hp, rfl⟩ := List.mem_map.mp h
  obtain ⟨j, hj⟩ := List.getElem?_of_mem hp
  obtain ⟨q, hq⟩ := findF_some (n := p.1) (k := p.2) hj
  rw [e] at hq; cases hq
 | some q =>
  rw [decide_eq_true]; rfl
  exact List.mem_map.mpr ⟨_, List.mem_of_getElem? (findF_mem (j := q.1) (k := q.2) e), rfl⟩
theorem ok_part (F : Fun K "_law_part" "_law_part" s_law_part f fd) (z_isinstance : mg "isinstance" = none) (z_str : mg "str" = none) (z_len : mg "len" = none) : FnOk P w K mg base CX0 1 f fd ["kind", "worth", "path"] (liSp spPt) := by
 refine okd F sc_law_part (fun ts Γ Z Y h => ?_) (fun cdv A outer s H E ts Γ Z Y hr h => ?_)
 ·obtain ⟨k, u, ps, rfl, _⟩ := h
  rfl
 obtain ⟨k, u, ps, rfl, kg, hu, hs, q⟩ := h
 refine ⟨_, (qss_cons (qs_for PassesOwn.never rfl (qi_tup (qv 2)) (qg_name (i := 3) sc_law_part.nd rfl (Or.inl rfl)) (qss_cons (qs_if (PW.pt (qw_or (qt_cmpR oq_eq (qe_ix (qv 0) qe_int (fun _ _ => rfl)) qe_str (nomark _)) (qw_or1 (qt_cmpR oq_eq (qe_ix (qv 0) qe_int (fun _ _ => rfl)) qe_str (nomark _))))) (qss_cons (qs_ret (qe_lst qa_nil))
  qss_nil) qss_nil)
  (qss_cons (qs_cut (qs_if (qt_cmpR oq_eq (qe_ix (qv 0) qe_int (fun _ _ => rfl)) qe_str (nomark _)) (qss_cons (qs_if (PW.pt (qw_or (qt_val (qe_inst rfl z_isinstance rfl z_str bt_str (qv 3))) (qw_or (qt_cmpR oq_lt (qv 3) qe_int (nomark _)) (qw_or1 (qt_cmpR oq_ge (qv 3) (qe_callB cq_len rfl z_len PySem.boot_len (qa_cons (qv 1) qa_nil)) (nomark _)))))) (qss_cons (qs_ret (qe_lst qa_nil))
  qss_nil) qss_nil)
  (qss_cons (qs_set (i := 0) sc_law_part.nd rfl (Or.inl rfl) (qe_ix (qv 0) qe_int (fun _ _ => rfl)))
  (qss_cons (qs_set (i := 1) sc_law_part.nd rfl (Or.inl rfl) (qe_ix (qv 1) (qv 3) (fun _ _ => rfl)))
  qss_nil))) (qss_cons (qs_comp (i := 4) (own := ["name", "below"]) (cap := []) (compOk0 rfl (by decide +kernel) (by decide +kernel)) rfl (qi_tup (qe_ix (qv 0) qe_int (fun _ _ => rfl))) (fun _ _ _ _ => (qg_tup (n := 2) rfl (qgs_cons (qg_name (i := 0) (show List.Nodup (["name", "below"] : List Str) from by decide +kernel) rfl (Or.inl rfl) (Or.inr rfl)) (qgs_cons (qg_name (i := 1) (show List.Nodup (["name", "below"] : List Str) from by decide +kernel) rfl (Or.inl rfl) (Or.inr rfl)) qgs_nil)))) (fun _ _ _ _ => qts_nil) (fun _ _ _ _ => (qv 0)) sc_law_part.nd rfl rfl)
  (qss_cons (qs_if (PW.pt (qw_or (qt_cmpR oq_nin (qv 3) (qv 4) (by with_unfolding_all rfl)) (qw_or1 (PW.pt (qw_and (qt_cmpR oq_eq (qe_ix (qv 0) qe_int (fun _ _ => rfl)) qe_str (nomark _)) (qw_and1 (qt_cmpR oq_ne (qe_ix (qv 1) qe_int (fun _ _ => rfl)) (qv 3) (nomark _)))))))) (qss_cons (qs_ret (qe_lst qa_nil))
  qss_nil) qss_nil)
  (qss_cons (qs_set (i := 5) sc_law_part.nd rfl (Or.inl rfl) (qe_bm PySem.F.plainAttrs_list PySem.F.slot_list_index PySem.F.type_list_index mq_index (qv 4) (qa_cons (qv 3) qa_nil)))
  (qss_cons (qs_cut (qs_if (qt_cmpR oq_eq (qe_ix (qv 0) qe_int (fun _ _ => rfl)) qe_str (nomark _)) (qss_cons (qs_set (i := 5) sc_law_part.nd rfl (Or.inl rfl) qe_int)
  qss_nil) qss_nil))
  (qss_cons (qs_set (i := 1) sc_law_part.nd rfl (Or.inl rfl) (qe_ix (qv 1) (qv 5) (fun _ _ => rfl)))
  (qss_cons (qs_set (i := 0) sc_law_part.nd rfl (Or.inl rfl) (qe_ix (qe_ix (qe_ix (qv 0) qe_int (fun _ _ => rfl)) (qe_bm PySem.F.plainAttrs_list PySem.F.slot_list_index PySem.F.type_list_index mq_index (qv 4) (qa_cons (qv 3) qa_nil)) (fun _ _ => rfl)) qe_int (fun _ _ => rfl)))
  qss_nil))))))))
  qss_nil)))
  (qss_cons (qs_ret (qe_lst (qa_cons (qv 1) qa_nil)))
  qss_nil)), ?_⟩
 simp only [start3]
 and_intros
 refine ⟨fun rest τ Γ' => ∃ (k' : Kd) (u' : T) (o3 o4 o5 o6 : Option T), τ = [some k'.tr, some u', some (.tup ps), o3, o4, o5] ∧ k'.good ∧ Has k' u' ∧ (∀ p ∈ rest, Sx p) ∧ partW k u ps = partW k' u' rest ∧ Le Γ Γ', ?_, ?_, ?_⟩
 ·exact ⟨k, u, none, none, none, none, rfl, kg, hu, hs, rfl, .refl⟩
 ·rintro τ Γ' ⟨k', u', o3, o4, o5, o6, rfl, kg', hu', hs', e, le⟩
  refine ⟨trivial, ?_⟩
  and_intros
  intro p hp
  refine dropN le hp ?_
  rw [e] at q
  exact q
 ·rintro x r τ Γ' ⟨k', u', o3, o4, o5, o6, rfl, kg', hu', hs', e, le⟩
  have e' : partW k u ps = match stepW k' u' x with | some (k', w') => partW k' w' r | none => none := e
  have no : ∀ {Γ2 : Gp} {p : Addr}, stepW k' u' x = none → Le Γ Γ2 → Γ2 p = none → dropK Z (.ref p) (up Γ2 p (.lst [])) := fun h l hp => dropN l hp (by rw [e', h] at q; exact q)
  have go : ∀ {Γ2 : Gp} {k2 : Kd} {u2 : T} {o3 o4 o5 : Option T}, stepW k' u' x = some (k2, u2) → Le Γ Γ2 → ∃ (k' : Kd) (u' : T) (o3' o4' o5' o6' : Option T), [some k2.tr, some u2, some (.tup ps), o3, o4, o5] = [some k'.tr, some u', some (.tup ps), o3', o4', o5'] ∧ k'.good ∧ Has k' u' ∧ (∀ p ∈ r, Sx p) ∧ partW k u ps = partW k' u' r ∧ Le Γ Γ2 := fun {Γ2 k2 u2 o3 o4 o5} h l => by
   obtain ⟨a, b, _⟩ := stepW_ok kg' hu' h
   exact ⟨k2, u2, o3, o4, o5, none, rfl, b, a, fun p hp => hs' p (by simp [hp]), by rw [e', h], l⟩
  have sx := hs' x (by simp)
  cases hu' with
  | num l h => rw [Kd.tr]; and_intros; intro p hp; exact no (by cases x <;> rfl) le hp
  | text l h => rw [Kd.tr]; and_intros; intro p hp; exact no (by cases x <;> rfl) le hp
  | @row k2 ts l hq =>
   rw [Kd.tr]
   and_intros
   refine nocut ?_
   and_intros
   cases sx with
   | @str n l =>
    refine ⟨_, true, rfl, rfl, ?_⟩
    and_intros
    intro p hp
    exact no rfl le hp
   | int i =>
    refine ⟨_, false, rfl, rfl, ?_⟩
    and_intros
    refine c_if (fun c => ?_) (fun c => ?_)
    ·have c := of_decide_eq_true c
     and_intros
     intro p hp
     exact no (if_neg (by omega)) le hp
    ·have c := of_decide_eq_false c
     and_intros
     refine c_if (fun c2 => ?_) (fun c2 => ?_)
     ·have c2 := of_decide_eq_true c2
      and_intros
      intro p hp
      refine no ?_ le hp
      show (if 0 ≤ i then (ts[i.toNat]?).map fun t => (k2, t) else none) = none
      rw [if_pos (by omega), List.getElem?_eq_none (by omega)]; rfl
     ·have c2 := of_decide_eq_false c2
      obtain ⟨j, rfl⟩ : ∃ j : Nat, i = j := ⟨i.toNat, by omega⟩
      have hj : j < ts.length := by omega
      and_intros
      refine t_ixN (show ts[j]? = some ts[j] by simp [hj]) ?_
      and_intros
      refine go ?_ le
      show (if (0 : Int) ≤ (j : Nat) then (ts[((j : Nat) : Int).toNat]?).map fun t => (k2, t) else none) = _
      rw [if_pos (by omega), Int.toNat_natCast, List.getElem?_eq_getElem hj]; rfl
  | @rec_ fs ts l hq =>
   unfold Kd.good at kg'
   rw [Kd.tr]
   and_intros
   refine nocut ?_
   and_intros
   refine ⟨by rw [trF_len]; exact Nat.le_of_lt (small1000 (by omega)), fun rest τ ys Γ2 => ∃ (gs hs : List (Str × Kd)) (o0 o1 : Option T), τ = [o0, o1] ∧ rest = trF gs ∧ fs = hs ++ gs ∧ ys = (hs.map (·.1)).map T.str ∧ Γ2 = Γ', ?_, ?_, ?_⟩
   ·exact ⟨fs, [], none, none, rfl, rfl, rfl, rfl, rfl⟩
   ·rintro τ ys Γ2 ⟨gs, hs2, o0, o1, rfl, e0, e2, rfl, rfl⟩
    cases gs with
    | cons p r => cases e0
    | nil =>
     rw [List.append_nil] at e2
     subst e2
     refine ⟨trivial, fun D hD => ?_⟩
     have le2 : Le Γ (up Γ2 D (.lst ((fs.map (·.1)).map T.str))) := le.trans (.new hD)
     and_intros
     cases sx with
     | int i =>
      refine t_inL up_same rfl (scs_strs _) rfl (strs_all _) ?_
      rw [show (if true = true then !inV (.int i) ((fs.map (·.1)).map V.str) else inV (.int i) ((fs.map (·.1)).map V.str)) = true from by
       rw [if_pos rfl, Bool.not_eq_true', inV, List.any_eq_false]
       intro v hv
       obtain ⟨z, _, rfl⟩ := List.mem_map.mp hv
       exact Bool.false_ne_true]
      and_intros
      intro p hp
      exact no rfl le2 hp
     | @str n l =>
      refine t_inL up_same rfl (scs_strs _) rfl (strs_all _) ?_
      rw [if_pos rfl, in_names]
      cases ff : findF fs n with
      | none =>
       and_intros
       intro p hp
       refine no ?_ le2 hp
       show (match byF fs (.str n) with | some (j, k) => (ts[j]?).map fun t => (k, t) | none => none) = none
       rw [show byF fs (.str n) = none from ff]
      | some y =>
       obtain ⟨j, k2⟩ := y
       have hp := findF_mem ff
       obtain ⟨hlt, _⟩ := List.getElem?_eq_some_iff.mp hp
       have hj : j < ts.length := by omega
       obtain ⟨i1, i2⟩ := strs_at ff
       and_intros
       refine t_tyL up_same ?_
       and_intros
       refine ⟨D, _, _, _, _, j, rfl, rfl, it3_l up_same, scs_strs _, rfl, rfl, strs_all _, i1, i2, ?_⟩
       and_intros
       refine nocut ?_
       and_intros
       refine t_ixN (show ts[j]? = some ts[j] by simp [hj]) ?_
       and_intros
       refine t_tyL up_same ?_
       and_intros
       refine ⟨D, _, _, _, _, j, rfl, rfl, it3_l up_same, scs_strs _, rfl, rfl, strs_all _, i1, i2, ?_⟩
       refine t_ixN (trF_get hp) ?_
       and_intros
       refine go ?_ le2
       show (match byF fs (.str n) with | some (j, k) => (ts[j]?).map fun t => (k, t) | none => none) = _
       rw [show byF fs (.str n) = some (j, k2) from ff]
       show (ts[j]?).map _ = _
       rw [List.getElem?_eq_getElem hj]; rfl
   ·rintro y rr τ ys Γ2 ⟨gs, hs2, o0, o1, rfl, e0, e2, rfl, rfl⟩
    cases gs with
    | nil => cases e0
    | cons p gs =>
     obtain ⟨nm, k3⟩ := p
     cases e0
     and_intros
     exact ⟨gs, hs2 ++ [(nm, k3)], _, _, rfl, rfl, by rw [e2]; simp, by rw [List.map_append, List.map_append]; rfl, rfl⟩
  | @pick fs m k2 j t ff hq =>
   unfold Kd.good at kg'
   rw [Kd.tr]
   and_intros
   refine nocut ?_
   and_intros
   refine ⟨by rw [trF_len]; exact Nat.le_of_lt (small1000 (by omega)), fun rest τ ys Γ2 => ∃ (gs hs : List (Str × Kd)) (o0 o1 : Option T), τ = [o0, o1] ∧ rest = trF gs ∧ fs = hs ++ gs ∧ ys = (hs.map (·.1)).map T.str ∧ Γ2 = Γ', ?_, ?_, ?_⟩
   ·exact ⟨fs, [], none, none, rfl, rfl, rfl, rfl, rfl⟩
   ·rintro τ ys Γ2 ⟨gs, hs2, o0, o1, rfl, e0, e2, rfl, rfl⟩
    cases gs with
    | cons p r => cases e0
    | nil =>
     rw [List.append_nil] at e2
     subst e2
     refine ⟨trivial, fun D hD => ?_⟩
     have le2 : Le Γ (up Γ2 D (.lst ((fs.map (·.1)).map T.str))) := le.trans (.new hD)
     and_intros
     cases sx with
     | int i =>
      refine t_inL up_same rfl (scs_strs _) rfl (strs_all _) ?_
      rw [show (if true = true then !inV (.int i) ((fs.map (·.1)).map V.str) else inV (.int i) ((fs.map (·.1)).map V.str)) = true from by
       rw [if_pos rfl, Bool.not_eq_true', inV, List.any_eq_false]
       intro v hv
       obtain ⟨z, _, rfl⟩ := List.mem_map.mp hv
       exact Bool.false_ne_true]
      and_intros
      intro p hp
      exact no rfl le2 hp
     | @str n l =>
      refine t_inL up_same rfl (scs_strs _) rfl (strs_all _) ?_
      rw [if_pos rfl, in_names]
      by_cases cm : m = n
      ·subst cm
       rw [ff]
       have hp := findF_mem ff
       obtain ⟨i1, i2⟩ := strs_at ff
       and_intros
       refine c_ifF (by simp) ?_
       and_intros
       refine t_tyL up_same ?_
       and_intros
       refine ⟨D, _, _, _, _, j, rfl, rfl, it3_l up_same, scs_strs _, rfl, rfl, strs_all _, i1, i2, ?_⟩
       and_intros
       refine nocut ?_
       and_intros
       refine t_tyL up_same ?_
       and_intros
       refine ⟨D, _, _, _, _, j, rfl, rfl, it3_l up_same, scs_strs _, rfl, rfl, strs_all _, i1, i2, ?_⟩
       refine t_ixN (trF_get hp) ?_
       and_intros
       refine go ?_ le2
       show (if m = m then (findF fs m).map fun p => (p.2, t) else none) = _
       rw [if_pos rfl, ff]; rfl
      ·have nn : stepW (.pick fs) (.tup [.str m, t]) (.str n) = none := if_neg cm
       cases findF fs n with
       | none =>
        and_intros
        intro p hp
        exact no nn le2 hp
       | some y =>
        and_intros
        refine c_ifT (by simp [cm]) ?_
        and_intros
        intro p hp
        exact no nn le2 hp
   ·rintro y rr τ ys Γ2 ⟨gs, hs2, o0, o1, rfl, e0, e2, rfl, rfl⟩
    cases gs with
    | nil => cases e0
    | cons p gs =>
     obtain ⟨nm, k3⟩ := p
     cases e0
     and_intros
     exact ⟨gs, hs2 ++ [(nm, k3)], _, _, rfl, rfl, by rw [e2]; simp, by rw [List.map_append, List.map_append]; rfl, rfl⟩
end
theorem str_app_len (x y : Str) : (x ++ y).length = x.length + y.length := by
 show (x.cps ++ y.cps).size = _
 rw [Array.size_append]
 rfl
theorem cut_len {z u : Str} {lo hi : Option Int} (e : u.cps.toList = cutN z.cps.toList lo hi) : u.length ≤ z.length := by
 have h1 : u.cps.toList.length = u.length := by rw [Array.length_toList]; rfl
 have h2 : z.cps.toList.length = z.length := by rw [Array.length_toList]; rfl
 have h3 := cutN_length z.cps.toList lo hi
 rw [← e] at h3
 omega
theorem str_short {i : Int} (h : i.natAbs ≤ 100) : (Str.ofString (toString i)).length ≤ 1000 := by
 have k1 : ∀ k : Fin 101, (Str.ofString (toString ((k.val : Nat) : Int))).length ≤ 1000 := by decide +kernel
 have k2 : ∀ k : Fin 101, (Str.ofString (toString (-((k.val : Nat) : Int)))).length ≤ 1000 := by decide +kernel
 rcases Int.natAbs_eq i with e | e
 ·rw [e]; exact k1 ⟨i.natAbs, by omega⟩
 ·rw [e]; exact k2 ⟨i.natAbs, by omega⟩
theorem cut_tail {α : Type} {ps : List α} {at_ : Int} (h : 0 ≤ at_) : (cutN ps (some at_) none).length = ps.length - at_.toNat := by
 unfold cutN
 rw [List.length_take, List.length_drop]
 show min (ps.length - (if at_ < 0 then _ else min at_.toNat ps.length)) (ps.length - (if at_ < 0 then _ else min at_.toNat ps.length)) = _
 rw [if_neg (by omega)]
 omega
theorem has_pl {k : Kd} {t : T} (h : Has k t) : Pl t := by
 induction h with
 | num l h => exact .int _
 | text l h => exact .str
 | row l q ih => exact .tup ih
 | @rec_ fs ts l q ih =>
  refine .tup fun t ht => ?_
  obtain ⟨j, hj⟩ := List.getElem?_of_mem ht
  obtain ⟨hl, _⟩ := List.getElem?_eq_some_iff.mp hj
  have hf : j < fs.length := by omega
  exact ih j fs[j].1 fs[j].2 t (by simp [hf]) hj
 | pick f q ih =>
  refine .tup fun t ht => ?_
  rcases List.mem_cons.mp ht with rfl | ht
  ·exact .str
  ·rw [List.mem_singleton.mp ht]; exact ih
def big : Nat → Nat
 | 0 => 1
 | 1 => 1
 | d + 1 => 1 + 60 * big d
theorem big_pos : ∀ d, 1 ≤ big d
 | 0 => Nat.le_refl _
 | 1 => Nat.le_refl _
 | d + 2 => by show 1 ≤ 1 + 60 * big (d + 1); omega
theorem big_step (d : Nat) : big d ≤ big (d + 1) := by
 cases d with
 | zero => exact Nat.le_refl _
 | succ d => show big (d + 1) ≤ 1 + 60 * big (d + 1); have := big_pos (d + 1); omega
theorem big_mono {d e : Nat} (h : d ≤ e) : big d ≤ big e := by
 obtain ⟨t, rfl⟩ : ∃ t, e = d + t := ⟨e - d, by omega⟩
 clear h
 induction t with
 | zero => exact Nat.le_refl _
 | succ t ih => exact Nat.le_trans ih (big_step _)
theorem depth_pos : ∀ k : Kd, 1 ≤ k.depth
 | .num _ => by rw [Kd.depth]; exact Nat.le_refl _
 | .text => by rw [Kd.depth]; exact Nat.le_refl _
 | .row _ => by rw [Kd.depth]; omega
 | .rec_ _ => by rw [Kd.depth]; omega
 | .pick _ => by rw [Kd.depth]; omega
theorem big_succ {d : Nat} (h : 1 ≤ d) : big (d + 1) = 1 + 60 * big d := by
 obtain ⟨e, rfl⟩ : ∃ e, d = e + 1 := ⟨d - 1, by omega⟩
 rfl
theorem has_big {k : Kd} {t : T} (h : Has k t) (g : k.good) : tsz t ≤ big k.depth := by
 induction h with
 | num l h => rw [tsz]; exact big_pos _
 | text l h => rw [tsz]; exact big_pos _
 | @row k ts l q ih =>
  unfold Kd.good at g
  rw [tsz, Kd.depth, big_succ (depth_pos k)]
  have := tszs_le fun x hx => ih x hx g
  have : ts.length * big k.depth ≤ 60 * big k.depth := Nat.mul_le_mul_right _ l
  omega
 | @rec_ fs ts l q ih =>
  unfold Kd.good at g
  have hd : 1 ≤ depthF fs := by
   cases fs with
   | nil => cases g.2.1
   | cons p r => exact Nat.le_trans (depth_pos p.2) (depthF_le (p := p) (by simp))
  rw [tsz, Kd.depth, big_succ hd]
  have h1 : ∀ x ∈ ts, tsz x ≤ big (depthF fs) := fun x hx => by
   obtain ⟨j, hj⟩ := List.getElem?_of_mem hx
   obtain ⟨hl, _⟩ := List.getElem?_eq_some_iff.mp hj
   have hf : j < fs.length := by omega
   have hm : fs[j] ∈ fs := List.getElem_mem hf
   exact Nat.le_trans (ih j fs[j].1 fs[j].2 x (by simp [hf]) hj (goodF_mem g.1 hm)) (big_mono (depthF_le hm))
  have := tszs_le h1
  have : ts.length * big (depthF fs) ≤ 60 * big (depthF fs) := Nat.mul_le_mul_right _ (by omega)
  omega
 | @pick fs n k j t f q ih =>
  unfold Kd.good at g
  have hm := List.mem_of_getElem? (findF_mem f)
  have hd : 1 ≤ depthF fs := Nat.le_trans (depth_pos k) (depthF_le hm)
  rw [tsz, Kd.depth, big_succ hd, tszs, tszs, tszs, tsz]
  have h1 := Nat.le_trans (ih (goodF_mem g.1 hm)) (big_mono (depthF_le hm))
  have := big_pos (depthF fs)
  have h2 : tsz t ≤ big (depthF fs) := h1
  omega
theorem has_line {k : Kd} {t : T} (h : Has k t) (g : k.good) (d : k.depth ≤ 5) : tsz t ≤ sizeLine := by
 have h1 := Nat.le_trans (has_big h g) (big_mono d)
 have h2 : big 5 ≤ sizeLine := by rw [sizeLine_eq]; decide
 omega
section
variable {P : Program} {w : World} {K : PySem.W.Frag} {mg : Str → Option Value} {base : Heap} {f : Addr} {fd : FuncData} {v1 v2 v3 : Value} {dN dG d1 d2 d3 d4 d5 d6 d7 d8 d9 d10 d11 : Addr}
abbrev s_law_bent : Stmt := top 37
theorem sc_law_bent : FnScope ["flow", "path", "way", "at", "step"] ["flow", "path"] (defScope s_law_bent) := ⟨rfl, rfl, rfl, by decide +kernel, rfl, by decide +kernel, by decide +kernel⟩
def spBt : Sp3 := fun ts Γ Z _ => ∃ (a : Addr) (ps : List T), ts = [.ref a, .tup ps] ∧ FlowAt Γ a ∧ ps.length ≤ 5 ∧ (∀ p ∈ ps, Sm p) ∧ ∀ (qs : List T) (Γ' : Gp), (∀ p ∈ qs, Sx p) → FlowAt Γ' a → Fr [a] Γ Γ' → Z (.tup qs) Γ'
theorem ok_bent (F : Fun K "_law_bent" "_law_bent" s_law_bent f fd) (c_law_draw : Cl3 P w K mg base "_law_draw" 1 ["flow", "many"] spDr) (z_isinstance : mg "isinstance" = none) (z_str : mg "str" = none) (z_list : mg "list" = none) (z_min : mg "min" = none) (z_len : mg "len" = none) : FnOk P w K mg base CX0 2 f fd ["flow", "path"] (liSp spBt) := by
 refine okd F sc_law_bent (fun ts Γ Z Y h => ?_) (fun cdv A outer s H E ts Γ Z Y hr h => ?_)
 ·obtain ⟨a, ps, rfl, _⟩ := h
  rfl
 obtain ⟨a, ps, rfl, fl, hpl, hps, q⟩ := h
 refine ⟨_, (qss_cons (qs_set (i := 2) sc_law_bent.nd rfl (Or.inl rfl) (qe_call c_law_draw hr (by omega) rfl (qa_cons (qv 0) (qa_cons qe_int qa_nil))))
  (qss_cons (qs_set (i := 3) sc_law_bent.nd rfl (Or.inl rfl) (qe_call c_law_draw hr (by omega) rfl (qa_cons (qv 0) (qa_cons (qe_op oq_add (qe_callB cq_len rfl z_len PySem.boot_len (qa_cons (qv 1) qa_nil)) qe_int) qa_nil))))
  (qss_cons (qs_set (i := 4) sc_law_bent.nd rfl (Or.inl rfl) (qe_ix (qe_op oq_catL (qe_lst (qa_cons qe_str qa_nil)) (qe_callTy cq_list rfl z_list bt_list (qa_cons (qe_slice sq_tup (qv 1) (qo_some (qv 3)) qo_none) qa_nil))) (qe_callB (cq_min2 rfl) rfl z_min PyProof.Rows.boot_min (qa_cons qe_int (qa_cons (qe_op oq_sub (qe_callB cq_len rfl z_len PySem.boot_len (qa_cons (qv 1) qa_nil)) (qv 3)) qa_nil))) (fun _ _ => rfl)))
  (qss_cons (qs_cut (qs_if (qt_val (qe_inst rfl z_isinstance rfl z_str bt_str (qv 4))) (qss_cons (qs_set (i := 4) sc_law_bent.nd rfl (Or.inl rfl) (qe_ix (qe_lst (qa_cons (qe_op oq_adds (qv 4) qe_str) (qa_cons (qe_slice sq_str (qv 4) (qo_some qe_int) qo_none) (qa_cons (qe_slice sq_str (qv 4) qo_none (qo_some (qe_neg qe_int))) (qa_cons (qe_revS (qv 4) (qe_neg qe_int)) (qa_cons qe_str (qa_cons qe_int (qa_cons qe_str (qa_cons qe_int qa_nil))))))))) (qe_call c_law_draw hr (by omega) rfl (qa_cons (qv 0) (qa_cons qe_int qa_nil))) (fun _ _ => rfl)))
  qss_nil) (qss_cons (qs_set (i := 4) sc_law_bent.nd rfl (Or.inl rfl) (qe_ix (qe_lst (qa_cons (qe_op oq_add (qv 4) qe_int) (qa_cons (qe_op oq_sub (qv 4) qe_int) (qa_cons (qe_op oq_sub (qe_neg qe_int) (qv 4)) (qa_cons qe_int (qa_cons qe_int (qa_cons qe_str (qa_cons (qe_callTy cq_str rfl z_str bt_str (qa_cons (qv 4) qa_nil)) (qa_cons (qe_op oq_pow qe_int qe_int) qa_nil))))))))) (qe_call c_law_draw hr (by omega) rfl (qa_cons (qv 0) (qa_cons qe_int qa_nil))) (fun _ _ => rfl)))
  qss_nil)))
  (qss_cons (qs_if (qt_cmpR oq_eq (qv 2) qe_int (nomark _)) (qss_cons (qs_ret (qe_op oq_cat (qe_slice sq_tup (qv 1) qo_none (qo_some (qv 3))) (qe_slice sq_tup (qv 1) (qo_some (qe_op oq_add (qv 3) qe_int)) qo_none)))
  qss_nil) qss_nil)
  (qss_cons (qs_if (qt_cmpR oq_eq (qv 2) qe_int (nomark _)) (qss_cons (qs_ret (qe_op oq_cat (qe_op oq_cat (qe_slice sq_tup (qv 1) qo_none (qo_some (qv 3))) (qe_tup (qa_cons (qv 4) qa_nil))) (qe_slice sq_tup (qv 1) (qo_some (qv 3)) qo_none)))
  qss_nil) qss_nil)
  (qss_cons (qs_ret (qe_op oq_cat (qe_op oq_cat (qe_slice sq_tup (qv 1) qo_none (qo_some (qv 3))) (qe_tup (qa_cons (qv 4) qa_nil))) (qe_slice sq_tup (qv 1) (qo_some (qe_op oq_add (qv 3) qe_int)) qo_none)))
  qss_nil))))))), ?_⟩
 simp only [start3]
 have sz : ∀ n : Nat, n ≤ 1000 → n ≤ sizeLine := fun n h => Nat.le_of_lt (small1000 h)
 and_intros
 refine ⟨a, 8, rfl, fl, by decide, by decide, fun way Γ1 w0 w8 fl1 k1 => ?_⟩
 and_intros
 refine ⟨a, _, rfl, fl1, by omega, by omega, fun at_ Γ2 a0 a1 fl2 k2 => ?_⟩
 and_intros
 intro l1 hl1
 and_intros
 intro l2 hl2
 have cl := cut_tail (ps := ps) a0
 have g1 : (up (up Γ2 l1 (.lst [.str ""])) l2 (.lst (cutN ps (some at_) none))) l1 = some (.lst [.str ""]) := by rw [up_ne (gnn up_same hl2)]; exact up_same
 refine ⟨l1, l2, _, _, rfl, rfl, g1, up_same, sz _ (by show 1 + (cutN ps (some at_) none).length ≤ 1000; omega), fun R hR => ?_⟩
 and_intros
 obtain ⟨x, hx, hm⟩ := at_some (xs := [T.str ""] ++ cutN ps (some at_) none) (r := if (ps.length : Int) - at_ < 1 then (ps.length : Int) - at_ else 1) (by split <;> omega) (by rw [List.length_append]; show _ < ((1 + (cutN ps (some at_) none).length : Nat) : Int); split <;> omega)
 refine t_ixR up_same hx ?_
 have smx : Sm x := by
  rcases List.mem_append.mp hm with h | h
  ·rw [List.mem_singleton.mp h]; exact .str (by decide +kernel)
  ·exact hps x (mem_cutN h)
 have kq3 : Kq [a] Γ (up (up (up Γ2 l1 (.lst [.str ""])) l2 (.lst (cutN ps (some at_) none))) R (.lst ([T.str ""] ++ cutN ps (some at_) none))) := (((k1.kq.trans k2.kq).trans (.new hl1 _)).trans (.new hl2 _)).trans (.new hR _)
 have fl3 := ((fl2.new (o := .lst [.str ""]) hl1).new (o := .lst (cutN ps (some at_) none)) hl2).new (o := .lst ([T.str ""] ++ cutN ps (some at_) none)) hR
 generalize up (up (up Γ2 l1 (.lst [.str ""])) l2 (.lst (cutN ps (some at_) none))) R (.lst ([T.str ""] ++ cutN ps (some at_) none)) = Γ3 at kq3 fl3 ⊢
 and_intros
 refine ⟨fun τ Γ' => ∃ x : T, τ = [some (.ref a), some (.tup ps), some (.int way), some (.int at_), some x] ∧ Sx x ∧ FlowAt Γ' a ∧ Kq [a] Γ Γ', ?_, ?_⟩
 ·and_intros
  cases smx with
  | @str z l =>
   have zs : z.length ≤ sizeLine := sz _ (by omega)
   have al : ("a" : Str).length = 1 := by decide +kernel
   refine ⟨_, true, rfl, rfl, ?_⟩
   and_intros
   refine ⟨_, _, rfl, rfl, sz _ (by rw [al]; omega), ?_⟩
   and_intros
   refine ⟨zs, fun u1 q1 => ?_⟩
   and_intros
   refine ⟨zs, fun u2 q2 => ?_⟩
   and_intros
   refine ⟨rfl, z, rfl, zs, fun u3 q3 => ?_⟩
   and_intros
   intro L hL
   and_intros
   refine ⟨a, 8, rfl, fl3.new hL, by decide, by decide, fun r Γ4 r0 r1 fl4 k4 => ?_⟩
   obtain ⟨y, hy, hym⟩ := at_some (xs := [T.str (z ++ "a"), T.str u1, T.str u2, T.str u3, T.str "", T.int 0, T.str "row", T.int 1]) r0 r1
   refine t_ixR (by rw [k4 L (by simpa using fl3.nn hL)]; exact up_same) hy ?_
   refine ⟨y, rfl, ?_, fl4, (kq3.trans (.new hL _)).trans k4.kq⟩
   have c1 := cut_len q1
   have c2 := cut_len q2
   simp only [List.mem_cons, List.not_mem_nil, or_false] at hym
   rcases hym with rfl | rfl | rfl | rfl | rfl | rfl | rfl | rfl
   ·exact .str (by rw [str_app_len, al]; omega)
   ·exact .str (by omega)
   ·exact .str (by omega)
   ·exact .str (by omega)
   ·exact .str (by decide +kernel)
   ·exact .int _
   ·exact .str (by decide +kernel)
   ·exact .int _
  | @int i l =>
   refine ⟨_, false, rfl, rfl, ?_⟩
   have lg : i.natAbs.log2 < 1920 := Nat.lt_of_le_of_lt (Nat.log2_le_self _) (by omega)
   and_intros
   refine ⟨i, rfl, lg, ?_⟩
   and_intros
   intro L hL
   and_intros
   refine ⟨a, 8, rfl, fl3.new hL, by decide, by decide, fun r Γ4 r0 r1 fl4 k4 => ?_⟩
   obtain ⟨y, hy, hym⟩ := at_some (xs := [T.int (i + 1), T.int (i - 1), T.int (-1 - i), T.int 60, T.int 59, T.str "a", T.str (toString i), T.int (10 ^ (12 : Int).toNat)]) r0 r1
   refine t_ixR (by rw [k4 L (by simpa using fl3.nn hL)]; exact up_same) hy ?_
   refine ⟨y, rfl, ?_, fl4, (kq3.trans (.new hL _)).trans k4.kq⟩
   simp only [List.mem_cons, List.not_mem_nil, or_false] at hym
   rcases hym with rfl | rfl | rfl | rfl | rfl | rfl | rfl | rfl
   ·exact .int _
   ·exact .int _
   ·exact .int _
   ·exact .int _
   ·exact .int _
   ·exact .str (by decide +kernel)
   ·exact .str (str_short l)
   ·exact .int _
 rintro τ Γ4 ⟨x', rfl, sx, fl4, k4⟩
 have cl2 : ∀ lo hi, (cutN ps lo hi).length ≤ 5 := fun lo hi => Nat.le_trans (cutN_le ps lo hi) hpl
 have mc : ∀ {lo hi : Option Int} {u : T}, u ∈ cutN ps lo hi → Sx u := fun h => (hps _ (mem_cutN h)).sx
 have c1 := cl2 none (some at_)
 have c2 := cl2 (some (at_ + 1)) none
 have c3 := cl2 (some at_) none
 and_intros
 refine c_if (fun c => ?_) (fun c => ?_)
 ·and_intros
  refine t_cat (sz _ (by omega)) ?_
  exact ret1 fl4 k4 fun Γ5 fl5 k5 => q _ Γ5 (fun y hy => (List.mem_append.mp hy).elim mc mc) fl5 k5
 and_intros
 refine c_if (fun c => ?_) (fun c => ?_)
 ·and_intros
  refine t_cat (sz _ (by show _ + 1 ≤ 1000; omega)) ?_
  and_intros
  refine t_cat (sz _ (by rw [List.length_append]; show _ + 1 + _ ≤ 1000; omega)) ?_
  refine ret1 fl4 k4 fun Γ5 fl5 k5 => q _ Γ5 (fun y hy => ?_) fl5 k5
  rcases List.mem_append.mp hy with hy | hy
  ·rcases List.mem_append.mp hy with hy | hy
   ·exact mc hy
   ·rw [List.mem_singleton.mp hy]; exact sx
  ·exact mc hy
 ·and_intros
  refine t_cat (sz _ (by show _ + 1 ≤ 1000; omega)) ?_
  and_intros
  refine t_cat (sz _ (by rw [List.length_append]; show _ + 1 + _ ≤ 1000; omega)) ?_
  refine ret1 fl4 k4 fun Γ5 fl5 k5 => q _ Γ5 (fun y hy => ?_) fl5 k5
  rcases List.mem_append.mp hy with hy | hy
  ·rcases List.mem_append.mp hy with hy | hy
   ·exact mc hy
   ·rw [List.mem_singleton.mp hy]; exact sx
  ·exact mc hy
abbrev s_law_same : Stmt := top 40
theorem sc_law_same : FnScope ["found", "due", "left", "one", "other"] ["found", "due"] (defScope s_law_same) := ⟨rfl, rfl, rfl, by decide +kernel, rfl, by decide +kernel, by decide +kernel⟩
def spSame : Sp3 := fun ts Γ Z _ => ∃ x : T, ts = [x, x] ∧ Pl x ∧ tsz x ≤ sizeLine ∧ Z (.bl true) Γ
theorem ok_same (F : Fun K "_law_same" "_law_same" s_law_same f fd) (z_isinstance : mg "isinstance" = none) (z_tuple : mg "tuple" = none) (z_str : mg "str" = none) (z_int : mg "int" = none) (z_bool : mg "bool" = none) (z_len : mg "len" = none) (z_list : mg "list" = none) (z_zip : mg "zip" = none) : FnOk P w K mg base CX0 1 f fd ["found", "due"] (liSp spSame) := by
 refine okd F sc_law_same (fun ts Γ Z Y h => ?_) (fun cdv A outer s H E ts Γ Z Y hr h => ?_)
 ·obtain ⟨x, rfl, _⟩ := h
  rfl
 obtain ⟨x, rfl, px, sx, q⟩ := h
 refine ⟨_, (qss_cons (qs_set (i := 2) sc_law_same.nd rfl (Or.inl rfl) (qe_lst (qa_cons (qe_tup (qa_cons (qv 0) (qa_cons (qv 1) qa_nil))) qa_nil)))
  (qss_cons (qs_while PassesOwn.never (qt_cmpR (oq_neNil hr.units0) (qv 2) (qe_lst qa_nil) (nomark _)) (qss_cons (qs_asg (qe_bm0 PySem.F.plainAttrs_list PySem.F.slot_list_pop PySem.F.type_list_pop mq_pop (qv 2)) (qg_tup (n := 2) rfl (qgs_cons (qg_name (i := 3) sc_law_same.nd rfl (Or.inl rfl)) (qgs_cons (qg_name (i := 4) sc_law_same.nd rfl (Or.inl rfl)) qgs_nil))))
  (qss_cons (qs_cut (qs_if (qt_val (qe_inst rfl z_isinstance rfl z_tuple bt_tuple (qv 4))) (qss_cons (qs_if (PW.pt (qw_or (qt_not (qt_val (qe_inst rfl z_isinstance rfl z_tuple bt_tuple (qv 3)))) (qw_or1 (qt_cmpR oq_ne (qe_callB cq_len rfl z_len PySem.boot_len (qa_cons (qv 3) qa_nil)) (qe_callB cq_len rfl z_len PySem.boot_len (qa_cons (qv 4) qa_nil)) (nomark _))))) (qss_cons (qs_ret qe_bl)
  qss_nil) qss_nil)
  (qss_cons (qs_expr (qe_bm PySem.F.plainAttrs_list PySem.F.slot_list_extend PySem.F.type_list_extend mq_extend (qv 2) (qa_cons (qe_listzip rfl rfl z_list rfl z_zip (qa_cons (qv 3) (qa_cons (qv 4) qa_nil))) qa_nil)))
  qss_nil)) (qss_cons (qs_cut (qs_if (qt_val (qe_inst rfl z_isinstance rfl z_str bt_str (qv 4))) (qss_cons (qs_if (PW.pt (qw_or (qt_not (qt_val (qe_inst rfl z_isinstance rfl z_str bt_str (qv 3)))) (qw_or1 (qt_cmpR oq_ne (qv 3) (qv 4) (nomark _))))) (qss_cons (qs_ret qe_bl)
  qss_nil) qss_nil)
  qss_nil) (qss_cons (qs_if (PW.pt (qw_or (qt_not (qt_val (qe_inst rfl z_isinstance rfl z_int bt_int (qv 3)))) (qw_or (qt_val (qe_inst rfl z_isinstance rfl z_bool bt_bool (qv 3))) (qw_or1 (qt_cmpR oq_ne (qv 3) (qv 4) (nomark _)))))) (qss_cons (qs_ret qe_bl)
  qss_nil) qss_nil)
  qss_nil)))
  qss_nil)))
  qss_nil)))
  (qss_cons (qs_ret qe_bl)
  qss_nil))), ?_⟩
 simp only [start3]
 and_intros
 intro L hL
 refine ⟨fun m τ Γ' => ∃ (xs : List T) (o3 o4 : Option T), τ = [some x, some x, some (.ref L), o3, o4] ∧ Γ' L = some (.lst (xs.map fun y => .tup [y, y])) ∧ (∀ y ∈ xs, Pl y) ∧ tszs xs = m ∧ m ≤ sizeLine ∧ Le Γ Γ', ⟨tszs [x], [x], none, none, rfl, up_same, fun y hy => by rw [List.mem_singleton.mp hy]; exact px, rfl, by rw [tszs, tszs, Nat.add_zero]; exact sx, .new hL⟩, ?_⟩
 rintro m τ Γ1 ⟨xs, o3, o4, rfl, gL, hp, hm, ml, le⟩
 and_intros
 intro p hp0
 have gL' : (up Γ1 p (.lst [])) L = some (.lst (xs.map fun y => .tup [y, y])) := by rw [up_ne (gnn gL hp0)]; exact gL
 refine ⟨L, p, _, rfl, rfl, gL', up_same, ?_⟩
 have le1 : Le Γ (up Γ1 p (.lst [])) := le.trans (.new hp0)
 generalize up Γ1 p (.lst []) = Γ2 at gL' le1 ⊢
 rcases List.eq_nil_or_concat xs with rfl | ⟨ys, y, ey⟩
 ·and_intros
  exact drop0 le1 q
 ·rw [List.concat_eq_append] at ey
  subst ey
  and_intros
  refine c_ifT (by simp) ?_
  refine ⟨fun τ' Γ' => ∃ m', m' < m ∧ ∃ (xs : List T) (o3 o4 : Option T), τ' = [some x, some x, some (.ref L), o3, o4] ∧ Γ' L = some (.lst (xs.map fun y => .tup [y, y])) ∧ (∀ y ∈ xs, Pl y) ∧ tszs xs = m' ∧ m' ≤ sizeLine ∧ Le Γ Γ', fun _ _ h => h, ?_⟩
  and_intros
  refine t_tyL gL' ?_
  refine ⟨L, _, .tup [y, y], rfl, rfl, gL', by simp, ?_⟩
  have dl : ((ys ++ [y]).map fun y => T.tup [y, y]).dropLast = ys.map fun y => .tup [y, y] := by simp
  simp only [dl]
  rw [tszs_app, tszs, tszs, Nat.add_zero] at hm
  have py := hp y (by simp)
  have pos := tsz_pos y
  have le3 : Le Γ (up Γ2 L (.lst (ys.map fun y => .tup [y, y]))) := fun b o g => by
   have : b ≠ L := gnn g hL
   rw [up_ne this]; exact le1 b o g
  have fin : ∃ m', m' < m ∧ ∃ (xs : List T) (o3 o4 : Option T), [some x, some x, some (.ref L), some y, some y] = [some x, some x, some (.ref L), o3, o4] ∧ (up Γ2 L (.lst (ys.map fun y => .tup [y, y]))) L = some (.lst (xs.map fun y => .tup [y, y])) ∧ (∀ y ∈ xs, Pl y) ∧ tszs xs = m' ∧ m' ≤ sizeLine ∧ Le Γ (up Γ2 L (.lst (ys.map fun y => .tup [y, y]))) :=
   ⟨tszs ys, by omega, ys, _, _, rfl, up_same, fun z hz => hp z (by simp [hz]), rfl, by omega, le3⟩
  and_intros
  refine nocut ?_
  and_intros
  cases py with
  | int i =>
   refine ⟨_, false, rfl, rfl, ?_⟩
   and_intros
   refine nocut ?_
   and_intros
   refine ⟨_, false, rfl, rfl, ?_⟩
   and_intros
   refine ⟨_, true, rfl, rfl, ?_⟩
   and_intros
   refine ⟨_, false, rfl, rfl, ?_⟩
   and_intros
   refine c_ifF (by simp) ?_
   and_intros
   exact fin
  | @str z =>
   refine ⟨_, false, rfl, rfl, ?_⟩
   and_intros
   refine nocut ?_
   and_intros
   refine ⟨_, true, rfl, rfl, ?_⟩
   and_intros
   refine ⟨_, true, rfl, rfl, ?_⟩
   and_intros
   refine c_ifF (by simp) ?_
   and_intros
   exact fin
  | @tup us hu =>
   refine ⟨_, true, rfl, rfl, ?_⟩
   and_intros
   refine ⟨_, true, rfl, rfl, ?_⟩
   and_intros
   refine c_ifF (by simp) ?_
   and_intros
   refine t_tyL up_same ?_
   and_intros
   refine ⟨rfl, fun p2 hp2 => ?_⟩
   rw [zip_self]
   rw [tsz] at hm
   have l1 := tszs_len ys
   have l2 := tszs_len us
   have gL2 : (up (up Γ2 L (.lst (ys.map fun y => .tup [y, y]))) p2 (.lst (us.map fun y => .tup [y, y]))) L = some (.lst (ys.map fun y => .tup [y, y])) := by rw [up_ne (gnn up_same hp2)]; exact up_same
   refine ⟨L, p2, _, _, rfl, rfl, gL2, up_same, by rw [List.length_map, List.length_map]; omega, ?_⟩
   refine ⟨tszs (ys ++ us), by rw [tszs_app]; omega, ys ++ us, _, _, rfl, by rw [up_same, List.map_append], fun z hz => ?_, rfl, by rw [tszs_app]; omega, fun b o g => ?_⟩
   ·rcases List.mem_append.mp hz with h | h
    ·exact hp z (by simp [h])
    ·exact hu z h
   ·have : b ≠ L := gnn g hL
    rw [up_ne this]
    exact (le3.trans (.new hp2)) b o g
end
theorem cut_from {α : Type} {xs : List α} {n : Nat} : cutN xs (some (n : Int)) none = xs.drop n := by
 unfold cutN HT.sIx
 simp only
 rw [if_neg (by omega), Int.toNat_natCast, List.take_of_length_le (by rw [List.length_drop]; omega)]
 by_cases h : n ≤ xs.length
 ·rw [Nat.min_eq_left h]
 ·rw [Nat.min_eq_right (by omega), List.drop_length, List.drop_eq_nil_of_le (by omega)]
theorem cut_set {xs : List T} {j : Nat} {t : T} (h : j < xs.length) : cutN xs none (some (j : Int)) ++ [t] ++ cutN xs (some (((j + 1 : Nat) : Int))) none = xs.set j t := by
 rw [cut_from, cut_take (by omega), Int.toNat_natCast, List.set_eq_take_append_cons_drop, if_pos h, List.append_assoc]
 rfl
theorem tr_hd (k : Kd) : ∃ (hd : Str) (tl : List T), k.tr = .tup (.str hd :: tl) ∧ hd.length ≤ 4 ∧ (hd = "pick" ↔ isPk k = true) := by
 cases k with
 | num w => exact ⟨"num", _, by rw [Kd.tr], by decide +kernel, fun e => absurd e (by decide +kernel), fun e => by cases e⟩
 | text => exact ⟨"text", _, by rw [Kd.tr], by decide +kernel, fun e => absurd e (by decide +kernel), fun e => by cases e⟩
 | row k => exact ⟨"row", _, by rw [Kd.tr], by decide +kernel, fun e => absurd e (by decide +kernel), fun e => by cases e⟩
 | rec_ fs => exact ⟨"rec", _, by rw [Kd.tr], by decide +kernel, fun e => absurd e (by decide +kernel), fun e => by cases e⟩
 | pick fs => exact ⟨"pick", _, by rw [Kd.tr], by decide +kernel, fun _ => rfl, fun _ => rfl⟩
theorem has_len {k : Kd} {ts : List T} (h : Has k (.tup ts)) (g : k.good) : ts.length ≤ 60 := by
 cases h with
 | row l q => exact l
 | rec_ l q => unfold Kd.good at g; omega
 | pick f q => show 2 ≤ 60; decide
section
variable {P : Program} {w : World} {K : PySem.W.Frag} {mg : Str → Option Value} {base : Heap} {f : Addr} {fd : FuncData} {v1 v2 v3 : Value} {dN : Addr}
abbrev s_with_part : Stmt := top 23
theorem sc_with_part : FnScope ["kind", "worth", "path", "part", "step", "rest", "inner", "place", "exchanged"] ["kind", "worth", "path", "part"] (defScope s_with_part) := ⟨rfl, rfl, rfl, by decide +kernel, rfl, by decide +kernel, by decide +kernel⟩
def spWi (n : Nat) (D : Addr) : Sp3 := fun ts Γ Z Y => ∃ (k : Kd) (u : T) (ps : List T) (v : T), ts = [k.tr, u, .tup ps, v] ∧ k.good ∧ k.depth < n ∧ Has k u ∧ (∀ p ∈ ps, Sx p) ∧ (∀ u', setW k u ps v = some u' → Z u' Γ) ∧ (setW k u ps v = none → Y (.ref D) Γ)
theorem ok_with_part {n lv : Nat} (F : Fun K "with_part" "with_part" s_with_part f fd) (c_step_kind : Clx P w K mg base "step_kind" 2 ["kind", "step"] (spSt dN)) (c_part_place : Clx P w K mg base "part_place" 3 ["kind", "worth", "step"] (spPP dN)) (c_with_part : Clx P w K mg base "with_part" (lv + 4) ["kind", "worth", "path", "part"] (spWi n dN)) : FnOk P w K mg base (CXe P w) (lv + 4 + 1) f fd ["kind", "worth", "path", "part"] (liSp (spWi (n + 1) dN)) := by
 refine okdX F sc_with_part (fun ts Γ Z Y h => ?_) (fun cdv A outer s H E ts Γ Z Y hr h => ?_)
 ·obtain ⟨k, u, ps, v, rfl, _⟩ := h
  rfl
 obtain ⟨k, u, ps, v, rfl, kg, kd, hs, sx, q, qE⟩ := h
 refine ⟨_, (qss_cons (qs_if (qt_not (qt_truth (qv 2) (fun _ => rfl))) (qss_cons (qs_ret (qv 3))
  qss_nil) qss_nil)
  (qss_cons (qs_set (i := 4) sc_with_part.nd rfl (Or.inl rfl) (qe_ix (qv 2) qe_int (fun _ _ => rfl)))
  (qss_cons (qs_set (i := 5) sc_with_part.nd rfl (Or.inl rfl) (qe_slice sq_tup (qv 2) (qo_some qe_int) qo_none))
  (qss_cons (qs_set (i := 6) sc_with_part.nd rfl (Or.inl rfl) (qe_callX c_step_kind hr (by omega) rfl pass_def (qa_cons (qv 0) (qa_cons (qv 4) qa_nil))))
  (qss_cons (qs_if (PW.pt (qw_and (qt_cmpR oq_eq (qe_ix (qv 0) qe_int (fun _ _ => rfl)) qe_str (nomark _)) (qw_and1 (qt_not (qt_truth (qv 5) (fun _ => rfl)))))) (qss_cons (qs_ret (qe_tup (qa_cons (qv 4) (qa_cons (qv 3) qa_nil))))
  qss_nil) qss_nil)
  (qss_cons (qs_set (i := 7) sc_with_part.nd rfl (Or.inl rfl) (qe_callX c_part_place hr (by omega) rfl pass_def (qa_cons (qv 0) (qa_cons (qv 1) (qa_cons (qv 4) qa_nil)))))
  (qss_cons (qs_set (i := 8) sc_with_part.nd rfl (Or.inl rfl) (qe_callX c_with_part hr (by omega) rfl pass_def (qa_cons (qv 6) (qa_cons (qe_ix (qv 1) (qv 7) (fun _ _ => rfl)) (qa_cons (qv 5) (qa_cons (qv 3) qa_nil))))))
  (qss_cons (qs_ret (qe_op oq_cat (qe_op oq_cat (qe_slice sq_tup (qv 1) qo_none (qo_some (qv 7))) (qe_tup (qa_cons (qv 8) qa_nil))) (qe_slice sq_tup (qv 1) (qo_some (qe_op oq_add (qv 7) qe_int)) qo_none)))
  qss_nil)))))))), ?_⟩
 simp only [start3]
 cases ps with
 | nil =>
  and_intros
  refine ⟨false, rfl, ?_⟩
  and_intros
  exact drop0 .refl (q v rfl)
 | cons p r =>
  and_intros
  refine ⟨true, rfl, ?_⟩
  and_intros
  have e1 : cutN (p :: r) (some 1) none = r := cut_from (n := 1)
  rw [e1]
  refine ⟨k, p, rfl, sx p (by simp), fun k' e => ?_, fun e => ⟨Γ, .refl, qE (set_no (.inl e))⟩⟩
  and_intros
  obtain ⟨hd, tl, e2, hl, c2⟩ := tr_hd k
  have sk := e2.symm
  rw [e2]
  and_intros
  refine c_if (fun c => ?_) (fun c => ?_)
  ·have ec := d_str c
   cases r with
   | nil =>
    and_intros
    refine ⟨false, rfl, ?_⟩
    and_intros
    exact drop0 .refl (q _ (set_pk e (c2.mp ec)))
   | cons p2 r2 =>
    have nc : ¬ (isPk k = true ∧ p2 :: r2 = []) := fun x => by cases x.2
    and_intros
    refine ⟨true, rfl, ?_⟩
    and_intros
    obtain ⟨h1, h2⟩ := place_step (x := p) hs
    refine ⟨k, u, p, by rw [sk], hs, sx p (by simp), fun j hj => ?_, fun hj => ⟨Γ, .refl, qE (set_no (.inr ⟨nc, h2 hj⟩))⟩⟩
    obtain ⟨ts, k2, u2, rfl, hu, hw, hk⟩ := h1 j hj
    rw [e] at hk
    cases hk
    obtain ⟨ha, hg, hd2⟩ := stepW_ok kg hs hw
    and_intros
    refine t_ixN hu ?_
    and_intros
    refine ⟨k', u2, _, v, rfl, hg, by omega, ha, fun x hx => sx x (List.mem_cons_of_mem _ hx), fun t' e3 => ?_, fun e3 => ⟨Γ, .refl, qE (by rw [set_at e nc hw hj, e3]; rfl)⟩⟩
    and_intros
    have l1 := has_len hs kg
    have l2 := cutN_le ts none (some (j : Int))
    have l3 := cutN_le ts (some ((j + 1 : Nat) : Int)) none
    have sz : ∀ n : Nat, n ≤ 1000 → n ≤ sizeLine := fun n h => Nat.le_of_lt (small1000 h)
    refine ⟨_, _, rfl, rfl, sz _ (by show _ + 1 ≤ 1000; omega), ?_⟩
    and_intros
    refine ⟨_, _, rfl, rfl, sz _ (by rw [List.length_append]; show _ + 1 + List.length (cutN ts (some ((j + 1 : Nat) : Int)) none) ≤ 1000; omega), ?_⟩
    refine drop0 .refl (q _ ?_)
    rw [set_at e nc hw hj, e3]
    show some (T.tup (ts.set j t')) = some (T.tup (cutN ts none (some (j : Int)) ++ [t'] ++ cutN ts (some ((j + 1 : Nat) : Int)) none))
    rw [cut_set (List.getElem?_eq_some_iff.mp hu).1]
  ·have nc : ¬ (isPk k = true ∧ r = []) := fun x => d_strN c (c2.mpr x.1)
   and_intros
   obtain ⟨h1, h2⟩ := place_step (x := p) hs
   refine ⟨k, u, p, by rw [sk], hs, sx p (by simp), fun j hj => ?_, fun hj => ⟨Γ, .refl, qE (set_no (.inr ⟨nc, h2 hj⟩))⟩⟩
   obtain ⟨ts, k2, u2, rfl, hu, hw, hk⟩ := h1 j hj
   rw [e] at hk
   cases hk
   obtain ⟨ha, hg, hd2⟩ := stepW_ok kg hs hw
   and_intros
   refine t_ixN hu ?_
   and_intros
   refine ⟨k', u2, _, v, rfl, hg, by omega, ha, fun x hx => sx x (List.mem_cons_of_mem _ hx), fun t' e3 => ?_, fun e3 => ⟨Γ, .refl, qE (by rw [set_at e nc hw hj, e3]; rfl)⟩⟩
   and_intros
   have l1 := has_len hs kg
   have l2 := cutN_le ts none (some (j : Int))
   have l3 := cutN_le ts (some ((j + 1 : Nat) : Int)) none
   have sz : ∀ n : Nat, n ≤ 1000 → n ≤ sizeLine := fun n h => Nat.le_of_lt (small1000 h)
   refine ⟨_, _, rfl, rfl, sz _ (by show _ + 1 ≤ 1000; omega), ?_⟩
   and_intros
   refine ⟨_, _, rfl, rfl, sz _ (by rw [List.length_append]; show _ + 1 + List.length (cutN ts (some ((j + 1 : Nat) : Int)) none) ≤ 1000; omega), ?_⟩
   refine drop0 .refl (q _ ?_)
   rw [set_at e nc hw hj, e3]
   show some (T.tup (ts.set j t')) = some (T.tup (cutN ts none (some (j : Int)) ++ [t'] ++ cutN ts (some ((j + 1 : Nat) : Int)) none))
   rw [cut_set (List.getElem?_eq_some_iff.mp hu).1]
end
theorem sign_in : ∀ c : Nat, c < 128 → (!(Builtin.Str.occurrences signsS ⟨#[c]⟩ 0 signsS.length 1).isEmpty) = okc c := by
 decide +kernel
theorem all_rep (n : Nat) : (List.replicate n true).all id = true := by rw [List.all_replicate]; cases n <;> rfl
theorem cnt0 {m : Str} : ∀ {fs : List (Str × Kd)}, m ∉ fs.map (·.1) → (fs.filter fun p => decide (p.1 = m)).length = 0
 | [], _ => rfl
 | (n, k) :: fs, h => by
  rw [List.map_cons, List.mem_cons, not_or] at h
  rw [List.filter_cons_of_neg (by simpa using fun e => h.1 e.symm)]
  exact cnt0 h.2
theorem cnt1 {m : Str} : ∀ {fs : List (Str × Kd)} {j : Nat} {k : Kd}, (fs.map (·.1)).Nodup → fs[j]? = some (m, k) → (fs.filter fun p => decide (p.1 = m)).length = 1
 | [], _, _, _, h => by simp at h
 | (n, q) :: fs, j, k, nd, h => by
  rw [List.map_cons, List.nodup_cons] at nd
  cases j with
  | zero =>
   cases h
   rw [List.filter_cons_of_pos (by simp), List.length_cons, cnt0 nd.1]
  | succ j =>
   have h : fs[j]? = some (m, k) := by simpa using h
   have ne : n ≠ m := fun e => nd.1 (by show n ∈ _; rw [e]; exact List.mem_map.mpr ⟨(m, k), List.mem_of_getElem? h, rfl⟩)
   rw [List.filter_cons_of_neg (by simpa using ne)]
   exact cnt1 nd.2 h
theorem zipT_le : ∀ {as bs : List T}, as.length = bs.length → (zipT as bs).length = as.length
 | [], [], _ => rfl
 | a :: as, b :: bs, h => by rw [zipT, List.length_cons, zipT_le (by simpa using h), List.length_cons]
section
variable {P : Program} {w : World} {K : PySem.W.Frag} {mg : Str → Option Value} {base : Heap} {f : Addr} {fd : FuncData} {v1 v2 v3 : Value} {dN : Addr}
abbrev s_law_whole : Stmt := top 41
theorem sc_law_whole : FnScope ["thing"] ["thing"] (defScope s_law_whole) := ⟨rfl, rfl, rfl, by decide +kernel, rfl, by decide +kernel, by decide +kernel⟩
def spLw : Sp3 := fun ts Γ Z _ => ∃ i : Int, ts = [.int i] ∧ Z (.bl true) Γ
theorem ok_whole (F : Fun K "_law_whole" "_law_whole" s_law_whole f fd) (z_isinstance : mg "isinstance" = none) (z_int : mg "int" = none) (z_bool : mg "bool" = none) : FnOk P w K mg base CX0 1 f fd ["thing"] (liSp spLw) := by
 refine okd F sc_law_whole (fun ts Γ Z Y h => ?_) (fun cdv A outer s H E ts Γ Z Y hr h => ?_)
 ·obtain ⟨i, rfl, _⟩ := h
  rfl
 obtain ⟨i, rfl, q⟩ := h
 refine ⟨_, (qss_cons (qs_ret (qe_and (qe_inst rfl z_isinstance rfl z_int bt_int (qv 0)) (qe_one (qe_not (qe_inst rfl z_isinstance rfl z_bool bt_bool (qv 0))))))
  qss_nil), ?_⟩
 simp only [start3]
 and_intros
 refine ⟨_, true, rfl, rfl, ?_⟩
 and_intros
 refine ⟨_, false, rfl, rfl, ?_⟩
 and_intros
 exact drop0 .refl q
abbrev s_law_is_worth : Stmt := top 42
theorem sc_law_is_worth : FnScope ["kind", "thing", "half", "some"] ["kind", "thing"] (defScope s_law_is_worth) := ⟨rfl, rfl, rfl, by decide +kernel, rfl, by decide +kernel, by decide +kernel⟩
def spIw (n : Nat) : Sp3 := fun ts Γ Z _ => ∃ (k : Kd) (u : T), ts = [k.tr, u] ∧ k.good ∧ k.depth < n ∧ Has k u ∧ Z (.bl true) Γ
theorem ok_is_worth {n lv : Nat} (F : Fun K "_law_is_worth" "_law_is_worth" s_law_is_worth f fd) (c_law_whole : Cl3 P w K mg base "_law_whole" 1 ["thing"] spLw) (c_law_is_worth : Cl3 P w K mg base "_law_is_worth" (lv + 2) ["kind", "thing"] (spIw n)) (z_isinstance : mg "isinstance" = none) (z_str : mg "str" = none) (z_len : mg "len" = none) (z_all : mg "all" = none) (z_tuple : mg "tuple" = none) (z_zip : mg "zip" = none) : FnOk P w K mg base CX0 (lv + 2 + 1) f fd ["kind", "thing"] (liSp (spIw (n + 1))) := by
 refine okd F sc_law_is_worth (fun ts Γ Z Y h => ?_) (fun cdv A outer s H E ts Γ Z Y hr h => ?_)
 ·obtain ⟨k, u, rfl, _⟩ := h
  rfl
 obtain ⟨k, u, rfl, kg, kd, hs, q⟩ := h
 refine ⟨_, (qss_cons (qs_if (qt_cmpR oq_eq (qe_ix (qv 0) qe_int (fun _ _ => rfl)) qe_str (nomark _)) (qss_cons (qs_set (i := 2) sc_law_is_worth.nd rfl (Or.inl rfl) (qe_op oq_fdiv (qe_ix (qe_lst (qa_cons qe_int (qa_cons qe_int (qa_cons (qe_op oq_pow qe_int qe_int) (qa_cons (qe_op oq_pow qe_int qe_int) (qa_cons (qe_op oq_pow qe_int qe_int) qa_nil)))))) (qe_ix (qv 0) qe_int (fun _ _ => rfl)) (fun _ _ => rfl)) qe_int))
  (qss_cons (qs_ret (qe_and (qe_call c_law_whole hr (by omega) rfl (qa_cons (qv 1) qa_nil)) (qe_and (qe_cmpR oq_le (qe_op oq_sub qe_int (qv 2)) (qv 1) (nomark _)) (qe_one (qe_cmpR oq_lt (qv 1) (qv 2) (nomark _))))))
  qss_nil)) qss_nil)
  (qss_cons (qs_if (qt_cmpR oq_eq (qe_ix (qv 0) qe_int (fun _ _ => rfl)) qe_str (nomark _)) (qss_cons (qs_set (i := 3) sc_law_is_worth.nd rfl (Or.inr rfl) qe_str)
  (qss_cons (qs_ret (qe_and (qe_inst rfl z_isinstance rfl z_str bt_str (qv 1)) (qe_and (qe_cmpR oq_le (qe_callB cq_lens rfl z_len PySem.boot_len (qa_cons (qv 1) qa_nil)) qe_int (nomark _)) (qe_one (qe_callB (cq_all rfl) rfl z_all PyProof.Rows.boot_all (qa_cons (qe_comp (own := ["sign"]) (cap := [(3, "some")]) (compOkC rfl (by decide +kernel) (by decide +kernel) rfl (⟨rfl, trivial⟩) rfl (⟨⟨rfl, rfl, rfl⟩, trivial⟩)) rfl (qi_str (qv 1)) (fun _ _ _ _ => (qg_name (i := 0) (show List.Nodup (["sign", "some"] : List Str) from by decide +kernel) rfl (Or.inl rfl) (Or.inr rfl))) (fun _ _ _ _ => qts_nil) (fun _ _ _ _ => (qe_cmpR oq_ins (qv 0) (qv 1) (by with_unfolding_all rfl)))) qa_nil))))))
  qss_nil)) qss_nil)
  (qss_cons (qs_if (qt_not (qt_val (qe_inst rfl z_isinstance rfl z_tuple bt_tuple (qv 1)))) (qss_cons (qs_ret qe_bl)
  qss_nil) qss_nil)
  (qss_cons (qs_if (qt_cmpR oq_eq (qe_ix (qv 0) qe_int (fun _ _ => rfl)) qe_str (nomark _)) (qss_cons (qs_ret (qe_and (qe_cmpR oq_le (qe_callB cq_len rfl z_len PySem.boot_len (qa_cons (qv 1) qa_nil)) qe_int (nomark _)) (qe_one (qe_callB (cq_all rfl) rfl z_all PyProof.Rows.boot_all (qa_cons (qe_comp (own := ["one"]) (cap := [(0, "kind")]) (compOkC rfl (by decide +kernel) (by decide +kernel) rfl (⟨rfl, trivial⟩) rfl (⟨⟨rfl, rfl, rfl⟩, trivial⟩)) rfl (qi_tup (qv 1)) (fun _ _ _ _ => (qg_name (i := 0) (show List.Nodup (["one", "kind"] : List Str) from by decide +kernel) rfl (Or.inl rfl) (Or.inr rfl))) (fun _ _ _ _ => qts_nil) (fun _ _ _ _ => (qe_call c_law_is_worth hr (by omega) rfl (qa_cons (qe_ix (qv 1) qe_int (fun _ _ => rfl)) (qa_cons (qv 0) qa_nil))))) qa_nil)))))
  qss_nil) qss_nil)
  (qss_cons (qs_if (qt_cmpR oq_eq (qe_ix (qv 0) qe_int (fun _ _ => rfl)) qe_str (nomark _)) (qss_cons (qs_if (qt_cmpR oq_ne (qe_callB cq_len rfl z_len PySem.boot_len (qa_cons (qv 1) qa_nil)) (qe_callB cq_len rfl z_len PySem.boot_len (qa_cons (qe_ix (qv 0) qe_int (fun _ _ => rfl)) qa_nil)) (nomark _)) (qss_cons (qs_ret qe_bl)
  qss_nil) qss_nil)
  (qss_cons (qs_ret (qe_callB (cq_all rfl) rfl z_all PyProof.Rows.boot_all (qa_cons (qe_comp (own := ["field", "one"]) (cap := []) (compOk0 rfl (by decide +kernel) (by decide +kernel)) rfl (qi_zip rfl z_zip (qa_cons (qe_ix (qv 0) qe_int (fun _ _ => rfl)) (qa_cons (qv 1) qa_nil))) (fun _ _ _ _ => (qg_tup (n := 2) rfl (qgs_cons (qg_name (i := 0) (show List.Nodup (["field", "one"] : List Str) from by decide +kernel) rfl (Or.inl rfl) (Or.inr rfl)) (qgs_cons (qg_name (i := 1) (show List.Nodup (["field", "one"] : List Str) from by decide +kernel) rfl (Or.inl rfl) (Or.inr rfl)) qgs_nil)))) (fun _ _ _ _ => qts_nil) (fun _ _ _ _ => (qe_call c_law_is_worth hr (by omega) rfl (qa_cons (qe_ix (qv 0) qe_int (fun _ _ => rfl)) (qa_cons (qv 1) qa_nil))))) qa_nil)))
  qss_nil)) qss_nil)
  (qss_cons (qs_if (PW.pt (qw_or (qt_cmpR oq_ne (qe_callB cq_len rfl z_len PySem.boot_len (qa_cons (qv 1) qa_nil)) qe_int (nomark _)) (qw_or1 (qt_not (qt_val (qe_inst rfl z_isinstance rfl z_str bt_str (qe_ix (qv 1) qe_int (fun _ _ => rfl)))))))) (qss_cons (qs_ret qe_bl)
  qss_nil) qss_nil)
  (qss_cons (qs_ret (qe_cmpR (oq_eqLI hr.units0) (qe_comp (own := ["name", "below"]) (cap := [(1, "thing")]) (compOkC rfl (by decide +kernel) (by decide +kernel) rfl (⟨rfl, trivial⟩) rfl (⟨⟨rfl, rfl, rfl⟩, trivial⟩)) rfl (qi_tup (qe_ix (qv 0) qe_int (fun _ _ => rfl))) (fun _ _ _ _ => (qg_tup (n := 2) rfl (qgs_cons (qg_name (i := 0) (show List.Nodup (["name", "below", "thing"] : List Str) from by decide +kernel) rfl (Or.inl rfl) (Or.inr rfl)) (qgs_cons (qg_name (i := 1) (show List.Nodup (["name", "below", "thing"] : List Str) from by decide +kernel) rfl (Or.inl rfl) (Or.inr rfl)) qgs_nil)))) (fun _ _ _ _ => (qts_one (PW.pt (qw_and (qt_cmpR oq_eq (qv 0) (qe_ix (qv 2) qe_int (fun _ _ => rfl)) (nomark _)) (qw_and1 (qt_val (qe_call c_law_is_worth hr (by omega) rfl (qa_cons (qv 1) (qa_cons (qe_ix (qv 2) qe_int (fun _ _ => rfl)) qa_nil))))))))) (fun _ _ _ _ => qe_int)) (qe_lst (qa_cons qe_int qa_nil)) (nomark _)))
  qss_nil))))))), ?_⟩
 simp only [start3]
 cases hs with
 | @num w i l h =>
  rw [Kd.tr]
  and_intros
  unfold Kd.good at kg
  intro p hp
  have hw : w = 1 ∨ w = 2 ∨ w = 3 ∨ w = 4 := by omega
  rcases hw with rfl | rfl | rfl | rfl
  ·have e : (65536 : Int) ^ Int.toNat 1 = 65536 := by decide
   rw [e] at l h
   and_intros
   refine ⟨i, rfl, true, rfl, ?_⟩
   and_intros
   refine c_ifT (decide_eq_true (by skip; omega)) ?_
   and_intros
   rw [decide_eq_true (show i < _ by skip; omega)]
   exact drop0 (.new hp) q
  ·have e : (65536 : Int) ^ Int.toNat 2 = 4294967296 := by decide
   rw [e] at l h
   and_intros
   refine t_ixR up_same rfl ?_
   and_intros
   refine ⟨i, rfl, true, rfl, ?_⟩
   and_intros
   refine c_ifT (decide_eq_true (by rw [e]; omega)) ?_
   and_intros
   rw [decide_eq_true (show i < _ by rw [e]; omega)]
   exact drop0 (.new hp) q
  ·have e : (65536 : Int) ^ Int.toNat 3 = 281474976710656 := by decide
   rw [e] at l h
   and_intros
   refine t_ixR up_same rfl ?_
   and_intros
   refine ⟨i, rfl, true, rfl, ?_⟩
   and_intros
   refine c_ifT (decide_eq_true (by rw [e]; omega)) ?_
   and_intros
   rw [decide_eq_true (show i < _ by rw [e]; omega)]
   exact drop0 (.new hp) q
  ·have e : (65536 : Int) ^ Int.toNat 4 = 18446744073709551616 := by decide
   rw [e] at l h
   and_intros
   refine t_ixR up_same rfl ?_
   and_intros
   refine ⟨i, rfl, true, rfl, ?_⟩
   and_intros
   refine c_ifT (decide_eq_true (by rw [e]; omega)) ?_
   and_intros
   rw [decide_eq_true (show i < _ by rw [e]; omega)]
   exact drop0 (.new hp) q
 | @text z l h =>
  rw [Kd.tr]
  and_intros
  refine ⟨_, true, rfl, rfl, true, rfl, ?_⟩
  and_intros
  refine ⟨z, rfl, Nat.le_of_lt (small1000 (by omega)), ?_⟩
  and_intros
  refine c_ifT (decide_eq_true (by omega)) ?_
  and_intros
  refine ⟨?_, fun rest τ ys Γ' => ∃ (cs : List Nat) (o : Option T) (m : Nat), rest = cs.map (fun c => T.str ⟨#[c]⟩) ∧ τ = [o, some (.str signsS)] ∧ ys = (List.replicate m true).map T.bl ∧ Γ' = Γ ∧ cs.all okc = true, ⟨z.cps.toList, none, 0, rfl, rfl, rfl, rfl, h⟩, ?_, ?_⟩
  ·show (z.cps.toList.map _).length ≤ _
   rw [List.length_map]
   exact Nat.le_of_lt (small1000 (by show z.cps.size ≤ _; have : z.cps.size ≤ 60 := l; omega))
  ·rintro τ ys Γ' ⟨cs, o, m, er, rfl, rfl, rfl, _⟩
   refine ⟨trivial, fun D hD => ?_⟩
   and_intros
   refine ⟨D, List.replicate m true, rfl, it3_l up_same, ?_⟩
   rw [all_rep]
   and_intros
   exact drop0 (.new hD) q
  ·rintro x r τ ys Γ' ⟨cs, o, m, er, rfl, rfl, rfl, hc⟩
   cases cs with
   | nil => cases er
   | cons c cs =>
    cases er
    rw [List.all_cons, Bool.and_eq_true] at hc
    have c1 := hc.1
    have lt : c < 128 := by unfold okc at c1; simp at c1; omega
    refine ⟨trivial, ?_⟩
    and_intros
    refine ⟨_, _, rfl, rfl, ?_⟩
    rw [sign_in c lt, c1]
    exact ⟨cs, _, m + 1, rfl, rfl, by rw [List.replicate_succ', List.map_append]; rfl, rfl, hc.2⟩
 | @row k2 ts l hq =>
  rw [Kd.tr]
  and_intros
  refine ⟨_, true, rfl, rfl, true, rfl, ?_⟩
  and_intros
  refine c_ifT (decide_eq_true (by omega)) ?_
  and_intros
  refine ⟨Nat.le_of_lt (small1000 (by omega)), fun rest τ ys Γ' => ∃ (o : Option T) (m : Nat), τ = [o, some (.tup [.str "row", k2.tr])] ∧ ys = (List.replicate m true).map T.bl ∧ Γ' = Γ ∧ ∀ t ∈ rest, Has k2 t, ⟨none, 0, rfl, rfl, rfl, hq⟩, ?_, ?_⟩
  ·rintro τ ys Γ' ⟨o, m, rfl, rfl, rfl, _⟩
   refine ⟨trivial, fun D hD => ?_⟩
   and_intros
   refine ⟨D, List.replicate m true, rfl, it3_l up_same, ?_⟩
   rw [all_rep]
   and_intros
   exact drop0 (.new hD) q
  ·rintro x r τ ys Γ' ⟨o, m, rfl, rfl, rfl, hc⟩
   unfold Kd.good at kg
   rw [Kd.depth] at kd
   refine ⟨trivial, ?_⟩
   and_intros
   refine ⟨k2, x, rfl, kg, by omega, hc x (by simp), ?_⟩
   exact ⟨_, m + 1, rfl, by rw [List.replicate_succ', List.map_append]; rfl, rfl, fun t ht => hc t (by simp [ht])⟩
 | @rec_ fs ts l hq =>
  rw [Kd.tr]
  and_intros
  refine ⟨_, true, rfl, rfl, true, rfl, ?_⟩
  and_intros
  rw [trF_len, l]
  refine c_ifF (by rw [decide_eq_true rfl]; rfl) ?_
  and_intros
  unfold Kd.good at kg
  rw [Kd.depth] at kd
  refine ⟨Nat.le_of_lt (small1000 (by rw [zipT_le (by rw [trF_len]; omega), trF_len]; omega)), fun rest τ ys Γ' => ∃ (gs : List (Str × Kd)) (us : List T) (o0 o1 : Option T) (m : Nat), rest = zipT (trF gs) us ∧ τ = [o0, o1] ∧ ys = (List.replicate m true).map T.bl ∧ Γ' = Γ ∧ (∀ p ∈ gs, p.2.good ∧ p.2.depth < n) ∧ (∀ (j : Nat) (nm : Str) (k : Kd) (t : T), gs[j]? = some (nm, k) → us[j]? = some t → Has k t), ⟨fs, ts, none, none, 0, rfl, rfl, rfl, rfl, fun p hp => ⟨goodF_mem kg.1 hp, by have := depthF_le hp; omega⟩, hq⟩, ?_, ?_⟩
  ·rintro τ ys Γ' ⟨gs, us, o0, o1, m, er, rfl, rfl, rfl, _, _⟩
   refine ⟨trivial, fun D hD => ?_⟩
   and_intros
   refine ⟨D, List.replicate m true, rfl, it3_l up_same, ?_⟩
   rw [all_rep]
   and_intros
   exact drop0 (.new hD) q
  ·rintro x r τ ys Γ' ⟨gs, us, o0, o1, m, er, rfl, rfl, rfl, hg, hc⟩
   cases gs with
   | nil => simp [trF, zipT] at er
   | cons p gs =>
    obtain ⟨nm, k⟩ := p
    cases us with
    | nil => simp [trF, zipT] at er
    | cons u us =>
     rw [trF, zipT] at er
     cases er
     refine ⟨trivial, ?_⟩
     and_intros
     have hk := hg (nm, k) (by simp)
     refine ⟨k, u, rfl, hk.1, hk.2, hc 0 nm k u rfl rfl, ?_⟩
     exact ⟨gs, us, _, _, m + 1, rfl, rfl, by rw [List.replicate_succ', List.map_append]; rfl, rfl, fun p hp => hg p (by simp [hp]), fun j nm' k' t' a b => hc (j + 1) nm' k' t' a b⟩
 | @pick fs m k2 j t f2 hq =>
  rw [Kd.tr]
  and_intros
  refine ⟨_, true, rfl, rfl, true, rfl, ?_⟩
  and_intros
  refine ⟨_, true, rfl, rfl, true, rfl, ?_⟩
  and_intros
  unfold Kd.good at kg
  rw [Kd.depth] at kd
  refine ⟨by rw [trF_len]; exact Nat.le_of_lt (small1000 (by omega)), fun rest τ ys Γ' => ∃ (gs hs : List (Str × Kd)) (o0 o1 : Option T), τ = [o0, o1, some (.tup [.str m, t])] ∧ rest = trF gs ∧ fs = hs ++ gs ∧ ys = List.replicate (hs.filter fun p => decide (p.1 = m)).length (T.int 1) ∧ Γ' = Γ, ⟨fs, [], none, none, rfl, rfl, rfl, rfl, rfl⟩, ?_, ?_⟩
  ·rintro τ ys Γ' ⟨gs, hs, o0, o1, rfl, er, ef, rfl, rfl⟩
   cases gs with
   | cons p gs => obtain ⟨nm, k⟩ := p; rw [trF] at er; cases er
   | nil =>
    rw [List.append_nil] at ef
    subst ef
    refine ⟨trivial, fun D hD => ?_⟩
    rw [cnt1 kg.2.2.2 (findF_mem f2)]
    and_intros
    intro p hp
    and_intros
    refine ⟨D, p, [1], [1], rfl, rfl, by rw [up_ne (gnn up_same hp)]; exact up_same, up_same, ?_⟩
    exact drop0 (.trans (.new hD) (.new hp)) q
  ·rintro x r τ ys Γ' ⟨gs, hs, o0, o1, rfl, er, ef, rfl, rfl⟩
   cases gs with
   | nil => rw [trF] at er; cases er
   | cons p gs =>
    obtain ⟨nm, k⟩ := p
    rw [trF] at er
    cases er
    have mem : (nm, k) ∈ fs := by rw [ef]; simp
    refine ⟨trivial, ?_⟩
    and_intros
    refine c_if (fun c => ?_) (fun c => ?_)
    ·have ec := d_str c
     have := pick_one kg.2.2.2 f2 mem ec
     subst this
     and_intros
     refine ⟨k, t, rfl, goodF_mem kg.1 mem, by have : k.depth ≤ depthF fs := depthF_le mem; omega, hq, true, rfl, ?_⟩
     and_intros
     refine ⟨gs, hs ++ [(nm, k)], _, _, rfl, rfl, by rw [ef, List.append_assoc]; rfl, ?_, rfl⟩
     rw [List.filter_append, List.length_append, List.filter_cons_of_pos (by simpa using ec)]
     exact (List.replicate_succ' ..).symm
    ·have nc := d_strN c
     and_intros
     refine ⟨gs, hs ++ [(nm, k)], _, _, rfl, rfl, by rw [ef, List.append_assoc]; rfl, ?_, rfl⟩
     rw [List.filter_append, List.length_append, List.filter_cons_of_neg (by simpa using nc)]
     rfl
end
section
variable {P : Program} {w : World} {K : PySem.W.Frag} {mg : Str → Option Value} {base : Heap} {f : Addr} {fd : FuncData} {v1 v2 v3 : Value} {dN : Addr}
abbrev s_law_holds : Stmt := top 43
theorem sc_law_holds : FnScope ["kind", "worth", "path", "found", "at", "name", "below"] ["kind", "worth", "path"] (defScope s_law_holds) := ⟨rfl, rfl, rfl, by decide +kernel, rfl, by decide +kernel, by decide +kernel⟩
def spHo (n : Nat) : Sp3 := fun ts Γ Z _ => ∃ (k : Kd) (u : T) (pre : List T), ts = [k.tr, u, .tup pre] ∧ k.good ∧ k.depth < n ∧ pre.length + k.depth ≤ 100 ∧ Has k u ∧ tsz u ≤ sizeLine ∧ ∀ p, Γ p = none → Z (.ref p) (up Γ p (.lst (holdsW k u pre)))
theorem ok_holds {n lv : Nat} (F : Fun K "_law_holds" "_law_holds" s_law_holds f fd) (c_law_holds : Cl3 P w K mg base "_law_holds" (lv + 2) ["kind", "worth", "path"] (spHo n)) (z_len : mg "len" = none) (z_range : mg "range" = none) : FnOk P w K mg base CX0 (lv + 2 + 1) f fd ["kind", "worth", "path"] (liSp (spHo (n + 1))) := by
 refine okd F sc_law_holds (fun ts Γ Z Y h => ?_) (fun cdv A outer s H E ts Γ Z Y hr h => ?_)
 ·obtain ⟨k, u, pre, rfl, _⟩ := h
  rfl
 obtain ⟨k, u, pre, rfl, kg, kd, kl, hs, hz, q⟩ := h
 refine ⟨_, (qss_cons (qs_if (PW.pt (qw_or (qt_cmpR oq_eq (qe_ix (qv 0) qe_int (fun _ _ => rfl)) qe_str (nomark _)) (qw_or1 (qt_cmpR oq_eq (qe_ix (qv 0) qe_int (fun _ _ => rfl)) qe_str (nomark _))))) (qss_cons (qs_ret (qe_lst (qa_cons (qe_tup (qa_cons (qv 2) (qa_cons (qv 1) qa_nil))) qa_nil)))
  qss_nil) qss_nil)
  (qss_cons (qs_set (i := 3) sc_law_holds.nd rfl (Or.inl rfl) (qe_lst qa_nil))
  (qss_cons (qs_if (qt_cmpR oq_eq (qe_ix (qv 0) qe_int (fun _ _ => rfl)) qe_str (nomark _)) (qss_cons (qs_expr (qe_bm PySem.F.plainAttrs_list PySem.F.slot_list_append PySem.F.type_list_append mq_append (qv 3) (qa_cons (qe_tup (qa_cons (qv 2) (qa_cons (qe_callB cq_len rfl z_len PySem.boot_len (qa_cons (qv 1) qa_nil)) qa_nil))) qa_nil)))
  (qss_cons (qs_for PassesOwn.never rfl (qi_range1 rfl z_range (qa_cons (qe_callB cq_len rfl z_len PySem.boot_len (qa_cons (qv 1) qa_nil)) qa_nil)) (qg_name (i := 4) sc_law_holds.nd rfl (Or.inl rfl)) (qss_cons (qs_expr (qe_bm PySem.F.plainAttrs_list PySem.F.slot_list_extend PySem.F.type_list_extend mq_extend (qv 3) (qa_cons (qe_call c_law_holds hr (by omega) rfl (qa_cons (qe_ix (qv 0) qe_int (fun _ _ => rfl)) (qa_cons (qe_ix (qv 1) (qv 4) (fun _ _ => rfl)) (qa_cons (qe_op oq_cat (qv 2) (qe_tup (qa_cons (qv 4) qa_nil))) qa_nil)))) qa_nil)))
  qss_nil))
  (qss_cons (qs_ret (qv 3))
  qss_nil))) qss_nil)
  (qss_cons (qs_cut (qs_if (qt_cmpR oq_eq (qe_ix (qv 0) qe_int (fun _ _ => rfl)) qe_str (nomark _)) (qss_cons (qs_expr (qe_bm PySem.F.plainAttrs_list PySem.F.slot_list_append PySem.F.type_list_append mq_append (qv 3) (qa_cons (qe_tup (qa_cons (qv 2) (qa_cons (qe_ix (qv 1) qe_int (fun _ _ => rfl)) qa_nil))) qa_nil)))
  qss_nil) qss_nil))
  (qss_cons (qs_for PassesOwn.never rfl (qi_range1 rfl z_range (qa_cons (qe_callB cq_len rfl z_len PySem.boot_len (qa_cons (qe_ix (qv 0) qe_int (fun _ _ => rfl)) qa_nil)) qa_nil)) (qg_name (i := 4) sc_law_holds.nd rfl (Or.inl rfl)) (qss_cons (qs_asg (qe_ix (qe_ix (qv 0) qe_int (fun _ _ => rfl)) (qv 4) (fun _ _ => rfl)) (qg_tup (n := 2) rfl (qgs_cons (qg_name (i := 5) sc_law_holds.nd rfl (Or.inl rfl)) (qgs_cons (qg_name (i := 6) sc_law_holds.nd rfl (Or.inl rfl)) qgs_nil))))
  (qss_cons (qs_cut (qs_if (qt_cmpR oq_eq (qe_ix (qv 0) qe_int (fun _ _ => rfl)) qe_str (nomark _)) (qss_cons (qs_expr (qe_bm PySem.F.plainAttrs_list PySem.F.slot_list_extend PySem.F.type_list_extend mq_extend (qv 3) (qa_cons (qe_call c_law_holds hr (by omega) rfl (qa_cons (qv 6) (qa_cons (qe_ix (qv 1) (qv 4) (fun _ _ => rfl)) (qa_cons (qe_op oq_cat (qv 2) (qe_tup (qa_cons (qv 5) qa_nil))) qa_nil)))) qa_nil)))
  qss_nil) (qss_cons (qs_cut (qs_if (qt_cmpR oq_eq (qv 5) (qe_ix (qv 1) qe_int (fun _ _ => rfl)) (nomark _)) (qss_cons (qs_expr (qe_bm PySem.F.plainAttrs_list PySem.F.slot_list_extend PySem.F.type_list_extend mq_extend (qv 3) (qa_cons (qe_call c_law_holds hr (by omega) rfl (qa_cons (qv 6) (qa_cons (qe_ix (qv 1) qe_int (fun _ _ => rfl)) (qa_cons (qe_op oq_cat (qv 2) (qe_tup (qa_cons (qv 5) qa_nil))) qa_nil)))) qa_nil)))
  qss_nil) qss_nil))
  qss_nil)))
  qss_nil)))
  (qss_cons (qs_ret (qv 3))
  qss_nil)))))), ?_⟩
 simp only [start3]
 cases hs with
 | @num w i l h =>
  rw [Kd.tr]
  and_intros
  intro p hp
  and_intros
  exact ⟨_, .refl, q p hp⟩
 | @text z l h =>
  rw [Kd.tr]
  and_intros
  intro p hp
  and_intros
  exact ⟨_, .refl, q p hp⟩
 | @row k2 ts l hq =>
  rw [Kd.tr]
  and_intros
  intro D hD
  and_intros
  refine t_tyL up_same ?_
  and_intros
  refine ⟨D, [], _, rfl, rfl, up_same, by decide, ?_⟩
  and_intros
  unfold Kd.good at kg
  rw [Kd.depth] at kd kl
  rw [tsz] at hz
  have hb : ∀ t ∈ ts, ∀ q, (holdsW k2 t q).length ≤ tsz t := fun t ht q => holds_len (hq t ht) kg q
  refine ⟨ts.length, rfl, by omega, by omega, ?_⟩
  refine ⟨fun rest τ Γ' => ∃ (xs ys : List T) (o4 o5 o6 : Option T), ts = xs ++ ys ∧ rest = rngT xs.length ys.length ∧ τ = [some (.tup [.str "row", k2.tr]), some (.tup ts), some (.tup pre), some (.ref D), o4, o5, o6] ∧ Γ' D = some (.lst (.tup [.tup pre, .int ts.length] :: rowsR (fun t q => holdsW k2 t q) 0 xs pre)) ∧ Kq [D] Γ Γ', ?_, ?_, ?_⟩
  ·exact ⟨[], ts, none, none, none, rfl, rfl, rfl, up_same, (Kq.new hD _).trans (.set (by simp) _)⟩
  ·rintro τ Γ' ⟨xs, ys, o4, o5, o6, et, er, rfl, g, kq⟩
   have hy : ys = [] := by cases ys with | nil => rfl | cons _ _ => cases er
   subst hy
   rw [List.append_nil] at et
   subst et
   refine ⟨trivial, ?_⟩
   and_intros
   refine dropL1 kq g ?_
   have := q D hD
   rw [holdsW] at this
   exact this
  ·rintro x r τ Γ' ⟨xs, ys, o4, o5, o6, et, er, rfl, g, kq⟩
   obtain ⟨c', e1, rfl, rfl⟩ := rngT_cons er
   cases ys with
   | nil => cases e1
   | cons y ys =>
    cases e1
    have hy : y ∈ ts := by rw [et]; simp
    have zt : tsz y ≤ tszs ts := by rw [et, tszs_app, tszs]; omega
    refine ⟨trivial, ?_⟩
    and_intros
    refine t_tyL g ?_
    and_intros
    refine t_ixN (t := y) (by rw [et]; simp) ?_
    and_intros
    refine t_cat (Nat.le_of_lt (small1000 (by show pre.length + 1 ≤ 1000; omega))) ?_
    and_intros
    refine ⟨k2, y, _, rfl, kg, by omega, by rw [List.length_append]; show pre.length + 1 + _ ≤ 100; omega, hq y hy, by omega, fun p hp => ?_⟩
    have ne : D ≠ p := fun e => by rw [← e, g] at hp; cases hp
    and_intros
    refine ⟨D, p, _, _, rfl, rfl, by rw [up_ne ne]; exact g, up_same, ?_, ?_⟩
    ·have h1 := rowsR_len (f := fun t q => holdsW k2 t q) (pre := pre) (i := 0) (xs := xs) (fun t ht q => hb t (by rw [et]; simp [ht]) q)
     have h2 := hb y hy (pre ++ [.int (xs.length : Nat)])
     rw [et, tszs_app, tszs] at hz
     rw [List.length_cons]
     omega
    and_intros
    refine ⟨xs ++ [y], ys, _, _, _, by rw [et]; simp, by rw [List.length_append]; rfl, rfl, ?_, (kq.trans (.new hp _)).trans (.set (by simp) _)⟩
    rw [up_same, rowsR_app, Nat.zero_add, List.cons_append]
    show _ = some (O.lst (_ :: (_ ++ (holdsW k2 y _ ++ []))))
    rw [List.append_nil]
 | @rec_ fs ts l hq =>
  rw [Kd.tr]
  and_intros
  intro D hD
  and_intros
  refine nocut ?_
  and_intros
  unfold Kd.good at kg
  rw [Kd.depth] at kd kl
  rw [tsz] at hz
  have hb : ∀ (j : Nat) (nm : Str) (k : Kd) (t : T), fs[j]? = some (nm, k) → ts[j]? = some t → ∀ q, (holdsW k t q).length ≤ tsz t := fun j nm k t a b q => holds_len (hq j nm k t a b) (goodF_mem kg.1 (List.mem_of_getElem? a)) q
  rw [trF_len]
  refine ⟨fs.length, rfl, by omega, by omega, ?_⟩
  refine ⟨fun rest τ Γ' => ∃ (gs hs : List (Str × Kd)) (xs ys : List T) (o4 o5 o6 : Option T), fs = gs ++ hs ∧ ts = xs ++ ys ∧ gs.length = xs.length ∧ rest = rngT gs.length hs.length ∧ τ = [some (.tup [.str "rec", .tup (trF fs)]), some (.tup ts), some (.tup pre), some (.ref D), o4, o5, o6] ∧ Γ' D = some (.lst (holdsF gs xs pre)) ∧ Kq [D] Γ Γ', ?_, ?_, ?_⟩
  ·exact ⟨[], fs, [], ts, none, none, none, rfl, rfl, rfl, rfl, rfl, by rw [holdsF]; exact up_same, Kq.new hD _⟩
  ·rintro τ Γ' ⟨gs, hs, xs, ys, o4, o5, o6, ef, et, el, er, rfl, g, kq⟩
   have hy : hs = [] := by cases hs with | nil => rfl | cons _ _ => cases er
   subst hy
   rw [List.append_nil] at ef
   subst ef
   have hy : ys = [] := by rw [et, List.length_append] at l; exact List.eq_nil_of_length_eq_zero (by omega)
   subst hy
   rw [List.append_nil] at et
   subst et
   refine ⟨trivial, ?_⟩
   and_intros
   refine dropL1 kq g ?_
   have := q D hD
   rw [holdsW] at this
   exact this
  ·rintro x r τ Γ' ⟨gs, hs, xs, ys, o4, o5, o6, ef, et, el, er, rfl, g, kq⟩
   obtain ⟨c', e1, rfl, rfl⟩ := rngT_cons er
   cases hs with
   | nil => cases e1
   | cons p hs =>
    obtain ⟨nm, k⟩ := p
    cases e1
    cases ys with
    | nil => rw [et, ef, List.length_append, List.length_append, List.length_cons] at l; simp at l; omega
    | cons y ys =>
     have gf : fs[gs.length]? = some (nm, k) := by rw [ef]; simp
     have gt : ts[gs.length]? = some y := by rw [et, el]; simp
     have mem := List.mem_of_getElem? gf
     have dk : k.depth ≤ depthF fs := depthF_le mem
     have zt : tsz y ≤ tszs ts := by rw [et, tszs_app, tszs]; omega
     refine ⟨trivial, ?_⟩
     and_intros
     refine t_ixN (trF_get gf) ?_
     and_intros
     refine nocut ?_
     and_intros
     refine t_tyL g ?_
     and_intros
     refine t_ixN gt ?_
     and_intros
     refine t_cat (Nat.le_of_lt (small1000 (by show pre.length + 1 ≤ 1000; omega))) ?_
     and_intros
     refine ⟨k, y, _, rfl, goodF_mem kg.1 mem, by omega, by rw [List.length_append]; show pre.length + 1 + _ ≤ 100; omega, hq _ _ _ _ gf gt, by omega, fun p hp => ?_⟩
     have ne : D ≠ p := fun e => by rw [← e, g] at hp; cases hp
     and_intros
     refine ⟨D, p, _, _, rfl, rfl, by rw [up_ne ne]; exact g, up_same, ?_, ?_⟩
     ·have h1 := holdsF_len (pre := pre) (fs := gs) (ts := xs) (fun j n' k' t' a b => hb j n' k' t' (by rw [ef, List.getElem?_append_left (List.getElem?_eq_some_iff.mp a).1]; exact a) (by rw [et, List.getElem?_append_left (List.getElem?_eq_some_iff.mp b).1]; exact b))
      have h2 := hb _ _ _ _ gf gt (pre ++ [.str nm])
      rw [et, tszs_app, tszs] at hz
      omega
     and_intros
     refine ⟨gs ++ [(nm, k)], hs, xs ++ [y], ys, _, _, _, by rw [ef]; simp, by rw [et]; simp, by rw [List.length_append, List.length_append, el]; rfl, by rw [List.length_append]; rfl, rfl, ?_, (kq.trans (.new hp _)).trans (.set (by simp) _)⟩
     rw [up_same, holdsF_app el, holdsF, holdsF, List.append_nil]
 | @pick fs m k2 j t f2 hq =>
  rw [Kd.tr]
  and_intros
  intro D hD
  and_intros
  unfold Kd.good at kg
  rw [Kd.depth] at kd kl
  rw [tsz, tszs, tszs, tszs] at hz
  have sp := tsz_pos (T.str m)
  refine nocut ?_
  and_intros
  refine t_tyL up_same ?_
  and_intros
  refine ⟨D, [], _, rfl, rfl, up_same, by decide, ?_⟩
  and_intros
  rw [trF_len]
  refine ⟨fs.length, rfl, by omega, by omega, ?_⟩
  refine ⟨fun rest τ Γ' => ∃ (gs hs : List (Str × Kd)) (o4 o5 o6 : Option T), fs = gs ++ hs ∧ rest = rngT gs.length hs.length ∧ τ = [some (.tup [.str "pick", .tup (trF fs)]), some (.tup [.str m, t]), some (.tup pre), some (.ref D), o4, o5, o6] ∧ Γ' D = some (.lst (.tup [.tup pre, .str m] :: holdsP gs m t pre)) ∧ Kq [D] Γ Γ', ?_, ?_, ?_⟩
  ·exact ⟨[], fs, none, none, none, rfl, rfl, rfl, by rw [holdsP]; exact up_same, (Kq.new hD _).trans (.set (by simp) _)⟩
  ·rintro τ Γ' ⟨gs, hs, o4, o5, o6, ef, er, rfl, g, kq⟩
   have hy : hs = [] := by cases hs with | nil => rfl | cons _ _ => cases er
   subst hy
   rw [List.append_nil] at ef
   subst ef
   refine ⟨trivial, ?_⟩
   and_intros
   refine dropL1 kq g ?_
   have := q D hD
   rw [holdsW] at this
   exact this
  ·rintro x r τ Γ' ⟨gs, hs, o4, o5, o6, ef, er, rfl, g, kq⟩
   obtain ⟨c', e1, rfl, rfl⟩ := rngT_cons er
   cases hs with
   | nil => cases e1
   | cons p hs =>
    obtain ⟨nm, k⟩ := p
    cases e1
    have gf : fs[gs.length]? = some (nm, k) := by rw [ef]; simp
    have mem := List.mem_of_getElem? gf
    have dk : k.depth ≤ depthF fs := depthF_le mem
    refine ⟨trivial, ?_⟩
    and_intros
    refine t_ixN (trF_get gf) ?_
    and_intros
    refine nocut ?_
    and_intros
    refine nocut ?_
    and_intros
    refine c_if (fun c => ?_) (fun c => ?_)
    ·have ec := d_str c
     have ek := pick_one kg.2.2.2 f2 mem ec
     subst ek
     subst ec
     and_intros
     refine t_tyL g ?_
     and_intros
     refine t_cat (Nat.le_of_lt (small1000 (by show pre.length + 1 ≤ 1000; omega))) ?_
     and_intros
     refine ⟨k, t, _, rfl, goodF_mem kg.1 mem, by omega, by rw [List.length_append]; show pre.length + 1 + _ ≤ 100; omega, hq, by omega, fun p hp => ?_⟩
     have ne : D ≠ p := fun e => by rw [← e, g] at hp; cases hp
     have nd := kg.2.2.2
     rw [ef, List.map_append, List.map_cons, List.nodup_append] at nd
     have no : nm ∉ gs.map (·.1) := fun h => nd.2.2 nm h nm (by simp) rfl
     rw [holdsP_none no] at g
     and_intros
     refine ⟨D, p, _, _, rfl, rfl, by rw [up_ne ne]; exact g, up_same, ?_, ?_⟩
     ·have h2 := holds_len hq (goodF_mem kg.1 mem) (pre ++ [.str nm])
      show 1 + _ ≤ _
      omega
     and_intros
     refine ⟨gs ++ [(nm, k)], hs, _, _, _, by rw [ef]; simp, by rw [List.length_append]; rfl, rfl, ?_, (kq.trans (.new hp _)).trans (.set (by simp) _)⟩
     rw [up_same, holdsP_app, holdsP_none no, holdsP, holdsP, if_pos rfl, List.append_nil]
     rfl
    ·have nc := d_strN c
     and_intros
     refine ⟨gs ++ [(nm, k)], hs, _, _, _, by rw [ef]; simp, by rw [List.length_append]; rfl, rfl, ?_, kq⟩
     rw [holdsP_app, holdsP, holdsP, if_neg nc, List.append_nil, List.append_nil]
     exact g
end
section
variable {P : Program} {w : World} {K : PySem.W.Frag} {mg : Str → Option Value} {base : Heap} {f : Addr} {fd : FuncData} {v1 v2 v3 : Value} {dN : Addr}
abbrev s_law_beyond : Stmt := top 44
theorem sc_law_beyond : FnScope ["kind", "worth", "cut"] ["kind", "worth", "cut"] (defScope s_law_beyond) := ⟨rfl, rfl, rfl, by decide +kernel, rfl, by decide +kernel, by decide +kernel⟩
def spBy : Sp3 := fun ts Γ Z _ => ∃ (k : Kd) (u : T) (c : List T), ts = [k.tr, u, .tup c] ∧ k.good ∧ k.depth ≤ 5 ∧ (∀ p ∈ c, Sx p) ∧ Has k u ∧ ∀ p, Γ p = none → Z (.ref p) (up Γ p (.lst ((holdsW k u []).filter (byB c))))
theorem ok_beyond (F : Fun K "_law_beyond" "_law_beyond" s_law_beyond f fd) (c_law_holds : Cl3 P w K mg base "_law_holds" 8 ["kind", "worth", "path"] (spHo 6)) (z_len : mg "len" = none) : FnOk P w K mg base CX0 9 f fd ["kind", "worth", "cut"] (liSp spBy) := by
 refine okd F sc_law_beyond (fun ts Γ Z Y h => ?_) (fun cdv A outer s H E ts Γ Z Y hr h => ?_)
 ·obtain ⟨k, u, c, rfl, _⟩ := h
  rfl
 obtain ⟨k, u, c, rfl, kg, kd, cs, hs, q⟩ := h
 refine ⟨_, (qss_cons (qs_ret (qe_comp (own := ["row"]) (cap := [(2, "cut")]) (compOkC rfl (by decide +kernel) (by decide +kernel) rfl (⟨rfl, trivial⟩) rfl (⟨⟨rfl, rfl, rfl⟩, trivial⟩)) rfl (qi_list (qe_call c_law_holds hr (by omega) rfl (qa_cons (qv 0) (qa_cons (qv 1) (qa_cons (qe_tup qa_nil) qa_nil))))) (fun _ _ _ _ => (qg_name (i := 0) (show List.Nodup (["row", "cut"] : List Str) from by decide +kernel) rfl (Or.inl rfl) (Or.inr rfl))) (fun _ _ _ _ => (qts_one (qt_cmpR (oq_neT hr.units0) (qe_slice sq_tup (qe_ix (qv 0) qe_int (fun _ _ => rfl)) qo_none (qo_some (qe_callB cq_len rfl z_len PySem.boot_len (qa_cons (qv 1) qa_nil)))) (qv 1) (nomark _)))) (fun _ _ _ _ => (qv 0))))
  qss_nil), ?_⟩
 simp only [start3]
 and_intros
 have hl := has_line hs kg kd
 refine ⟨k, u, [], rfl, kg, by omega, by show 0 + _ ≤ 100; omega, hs, hl, fun p hp => ?_⟩
 refine ⟨p, _, rfl, it3_l up_same, Nat.le_trans (holds_len hs kg []) hl, ?_⟩
 refine ⟨fun rest τ ys Γ' => ∃ (done : List T) (o : Option T), τ = [o, some (.tup c)] ∧ holdsW k u [] = done ++ rest ∧ ys = done.filter (byB c) ∧ Γ' = up Γ p (.lst (holdsW k u [])), ⟨[], none, rfl, rfl, rfl, rfl⟩, ?_, ?_⟩
 ·rintro τ ys Γ' ⟨done, o, rfl, e, rfl, rfl⟩
  refine ⟨it3_l up_same, fun D hD => ?_⟩
  rw [List.append_nil] at e
  rw [← e]
  exact dropN (.new hp) hD q
 ·rintro x r τ ys Γ' ⟨done, o, rfl, e, rfl, rfl⟩
  obtain ⟨qq, y, rfl, sq, sy⟩ := holds_q hs kg [] (fun _ h => nomatch h) x (by rw [e]; simp)
  refine ⟨it3_l up_same, ?_⟩
  and_intros
  have ct : cutN qq none (some (c.length : Int)) = qq.take c.length := by rw [cut_take (by omega), Int.toNat_natCast]
  rw [ct]
  have st : ∀ p ∈ qq.take c.length, Sx p := fun p hp => sq p (List.mem_of_mem_take hp)
  refine ⟨_, _, _, _, rfl, rfl, (sx_scs st).1, (sx_scs cs).1, (sx_scs st).2, (sx_scs cs).2, ?_⟩
  and_intros
  refine c_if (fun b => ?_) (fun b => ?_)
  ·and_intros
   refine ⟨done ++ [.tup [.tup qq, y]], _, rfl, by rw [e]; simp, ?_, rfl⟩
   rw [List.filter_append, List.filter_cons_of_pos (by exact b)]
   rfl
  ·refine ⟨done ++ [.tup [.tup qq, y]], _, rfl, by rw [e]; simp, ?_, rfl⟩
   rw [List.filter_append, List.filter_cons_of_neg (by rw [show byB c (.tup [.tup qq, y]) = false from b]; decide)]
   exact (List.append_nil _).symm
end
section
variable {P : Program} {w : World} {K : PySem.W.Frag} {mg : Str → Option Value} {base : Heap} {f : Addr} {fd : FuncData} {v1 v2 v3 : Value} {dN dG dF : Addr}
abbrev s_part_of : Stmt := top 21
theorem sc_part_of : FnScope ["kind", "worth", "path", "inner", "found", "step"] ["kind", "worth", "path"] (defScope s_part_of) := ⟨rfl, rfl, rfl, by decide +kernel, rfl, by decide +kernel, by decide +kernel⟩
def spPO (D : Addr) : Sp3 := fun ts Γ Z Y => ∃ (k : Kd) (u : T) (ps : List T), ts = [k.tr, u, .tup ps] ∧ k.good ∧ Has k u ∧ (∀ p ∈ ps, Sx p) ∧ (∀ k' u', partW k u ps = some (k', u') → Z u' Γ) ∧ (partW k u ps = none → Y (.ref D) Γ)
theorem ok_part_of (F : Fun K "part_of" "part_of" s_part_of f fd) (c_part_place : Clx P w K mg base "part_place" 3 ["kind", "worth", "step"] (spPP dN)) (c_step_kind : Clx P w K mg base "step_kind" 2 ["kind", "step"] (spSt dN)) : FnOk P w K mg base (CXe P w) 4 f fd ["kind", "worth", "path"] (liSp (spPO dN)) := by
 refine okdX F sc_part_of (fun ts Γ Z Y h => ?_) (fun cdv A outer s H E ts Γ Z Y hr h => ?_)
 ·obtain ⟨k, u, ps, rfl, _⟩ := h
  rfl
 obtain ⟨k, u, ps, rfl, kg, hs, hp, q, qE⟩ := h
 refine ⟨_, (qss_cons (qs_set (i := 3) sc_part_of.nd rfl (Or.inl rfl) (qv 0))
  (qss_cons (qs_set (i := 4) sc_part_of.nd rfl (Or.inl rfl) (qv 1))
  (qss_cons (qs_for own_def rfl (qi_tup (qv 2)) (qg_name (i := 5) sc_part_of.nd rfl (Or.inl rfl)) (qss_cons (qs_set (i := 4) sc_part_of.nd rfl (Or.inl rfl) (qe_ix (qv 4) (qe_callX c_part_place hr (by omega) rfl pass_def (qa_cons (qv 3) (qa_cons (qv 4) (qa_cons (qv 5) qa_nil)))) (fun _ _ => rfl)))
  (qss_cons (qs_set (i := 3) sc_part_of.nd rfl (Or.inl rfl) (qe_callX c_step_kind hr (by omega) rfl pass_def (qa_cons (qv 3) (qa_cons (qv 5) qa_nil))))
  qss_nil)))
  (qss_cons (qs_ret (qv 4))
  qss_nil)))), ?_⟩
 simp only [start3]
 and_intros
 refine ⟨fun rest τ Γ' => ∃ (k' : Kd) (u' : T) (o5 : Option T), τ = [some k.tr, some u, some (.tup ps), some k'.tr, some u', o5] ∧ Γ' = Γ ∧ k'.good ∧ Has k' u' ∧ (∀ p ∈ rest, Sx p) ∧ partW k u ps = partW k' u' rest, ?_, ?_, ?_⟩
 ·exact ⟨k, u, none, rfl, rfl, kg, hs, hp, rfl⟩
 ·rintro τ Γ' ⟨k', u', o5, rfl, rfl, kg', hs', hp', e⟩
  refine ⟨trivial, ?_⟩
  and_intros
  exact drop0 .refl (q k' u' e)
 ·rintro x r τ Γ' ⟨k', u', o5, rfl, rfl, kg', hs', hp', e⟩
  and_intros
  obtain ⟨h1, h2⟩ := place_step (x := x) hs'
  refine ⟨k', u', x, rfl, hs', hp' x (by simp), fun j hj => ?_, fun hj => ⟨Γ', .refl, qE ?_⟩⟩
  ·obtain ⟨ts, k2, u2, rfl, hu, hw, hk⟩ := h1 j hj
   refine t_ixN hu ?_
   and_intros
   refine ⟨k', x, rfl, hp' x (by simp), fun k3 e3 => ?_, fun e3 => by rw [hk] at e3; cases e3⟩
   rw [hk] at e3
   cases e3
   obtain ⟨a, b, _⟩ := stepW_ok kg' hs' hw
   and_intros
   refine ⟨k2, u2, _, rfl, rfl, b, a, fun p hp => hp' p (by simp [hp]), ?_⟩
   rw [e]
   show (match stepW k' (.tup ts) x with | some (k', w') => partW k' w' r | none => none) = _
   rw [hw]
  ·rw [e]
   show (match stepW k' u' x with | some (k', w') => partW k' w' r | none => none) = _
   rw [h2 hj]
abbrev s_part_kind : Stmt := top 17
theorem sc_part_kind : FnScope ["kind", "path", "found", "step"] ["kind", "path"] (defScope s_part_kind) := ⟨rfl, rfl, rfl, by decide +kernel, rfl, by decide +kernel, by decide +kernel⟩
def spPK (D : Addr) : Sp3 := fun ts Γ Z Y => ∃ (k : Kd) (ps : List T), ts = [k.tr, .tup ps] ∧ (∀ p ∈ ps, Sx p) ∧ (∀ k', atK k ps = some k' → Z k'.tr Γ) ∧ (atK k ps = none → Y (.ref D) Γ)
theorem ok_part_kind (F : Fun K "part_kind" "part_kind" s_part_kind f fd) (c_step_kind : Clx P w K mg base "step_kind" 2 ["kind", "step"] (spSt dN)) : FnOk P w K mg base (CXe P w) 3 f fd ["kind", "path"] (liSp (spPK dN)) := by
 refine okdX F sc_part_kind (fun ts Γ Z Y h => ?_) (fun cdv A outer s H E ts Γ Z Y hr h => ?_)
 ·obtain ⟨k, ps, rfl, _⟩ := h
  rfl
 obtain ⟨k, ps, rfl, hp, q, qE⟩ := h
 refine ⟨_, (qss_cons (qs_set (i := 2) sc_part_kind.nd rfl (Or.inl rfl) (qv 0))
  (qss_cons (qs_for own_def rfl (qi_tup (qv 1)) (qg_name (i := 3) sc_part_kind.nd rfl (Or.inl rfl)) (qss_cons (qs_set (i := 2) sc_part_kind.nd rfl (Or.inl rfl) (qe_callX c_step_kind hr (by omega) rfl pass_def (qa_cons (qv 2) (qa_cons (qv 3) qa_nil))))
  qss_nil))
  (qss_cons (qs_ret (qv 2))
  qss_nil))), ?_⟩
 simp only [start3]
 and_intros
 refine ⟨fun rest τ Γ' => ∃ (k' : Kd) (o3 : Option T), τ = [some k.tr, some (.tup ps), some k'.tr, o3] ∧ Γ' = Γ ∧ (∀ p ∈ rest, Sx p) ∧ atK k ps = atK k' rest, ?_, ?_, ?_⟩
 ·exact ⟨k, none, rfl, rfl, hp, rfl⟩
 ·rintro τ Γ' ⟨k', o3, rfl, rfl, hp', e⟩
  refine ⟨trivial, ?_⟩
  and_intros
  exact drop0 .refl (q k' e)
 ·rintro x r τ Γ' ⟨k', o3, rfl, rfl, hp', e⟩
  have e' : atK k ps = match stepK k' x with | some k2 => atK k2 r | none => none := e
  and_intros
  refine ⟨k', x, rfl, hp' x (by simp), fun k3 e3 => ?_, fun e3 => ⟨Γ', .refl, qE (by rw [e', e3])⟩⟩
  and_intros
  exact ⟨k3, _, rfl, rfl, fun p hp => hp' p (by simp [hp]), by rw [e', e3]⟩
abbrev s_with_more : Stmt := top 24
theorem sc_with_more : FnScope ["kind", "worth", "path", "item", "row"] ["kind", "worth", "path", "item"] (defScope s_with_more) := ⟨rfl, rfl, rfl, by decide +kernel, rfl, by decide +kernel, by decide +kernel⟩
def spWm (D E : Addr) : Sp3 := fun ts Γ Z Y => ∃ (k : Kd) (u : T) (ps : List T) (v : T), ts = [k.tr, u, .tup ps, v] ∧ k.good ∧ k.depth ≤ 5 ∧ Has k u ∧ (∀ p ∈ ps, Sx p) ∧ (∀ ki us, partW k u ps = some (.row ki, .tup us) → Has ki v) ∧
 (partW k u ps = none → Y (.ref D) Γ) ∧ (∀ k' u', partW k u ps = some (k', u') → (∀ ki, k' ≠ .row ki) → Y (.ref D) Γ) ∧
 (∀ ki us, partW k u ps = some (.row ki, .tup us) → (us.length = 60 → Y (.ref E) Γ) ∧ (us.length < 60 → ∀ u', inW k u ps (.tup (us ++ [v])) = some u' → Has k u' → partW k u' ps = some (.row ki, .tup (us ++ [v])) → Z u' Γ))
theorem ok_with_more (F : Fun K "with_more" "with_more" s_with_more f fd) (c_part_of : Clx P w K mg base "part_of" 4 ["kind", "worth", "path"] (spPO dN)) (c_part_kind : Clx P w K mg base "part_kind" 3 ["kind", "path"] (spPK dN)) (c_with_part : Clx P w K mg base "with_part" 11 ["kind", "worth", "path", "part"] (spWi 6 dN)) (m_NoPart : mg "NoPart" = some (.ref dN)) (x_NoPart : PySem.W.excIn K dN [.type "ValueError", .type "Exception", .type "BaseException", .type "object"] "ValueError.__new__" = true) (m_Full : mg "Full" = some (.ref dF)) (x_Full : PySem.W.excIn K dF [.type "ValueError", .type "Exception", .type "BaseException", .type "object"] "ValueError.__new__" = true) (m_MOST_ITEMS : mg "MOST_ITEMS" = some v1) (g_MOST_ITEMS : GlobIs v1 (.int 60)) (z_len : mg "len" = none) : FnOk P w K mg base (CXe P w) 12 f fd ["kind", "worth", "path", "item"] (liSp (spWm dN dF)) := by
 refine okdX F sc_with_more (fun ts Γ Z Y h => ?_) (fun cdv A outer s H E ts Γ Z Y hr h => ?_)
 ·obtain ⟨k, u, ps, v, rfl, _⟩ := h
  rfl
 obtain ⟨k, u, ps, v, rfl, kg, kd, hu, sx, hv, q1, q2, q3⟩ := h
 refine ⟨_, (qss_cons (qs_set (i := 4) sc_with_more.nd rfl (Or.inl rfl) (qe_callX c_part_of hr (by omega) rfl pass_def (qa_cons (qv 0) (qa_cons (qv 1) (qa_cons (qv 2) qa_nil)))))
  (qss_cons (qs_if (qt_cmpR oq_ne (qe_ix (qe_callX c_part_kind hr (by omega) rfl pass_def (qa_cons (qv 0) (qa_cons (qv 2) qa_nil))) qe_int (fun _ _ => rfl)) qe_str (nomark _)) (qss_cons (qs_raise rfl rfl m_NoPart x_NoPart PySem.F.excBase_ValueError (qa_cons qe_str qa_nil) raise_def)
  qss_nil) qss_nil)
  (qss_cons (qs_if (qt_cmpR oq_ge (qe_callB cq_len rfl z_len PySem.boot_len (qa_cons (qv 4) qa_nil)) (qe_glob rfl m_MOST_ITEMS g_MOST_ITEMS) (nomark _)) (qss_cons (qs_raise rfl rfl m_Full x_Full PySem.F.excBase_ValueError (qa_cons qe_str qa_nil) raise_def)
  qss_nil) qss_nil)
  (qss_cons (qs_ret (qe_callX c_with_part hr (by omega) rfl pass_def (qa_cons (qv 0) (qa_cons (qv 1) (qa_cons (qv 2) (qa_cons (qe_op oq_cat (qv 4) (qe_tup (qa_cons (qv 3) qa_nil))) qa_nil))))))
  qss_nil)))), ?_⟩
 simp only [start3]
 and_intros
 refine ⟨k, u, ps, rfl, kg, hu, sx, fun k' u' e => ?_, fun e => ⟨Γ, .refl, q1 e⟩⟩
 obtain ⟨hu', kg', kd'⟩ := partW_ok kg hu e
 and_intros
 refine ⟨k, ps, rfl, sx, fun k2 e2 => ?_, fun e2 => by rw [partW_K (u' := u') kg hu e] at e2; cases e2⟩
 rw [partW_K (u' := u') kg hu e] at e2
 cases e2
 cases hu' with
 | @row ki us l hq =>
  rw [Kd.tr]
  and_intros
  refine c_if (fun c => ?_) (fun c => ?_)
  ·have c := of_decide_eq_true c
   and_intros
   exact ⟨Γ, .refl, (q3 ki us e).1 (by omega)⟩
  ·have c := of_decide_eq_false c
   and_intros
   refine t_cat (Nat.le_of_lt (small1000 (by show us.length + 1 ≤ 1000; omega))) ?_
   and_intros
   obtain ⟨u1, i1, h1, p1⟩ := in_ok (w1 := .tup (us ++ [v])) kg hu e (Has.row (by rw [List.length_append]; show us.length + 1 ≤ 60; omega) (fun y hy => by
    rcases List.mem_append.mp hy with hy | hy
    ·exact hq y hy
    ·cases List.mem_singleton.mp hy; exact hv ki us e))
   refine ⟨k, u, ps, .tup (us ++ [v]), rfl, kg, by omega, hu, sx, fun u' e3 => ?_, fun e3 => by rw [set_part kg hu e, i1] at e3; cases e3⟩
   rw [set_part kg hu e, i1] at e3
   cases e3
   exact drop0 .refl ((q3 ki us e).2 (by omega) u1 i1 h1 p1)
 | num l h =>
  rw [Kd.tr]
  and_intros
  exact ⟨Γ, .refl, q2 _ _ e (fun ki h => by cases h)⟩
 | text l h =>
  rw [Kd.tr]
  and_intros
  exact ⟨Γ, .refl, q2 _ _ e (fun ki h => by cases h)⟩
 | rec_ l h =>
  rw [Kd.tr]
  and_intros
  exact ⟨Γ, .refl, q2 _ _ e (fun ki h => by cases h)⟩
 | pick f' h =>
  rw [Kd.tr]
  and_intros
  exact ⟨Γ, .refl, q2 _ _ e (fun ki h => by cases h)⟩
end
theorem bt_ValueError : bootBuiltins "ValueError" = some (.type "ValueError") := by decide +kernel
section
variable {P : Program} {w : World} {K : PySem.W.Frag} {mg : Str → Option Value} {base : Heap} {f : Addr} {fd : FuncData} {v1 v2 v3 : Value} {dN dG dF d2 d3 d4 d5 d6 d7 d8 d9 d10 d11 : Addr}
abbrev s_law_which : Stmt := top 46
theorem sc_law_which : FnScope ["caught"] ["caught"] (defScope s_law_which) := ⟨rfl, rfl, rfl, by decide +kernel, rfl, by decide +kernel, by decide +kernel⟩
def spWh (D E : Addr) : Sp3 := fun ts Γ Z _ => ∃ x : Addr, ts = [.ref x] ∧ ((Γ x = some (.ext (ExAt x D)) ∧ Z (.str "NoPart") Γ) ∨ (Γ x = some (.ext (ExAt x E)) ∧ Z (.str "Full") Γ))
theorem ok_which (F : Fun K "_law_which" "_law_which" s_law_which f fd) (m_NoPart : mg "NoPart" = some (.ref dN)) (m_Full : mg "Full" = some (.ref dF)) (m_NoBlock : mg "NoBlock" = some (.ref d2)) (m_NoDoor : mg "NoDoor" = some (.ref d3)) (m_NoPicture : mg "NoPicture" = some (.ref d4)) (m_NoProgram : mg "NoProgram" = some (.ref d5)) (m_NoRoom : mg "NoRoom" = some (.ref d6)) (m_NoText : mg "NoText" = some (.ref d7)) (m_NoThing : mg "NoThing" = some (.ref d8)) (m_NoWord : mg "NoWord" = some (.ref d9)) (m_NoWorths : mg "NoWorths" = some (.ref d10)) (m_WrongHand : mg "WrongHand" = some (.ref d11))
  (ex : ExC K dN) (ka : PySem.W.kitAny K (.ref dN) [.ref d2, .ref d3, .ref d4, .ref d5, .ref d6, .ref d7, .ref d8, .ref d9] = some false) (kb : PySem.W.kitAny K (.ref dN) [.ref d10, .ref d11] = some false) (kn : PySem.W.kitOne K (.ref dN) (.ref dN) = some true) (kv : PySem.W.kitOne K (.ref dN) (.type "ValueError") = some true) (ko : PySem.W.kitOne K (.ref dN) (.ref dF) = some false)
  (fex : ExC K dF) (fka : PySem.W.kitAny K (.ref dF) [.ref d2, .ref d3, .ref d4, .ref d5, .ref d6, .ref d7, .ref d8, .ref d9] = some false) (fkb : PySem.W.kitAny K (.ref dF) [.ref d10, .ref d11] = some false) (fkn : PySem.W.kitOne K (.ref dF) (.ref dF) = some true) (fkv : PySem.W.kitOne K (.ref dF) (.type "ValueError") = some true) (fko : PySem.W.kitOne K (.ref dF) (.ref dN) = some false)
  (z_isinstance : mg "isinstance" = none) (z_ValueError : mg "ValueError" = none) : FnOk P w K mg base CX0 1 f fd ["caught"] (liSp (spWh dN dF)) := by
 refine okd F sc_law_which (fun ts Γ Z Y h => ?_) (fun cdv A outer s H E ts Γ Z Y hr h => ?_)
 ·obtain ⟨x, rfl, _⟩ := h
  rfl
 obtain ⟨x, rfl, h⟩ := h
 refine ⟨_, (qss_cons (qs_if (qt_val (qe_callB cq_instXT rfl z_isinstance PyProof.Rows.boot_isinstance (qa_cons (qv 0) (qa_cons (qe_tup (qa_cons (qe_glob rfl m_NoBlock gl_ref) (qa_cons (qe_glob rfl m_NoDoor gl_ref) (qa_cons (qe_glob rfl m_NoPicture gl_ref) (qa_cons (qe_glob rfl m_NoProgram gl_ref) (qa_cons (qe_glob rfl m_NoRoom gl_ref) (qa_cons (qe_glob rfl m_NoText gl_ref) (qa_cons (qe_glob rfl m_NoThing gl_ref) (qa_cons (qe_glob rfl m_NoWord gl_ref) qa_nil))))))))) qa_nil)))) (qss_cons (qs_ret qe_str)
  qss_nil) qss_nil)
  (qss_cons (qs_if (PW.pt (qw_or (qt_val (qe_callB cq_instXT rfl z_isinstance PyProof.Rows.boot_isinstance (qa_cons (qv 0) (qa_cons (qe_tup (qa_cons (qe_glob rfl m_NoWorths gl_ref) (qa_cons (qe_glob rfl m_WrongHand gl_ref) qa_nil))) qa_nil)))) (qw_or1 (qt_not (qt_val (qe_callB cq_instX rfl z_isinstance PyProof.Rows.boot_isinstance (qa_cons (qv 0) (qa_cons (qe_bltn rfl z_ValueError bt_ValueError rfl (by decide) (by decide)) qa_nil)))))))) (qss_cons (qs_ret qe_str)
  qss_nil) qss_nil)
  (qss_cons (qs_if (PW.pt (qw_and (qt_val (qe_callB cq_instX rfl z_isinstance PyProof.Rows.boot_isinstance (qa_cons (qv 0) (qa_cons (qe_glob rfl m_Full gl_ref) qa_nil)))) (qw_and1 (qt_not (qt_val (qe_callB cq_instX rfl z_isinstance PyProof.Rows.boot_isinstance (qa_cons (qv 0) (qa_cons (qe_glob rfl m_NoPart gl_ref) qa_nil)))))))) (qss_cons (qs_ret qe_str)
  qss_nil) qss_nil)
  (qss_cons (qs_if (PW.pt (qw_and (qt_val (qe_callB cq_instX rfl z_isinstance PyProof.Rows.boot_isinstance (qa_cons (qv 0) (qa_cons (qe_glob rfl m_NoPart gl_ref) qa_nil)))) (qw_and1 (qt_not (qt_val (qe_callB cq_instX rfl z_isinstance PyProof.Rows.boot_isinstance (qa_cons (qv 0) (qa_cons (qe_glob rfl m_Full gl_ref) qa_nil)))))))) (qss_cons (qs_ret qe_str)
  qss_nil) qss_nil)
  (qss_cons (qs_ret qe_str)
  qss_nil))))), ?_⟩
 simp only [start3]
 rcases h with ⟨hx, q⟩ | ⟨hx, q⟩
 ·and_intros
  refine ⟨x, dN, _, _, false, rfl, rfl, ex, hx, ka, ?_⟩
  and_intros
  refine ⟨x, dN, _, _, false, rfl, rfl, ex, hx, kb, ?_⟩
  and_intros
  refine ⟨x, dN, _, _, true, rfl, rfl, ex, hx, kv, ?_⟩
  and_intros
  refine ⟨x, dN, _, _, false, rfl, rfl, ex, hx, ko, ?_⟩
  and_intros
  refine ⟨x, dN, _, _, true, rfl, rfl, ex, hx, kn, ?_⟩
  and_intros
  refine ⟨x, dN, _, _, false, rfl, rfl, ex, hx, ko, ?_⟩
  and_intros
  exact drop0 .refl q
 ·and_intros
  refine ⟨x, dF, _, _, false, rfl, rfl, fex, hx, fka, ?_⟩
  and_intros
  refine ⟨x, dF, _, _, false, rfl, rfl, fex, hx, fkb, ?_⟩
  and_intros
  refine ⟨x, dF, _, _, true, rfl, rfl, fex, hx, fkv, ?_⟩
  and_intros
  refine ⟨x, dF, _, _, true, rfl, rfl, fex, hx, fkn, ?_⟩
  and_intros
  refine ⟨x, dF, _, _, false, rfl, rfl, fex, hx, fko, ?_⟩
  and_intros
  exact drop0 .refl q
end
theorem tr_nrow (k : Kd) (n : ∀ ki, k ≠ .row ki) : ∃ (hd : Str) (tl : List T), k.tr = .tup (.str hd :: tl) ∧ hd ≠ "row" := by
 cases k with
 | num w => exact ⟨"num", _, by rw [Kd.tr], by decide +kernel⟩
 | text => exact ⟨"text", _, by rw [Kd.tr], by decide +kernel⟩
 | row k => exact absurd rfl (n k)
 | rec_ fs => exact ⟨"rec", _, by rw [Kd.tr], by decide +kernel⟩
 | pick fs => exact ⟨"pick", _, by rw [Kd.tr], by decide +kernel⟩
theorem dq_row {x : T} (h : RowQ x) : Dq 2 x := by
 obtain ⟨q, y, rfl, sq, sy⟩ := h
 have fl : ∀ {d : Nat} {z : T}, Sx z → Dq d z := fun hz => by
  cases hz with
  | int i => exact .flat rfl rfl
  | str l => exact .flat rfl rfl
 refine .tup fun t ht => ?_
 rw [List.mem_cons, List.mem_singleton] at ht
 rcases ht with rfl | rfl
 ·exact .tup fun z hz => fl (sq z hz)
 ·exact fl sy
section
variable {P : Program} {w : World} {K : PySem.W.Frag} {mg : Str → Option Value} {base : Heap} {f : Addr} {fd : FuncData} {v1 v2 v3 : Value} {dN dG dF : Addr}
abbrev s_law_grown : Stmt := top 47
theorem sc_law_grown : FnScope ["kind", "worth", "path", "item", "caught", "found", "e", "there", "now"] ["kind", "worth", "path", "item"] (defScope s_law_grown) := ⟨rfl, rfl, rfl, by decide +kernel, rfl, by decide +kernel, by decide +kernel⟩
def spGr : Sp3 := fun ts Γ Z _ => ∃ (k : Kd) (u : T) (ps : List T) (v : T), ts = [k.tr, u, .tup ps, v] ∧ k.good ∧ k.depth ≤ 5 ∧ Has k u ∧ (∀ p ∈ ps, Sx p) ∧ (∀ ki us, partW k u ps = some (.row ki, .tup us) → Has ki v) ∧ Z (.tup [.non, .bl true]) Γ ∧ ∀ u', Has k u' → Z (.tup [u', .bl true]) Γ
theorem ok_grown (F : Fun K "_law_grown" "_law_grown" s_law_grown f fd) (c_with_more : Clx P w K mg base "with_more" 12 ["kind", "worth", "path", "item"] (spWm dN dF)) (c_law_part : Cl3 P w K mg base "_law_part" 1 ["kind", "worth", "path"] spPt) (c_law_kind_at : Cl3 P w K mg base "_law_kind_at" 2 ["kind", "path"] spKA) (c_law_which : Cl3 P w K mg base "_law_which" 1 ["caught"] (spWh dN dF)) (c_law_is_worth : Cl3 P w K mg base "_law_is_worth" 8 ["kind", "thing"] (spIw 6)) (c_law_same : Cl3 P w K mg base "_law_same" 1 ["found", "due"] spSame) (c_law_beyond : Cl3 P w K mg base "_law_beyond" 9 ["kind", "worth", "cut"] spBy)
  (m_GateError : mg "GateError" = some (.ref dG)) (xm : PySem.W.exmOne K (.ref dN) (.ref dG) = some true) (fxm : PySem.W.exmOne K (.ref dF) (.ref dG) = some true) (z_len : mg "len" = none) : FnOk P w K mg base CX0 13 f fd ["kind", "worth", "path", "item"] (liSp spGr) := by
 refine okd F sc_law_grown (fun ts Γ Z Y h => ?_) (fun cdv A outer s H E ts Γ Z Y hr h => ?_)
 ·obtain ⟨k, u, ps, v, rfl, _⟩ := h
  rfl
 obtain ⟨k, u, ps, v, rfl, kg, kd, hu, sx, hv, q0, q1⟩ := h
 refine ⟨_, (qss_cons (qs_set (i := 4) sc_law_grown.nd rfl (Or.inl rfl) qe_non)
  (qss_cons (qs_set (i := 5) sc_law_grown.nd rfl (Or.inl rfl) qe_non)
  (qss_cons (qs_try (j := 6) rfl rfl rfl m_GateError sc_law_grown.nd rfl rfl (fun _ _ _ hx => (qss_cons (qs_set (i := 5) sc_law_grown.nd rfl (Or.inl rfl) (qe_callX c_with_more hr (by omega) rfl hx (qa_cons (qv 0) (qa_cons (qv 1) (qa_cons (qv 2) (qa_cons (qv 3) qa_nil))))))
  qss_nil)) (fun _ => (qss_cons (qs_set (i := 4) sc_law_grown.nd rfl (Or.inl rfl) (qv 6))
  qss_nil)))
  (qss_cons (qs_set (i := 7) sc_law_grown.nd rfl (Or.inl rfl) (qe_call c_law_part hr (by omega) rfl (qa_cons (qv 0) (qa_cons (qv 1) (qa_cons (qv 2) qa_nil)))))
  (qss_cons (qs_if (PW.pt (qw_or (qt_cmpR (oq_eqNil hr.units0) (qv 7) (qe_lst qa_nil) (nomark _)) (qw_or1 (qt_cmpR oq_ne (qe_ix (qe_call c_law_kind_at hr (by omega) rfl (qa_cons (qv 0) (qa_cons (qv 2) qa_nil))) qe_int (fun _ _ => rfl)) qe_str (nomark _))))) (qss_cons (qs_ret (qe_tup (qa_cons qe_non (qa_cons (qe_cmpR oq_eq (qe_call c_law_which hr (by omega) rfl (qa_cons (qv 4) qa_nil)) qe_str (nomark _)) qa_nil))))
  qss_nil) qss_nil)
  (qss_cons (qs_if (qt_cmpR oq_eq (qe_callB cq_len rfl z_len PySem.boot_len (qa_cons (qe_ix (qv 7) qe_int (fun _ _ => rfl)) qa_nil)) qe_int (nomark _)) (qss_cons (qs_ret (qe_tup (qa_cons qe_non (qa_cons (qe_cmpR oq_eq (qe_call c_law_which hr (by omega) rfl (qa_cons (qv 4) qa_nil)) qe_str (nomark _)) qa_nil))))
  qss_nil) qss_nil)
  (qss_cons (qs_if (PW.pt (qw_or (qt_cmpR oq_notN (qv 4) qe_non (nomark _)) (qw_or1 (qt_not (qt_val (qe_call c_law_is_worth hr (by omega) rfl (qa_cons (qv 0) (qa_cons (qv 5) qa_nil)))))))) (qss_cons (qs_ret (qe_tup (qa_cons qe_non (qa_cons qe_bl qa_nil))))
  qss_nil) qss_nil)
  (qss_cons (qs_set (i := 8) sc_law_grown.nd rfl (Or.inl rfl) (qe_call c_law_part hr (by omega) rfl (qa_cons (qv 0) (qa_cons (qv 5) (qa_cons (qv 2) qa_nil)))))
  (qss_cons (qs_if (PW.pt (qw_or (qt_cmpR (oq_eqNil hr.units0) (qv 8) (qe_lst qa_nil) (nomark _)) (qw_or1 (qt_not (qt_val (qe_call c_law_same hr (by omega) rfl (qa_cons (qe_ix (qv 8) qe_int (fun _ _ => rfl)) (qa_cons (qe_op oq_cat (qe_ix (qv 7) qe_int (fun _ _ => rfl)) (qe_tup (qa_cons (qv 3) qa_nil))) qa_nil)))))))) (qss_cons (qs_ret (qe_tup (qa_cons qe_non (qa_cons qe_bl qa_nil))))
  qss_nil) qss_nil)
  (qss_cons (qs_ret (qe_tup (qa_cons (qv 5) (qa_cons (qe_cmpR (oq_eqSame (d := 2) (Nat.lt_of_le_of_lt (Nat.add_le_add_left (by decide : 3 ≤ 64) _) hr.units)) (qe_call c_law_beyond hr (by omega) rfl (qa_cons (qv 0) (qa_cons (qv 5) (qa_cons (qv 2) qa_nil)))) (qe_call c_law_beyond hr (by omega) rfl (qa_cons (qv 0) (qa_cons (qv 1) (qa_cons (qv 2) qa_nil)))) (nomark _)) qa_nil))))
  qss_nil)))))))))), ?_⟩
 simp only [start3]
 and_intros
 refine ⟨k, u, ps, v, rfl, kg, kd, hu, sx, hv, fun e => ?_, fun k' u' e n => ?_, fun ki us e => ⟨fun l => ?_, fun l u' i1 h1 p1 => ?_⟩⟩
 ·refine ⟨xm, fun x hx => ?_⟩
  and_intros
  refine ⟨k, u, ps, rfl, kg, hu, sx, fun p hp => ?_⟩
  rw [e]
  and_intros
  intro p2 hp2
  have g1 : (up (up Γ x (.ext (excAt x (.ref dN)))) p (.lst (resW none))) x = some (.ext (excAt x (.ref dN))) := by rw [up_ne (gnn up_same hp)]; exact up_same
  refine ⟨p, p2, _, rfl, rfl, by rw [up_ne (gnn up_same hp2)]; exact up_same, up_same, ?_⟩
  and_intros
  refine ⟨x, rfl, .inl ⟨by rw [up_ne (gnn g1 hp2)]; exact g1, ?_⟩⟩
  and_intros
  refine drop0 (.trans (.new hx) (.trans (.new hp) (.new hp2))) ?_
  simp only [eq_self, decide_true]
  exact q0
 ·refine ⟨xm, fun x hx => ?_⟩
  and_intros
  refine ⟨k, u, ps, rfl, kg, hu, sx, fun p hp => ?_⟩
  rw [e]
  and_intros
  intro p2 hp2
  have g1 : (up (up Γ x (.ext (excAt x (.ref dN)))) p (.lst (resW (some (k', u'))))) x = some (.ext (excAt x (.ref dN))) := by rw [up_ne (gnn up_same hp)]; exact up_same
  refine ⟨p, p2, _, rfl, rfl, by rw [up_ne (gnn up_same hp2)]; exact up_same, up_same, ?_⟩
  and_intros
  refine ⟨k, ps, rfl, kg, sx, ?_⟩
  rw [partW_K (u' := u') kg hu e]
  obtain ⟨hd, tl, e2, c2⟩ := tr_nrow k' n
  simp only [resK]
  rw [e2]
  and_intros
  refine c_ifT (by simp [c2]) ?_
  and_intros
  refine ⟨x, rfl, .inl ⟨by rw [up_ne (gnn g1 hp2)]; exact g1, ?_⟩⟩
  and_intros
  refine drop0 (.trans (.new hx) (.trans (.new hp) (.new hp2))) ?_
  simp only [eq_self, decide_true]
  exact q0
 ·refine ⟨fxm, fun x hx => ?_⟩
  and_intros
  refine ⟨k, u, ps, rfl, kg, hu, sx, fun p hp => ?_⟩
  rw [e]
  and_intros
  intro p2 hp2
  have g1 : (up (up Γ x (.ext (excAt x (.ref dF)))) p (.lst (resW (some (.row ki, .tup us))))) x = some (.ext (excAt x (.ref dF))) := by rw [up_ne (gnn up_same hp)]; exact up_same
  have gp : (up (up (up Γ x (.ext (excAt x (.ref dF)))) p (.lst (resW (some (.row ki, .tup us))))) p2 (.lst [])) p = some (.lst [.tup us]) := by rw [up_ne (gnn up_same hp2)]; exact up_same
  refine ⟨p, p2, _, rfl, rfl, gp, up_same, ?_⟩
  and_intros
  refine ⟨k, ps, rfl, kg, sx, ?_⟩
  rw [partW_K (u' := .tup us) kg hu e]
  simp only [resK]
  rw [Kd.tr]
  and_intros
  refine c_ifT (by rw [l]; rfl) ?_
  and_intros
  refine ⟨x, rfl, .inr ⟨by rw [up_ne (gnn g1 hp2)]; exact g1, ?_⟩⟩
  and_intros
  refine drop0 (.trans (.new hx) (.trans (.new hp) (.new hp2))) ?_
  simp only [eq_self, decide_true]
  exact q0
 ·and_intros
  refine ⟨k, u, ps, rfl, kg, hu, sx, fun p hp => ?_⟩
  rw [e]
  and_intros
  intro p2 hp2
  have gp : (up (up Γ p (.lst (resW (some (.row ki, .tup us))))) p2 (.lst [])) p = some (.lst [.tup us]) := by rw [up_ne (gnn up_same hp2)]; exact up_same
  refine ⟨p, p2, _, rfl, rfl, gp, up_same, ?_⟩
  and_intros
  refine ⟨k, ps, rfl, kg, sx, ?_⟩
  rw [partW_K (u' := .tup us) kg hu e]
  simp only [resK]
  rw [Kd.tr]
  and_intros
  refine c_ifF (by simp; omega) ?_
  and_intros
  refine ⟨k, u', rfl, kg, by omega, h1, true, rfl, ?_⟩
  and_intros
  refine ⟨k, u', ps, rfl, kg, h1, sx, fun p3 hp3 => ?_⟩
  rw [p1]
  and_intros
  intro p4 hp4
  refine ⟨p3, p4, _, rfl, rfl, by rw [up_ne (gnn up_same hp4)]; exact up_same, up_same, ?_⟩
  and_intros
  refine t_ixR (by rw [up_ne (gnn up_same hp4)]; exact up_same) at0 ?_
  and_intros
  have gp4 : (up (up (up (up Γ p (.lst (resW (some (.row ki, .tup us))))) p2 (.lst [])) p3 (.lst (resW (some (.row ki, .tup (us ++ [v])))))) p4 (.lst [])) p = some (.lst [.tup us]) := by
   rw [up_ne (gnn (by rw [up_ne (gnn gp hp3)]; exact gp) hp4), up_ne (gnn gp hp3)]; exact gp
  refine t_ixR gp4 at0 ?_
  and_intros
  refine t_cat (Nat.le_of_lt (small1000 (by show us.length + 1 ≤ 1000; omega))) ?_
  obtain ⟨hr1, kg1, kd1⟩ := partW_ok kg h1 p1
  refine ⟨.tup (us ++ [v]), rfl, has_pl hr1, has_line hr1 kg1 (by omega), true, rfl, ?_⟩
  and_intros
  refine ⟨k, u', ps, rfl, kg, kd, sx, h1, fun p5 hp5 => ?_⟩
  and_intros
  refine ⟨k, u, ps, rfl, kg, kd, sx, hu, fun p6 hp6 => ?_⟩
  have hi : (holdsW k u' []).filter (byB ps) = (holdsW k u []).filter (byB ps) := hold_in kg hu e hr1 i1 (fun x hx => byB_cut sx hx)
  rw [hi] at hp6 ⊢
  refine ⟨p5, p6, _, rfl, rfl, by rw [up_ne (gnn up_same hp6)]; exact up_same, up_same, fun x hx => dq_row (holds_q hu kg [] (fun _ h => nomatch h) x (List.mem_filter.mp hx).1), ?_⟩
  and_intros
  exact drop0 (.trans (.new hp) (.trans (.new hp2) (.trans (.new hp3) (.trans (.new hp4) (.trans (.new hp5) (.new hp6)))))) (q1 u' h1)
end
theorem rs_strs {H : Hp} : ∀ {ns : List Str} {vs : List V}, Rs H vs (ns.map T.str) → vs = ns.map V.str
 | [], vs, h => rs_inv0 h
 | n :: r, vs, h => by
  obtain ⟨v, ws, rfl, a, b⟩ := rs_inv h
  rw [i_str a, rs_strs b]; rfl
structure Sq (Γb Γ' : Gp) (a N F P : Addr) (ns fs ws : List T) : Prop where
 fl : FlowAt Γ' a
 gN : Γ' N = some (.lst ns)
 gF : Γ' F = some (.lst fs)
 gP : Γ' P = some (.lst ws)
 nN : N ≠ a
 nF : F ≠ a
 nP : P ≠ a
 nNF : N ≠ F
 nNP : N ≠ P
 nFP : F ≠ P
 bN : Γb N = none
 bF : Γb F = none
 bP : Γb P = none
 kq : Kq [a] Γb Γ'
section
variable {Γb Γ' Γ2 : Gp} {a N F P : Addr} {ns fs ws xs : List T}
theorem Sq.call (h : Sq Γb Γ' a N F P ns fs ws) (fl : FlowAt Γ2 a) (f : Fr [a] Γ' Γ2) : Sq Γb Γ2 a N F P ns fs ws :=
 ⟨fl, by rw [f N (by simpa using h.nN)]; exact h.gN, by rw [f F (by simpa using h.nF)]; exact h.gF, by rw [f P (by simpa using h.nP)]; exact h.gP, h.nN, h.nF, h.nP, h.nNF, h.nNP, h.nFP, h.bN, h.bF, h.bP, h.kq.trans f.kq⟩
theorem Sq.call2 {b : Addr} {o : O} (h : Sq Γb Γ' a N F P ns fs ws) (hb : Γ' b = none) (fl : FlowAt Γ2 a) (f : Fr [a, b] (up Γ' b o) Γ2) : Sq Γb Γ2 a N F P ns fs ws := by
 have go : ∀ x u, x ≠ a → Γ' x = some u → Γ2 x = some u := fun x u n e => by
  have nb := gnn e hb
  rw [f x (by simp [n, nb]), up_ne nb]; exact e
 exact ⟨fl, go _ _ h.nN h.gN, go _ _ h.nF h.gF, go _ _ h.nP h.gP, h.nN, h.nF, h.nP, h.nNF, h.nNP, h.nFP, h.bN, h.bF, h.bP, fun x u n e => go x u (by simpa using n) (h.kq x u n e)⟩
theorem Sq.setN (h : Sq Γb Γ' a N F P ns fs ws) : Sq Γb (up Γ' N (.lst xs)) a N F P xs fs ws :=
 ⟨h.fl.up h.nN.symm, up_same, by rw [up_ne h.nNF.symm]; exact h.gF, by rw [up_ne h.nNP.symm]; exact h.gP, h.nN, h.nF, h.nP, h.nNF, h.nNP, h.nFP, h.bN, h.bF, h.bP, h.kq.setNew h.bN _⟩
theorem Sq.setF (h : Sq Γb Γ' a N F P ns fs ws) : Sq Γb (up Γ' F (.lst xs)) a N F P ns xs ws :=
 ⟨h.fl.up h.nF.symm, by rw [up_ne h.nNF]; exact h.gN, up_same, by rw [up_ne h.nFP.symm]; exact h.gP, h.nN, h.nF, h.nP, h.nNF, h.nNP, h.nFP, h.bN, h.bF, h.bP, h.kq.setNew h.bF _⟩
theorem Sq.setP (h : Sq Γb Γ' a N F P ns fs ws) : Sq Γb (up Γ' P (.lst xs)) a N F P ns fs xs :=
 ⟨h.fl.up h.nP.symm, by rw [up_ne h.nNP]; exact h.gN, by rw [up_ne h.nFP]; exact h.gF, up_same, h.nN, h.nF, h.nP, h.nNF, h.nNP, h.nFP, h.bN, h.bF, h.bP, h.kq.setNew h.bP _⟩
theorem none_up {Γ : Gp} {p q : Addr} {o : O} (h : (up Γ p o) q = none) : Γ q = none ∧ q ≠ p := by
 have n : q ≠ p := fun e => by rw [e, up_same] at h; cases h
 rw [up_ne n] at h
 exact ⟨h, n⟩
theorem Sq.mk0 (fl : FlowAt Γb a) (hN : Γb N = none) (hF : (up Γb N (.lst [])) F = none) (hP : (up (up Γb N (.lst [])) F (.lst [])) P = none) : Sq Γb (up (up (up Γb N (.lst [])) F (.lst [])) P (.lst [])) a N F P [] [] [] := by
 obtain ⟨hF1, nFN⟩ := none_up hF
 obtain ⟨hP1, nPF⟩ := none_up hP
 obtain ⟨hP2, nPN⟩ := none_up hP1
 refine ⟨((fl.new hN).new hF).new hP, by rw [up_ne nPN.symm, up_ne nFN.symm]; exact up_same, by rw [up_ne nPF.symm]; exact up_same, up_same, fl.nn hN, fl.nn hF1, fl.nn hP2, nFN.symm, nPN.symm, nPF.symm, hN, hF1, hP2, ((Kq.new hN _).trans (Kq.new hF _)).trans (Kq.new hP _)⟩
end
structure WG (D : Nat) (gs : List (Str × Kd)) (ws : List T) : Prop where
 len : ws.length = gs.length
 ok : ∀ p ∈ gs, Nm p.1 ∧ p.2.good ∧ p.2.depth ≤ D
 nd : (gs.map (·.1)).Nodup
 has : ∀ (j : Nat) (m : Str) (k : Kd) (t : T), gs[j]? = some (m, k) → ws[j]? = some t → Has k t
theorem WG.snoc {D : Nat} {gs : List (Str × Kd)} {ws : List T} {m : Str} {k : Kd} {t : T} (h : WG D gs ws) (nm : Nm m) (ni : m ∉ gs.map (·.1)) (g : k.good) (d : k.depth ≤ D) (ht : Has k t) : WG D (gs ++ [(m, k)]) (ws ++ [t]) := by
 refine ⟨by rw [List.length_append, List.length_append, h.len]; rfl, fun p hp => ?_, ?_, fun j m' k' t' a b => ?_⟩
 ·rcases List.mem_append.mp hp with hp | hp
  ·exact h.ok p hp
  ·cases List.mem_singleton.mp hp; exact ⟨nm, g, d⟩
 ·rw [List.map_append, List.nodup_append]
  refine ⟨h.nd, by simp, fun x hx y hy e => ni ?_⟩
  simp only [List.map_cons, List.map_nil, List.mem_singleton] at hy
  rw [← hy, ← e]; exact hx
 ·by_cases c : j < gs.length
  ·rw [List.getElem?_append_left c] at a
   rw [List.getElem?_append_left (by rw [h.len]; exact c)] at b
   exact h.has j m' k' t' a b
  ·rw [List.getElem?_append_right (by omega)] at a
   rw [List.getElem?_append_right (by rw [h.len]; omega), h.len] at b
   cases z : j - gs.length with
   | zero => rw [z] at a b; cases a; cases b; exact ht
   | succ n => rw [z] at a; simp at a
theorem goodF_of : ∀ {gs : List (Str × Kd)} {D : Nat}, (∀ p ∈ gs, Nm p.1 ∧ p.2.good ∧ p.2.depth ≤ D) → goodF gs ∧ depthF gs ≤ D
 | [], D, h => by unfold goodF depthF; exact ⟨trivial, Nat.zero_le _⟩
 | (m, k) :: r, D, h => by
  obtain ⟨a, b⟩ := goodF_of (gs := r) (D := D) fun p hp => h p (by simp [hp])
  obtain ⟨x, y, z⟩ := h (m, k) (by simp)
  unfold goodF depthF
  exact ⟨⟨x, y, a⟩, by have z : k.depth ≤ D := z; omega⟩
theorem kq2 {Γ Γ4 Γ5 : Gp} {a b : Addr} {o : O} (k : Kq [a] Γ Γ4) (hb : Γ4 b = none) (f : Fr [a, b] (up Γ4 b o) Γ5) : Kq [a] Γ Γ5 := fun x u n e => by
 have e4 := k x u n e
 have nb := gnn e4 hb
 rw [f x (by simp only [List.mem_cons, List.not_mem_nil, or_false] at n ⊢; exact fun h => h.elim n nb), up_ne nb]; exact e4
theorem ixN_nat {n i : Nat} (h : i < n) : ixN n (i : Int) = some i := by
 unfold ixN
 rw [if_pos (by omega), if_pos (by omega), Int.toNat_natCast]
theorem rep1 (t : T) (n : Nat) : (List.replicate n [t]).flatten = List.replicate n t := by
 induction n with
 | zero => rfl
 | succ n ih => rw [List.replicate_succ, List.flatten_cons, ih]; rfl
section
variable {P : Program} {w : World} {K : PySem.W.Frag} {mg : Str → Option Value} {base : Heap} {f : Addr} {fd : FuncData} {v1 v2 v3 : Value} {dN dG dF : Addr}
def spNa : Sp3 := fun ts Γ Z _ => ∃ (a b : Addr) (ss : List Str), ts = [.ref a, .ref b] ∧ FlowAt Γ a ∧ Γ b = some (.lst (ss.map T.str)) ∧ ss.length ≤ 6 ∧ (∀ z ∈ ss, Nm z) ∧ ∀ (z : Str) (Γ' : Gp), Nm z → z ∉ ss → FlowAt Γ' a → Fr [a] Γ Γ' → Z (.str z) Γ'
theorem br_name {k : Nat} (c : Callee P w K mg base "_law_name" k ["flow", "taken"] spName) : Cl3 P w K mg base "_law_name" k ["flow", "taken"] spNa :=
 c.imp fun vs H Q E ⟨ts, Γ, Z, Y, r, hr, ⟨a, b, ss, e, fl, gb, s6, nm, q⟩, vr, xr⟩ => by
  subst e
  obtain ⟨v, w, rfl, r1, r2⟩ := rs2 r
  obtain ⟨us, hus, qus⟩ := hr b _ gb
  rw [rs_strs qus] at hus
  refine ⟨a, b, ss, by rw [i_ref r1, i_ref r2], flow_dn hr fl, hus, s6, nm, fun z H' nz ni fl' k => ?_⟩
  obtain ⟨f0, f1, f2, e', b'⟩ := fl'
  obtain ⟨g0, g1, g2, eg, _⟩ := fl
  have fr : Fr [a] Γ (up Γ a (.lst [.int f0, .int f1, .int f2])) := .set (by simp) _
  obtain ⟨s, hr'⟩ := br_step hr k (fun b hb => by rw [List.mem_singleton.mp hb]; exact ⟨_, _, _, eg, e', rs_of_ints [f0, f1, f2], up_same⟩) fr
  exact vr _ _ H' _ s hr' r_str (q z _ nz ni ⟨f0, f1, f2, up_same, b'⟩ fr)
abbrev s_law_within : Stmt := top 45
theorem sc_law_within : FnScope ["flow", "kind", "worth", "path", "word", "ahead", "behind", "one", "many", "place", "names", "fields", "parts", "k", "below"] ["flow", "kind", "worth", "path"] (defScope s_law_within) := ⟨rfl, rfl, rfl, by decide +kernel, rfl, by decide +kernel, by decide +kernel⟩
def spWn : Sp3 := fun ts Γ Z _ => ∃ (a : Addr) (k : Kd) (u : T) (ps : List T), ts = [.ref a, k.tr, u, .tup ps] ∧ FlowAt Γ a ∧ k.good ∧ 2 ≤ k.depth ∧ k.depth ≤ 4 ∧ Has k u ∧ ps.length ≤ 4 ∧ (∀ p ∈ ps, Sm p) ∧ ∀ (k2 : Kd) (u2 : T) (p2 : T) (Γ' : Gp), k2.good → 2 ≤ k2.depth → k2.depth ≤ k.depth + 1 → Has k2 u2 → Sm p2 → stepK k2 p2 = some k → FlowAt Γ' a → Fr [a] Γ Γ' → Z (.tup [k2.tr, u2, .tup (p2 :: ps)]) Γ'
theorem ok_within (F : Fun K "_law_within" "_law_within" s_law_within f fd) (c_law_draw : Cl3 P w K mg base "_law_draw" 1 ["flow", "many"] spDr) (c_law_worth : Cl3 P w K mg base "_law_worth" 30 ["flow", "kind", "room"] (spWo 13)) (c_law_name : Cl3 P w K mg base "_law_name" 2 ["flow", "taken"] spNa) (c_law_kind : Cl3 P w K mg base "_law_kind" 12 ["flow", "depth", "room"] (spKd 10)) (z_min : mg "min" = none) (z_range : mg "range" = none) (z_tuple : mg "tuple" = none) : FnOk P w K mg base CX0 31 f fd ["flow", "kind", "worth", "path"] (liSp spWn) := by
 refine okd F sc_law_within (fun ts Γ Z Y h => ?_) (fun cdv A outer s H E ts Γ Z Y hr h => ?_)
 ·obtain ⟨a, k, u, ps, rfl, _⟩ := h
  rfl
 obtain ⟨a, k, u, ps, rfl, fl, kg, kd2, kd, hu, pl, sps, q⟩ := h
 refine ⟨_, (qss_cons (qs_set (i := 4) sc_law_within.nd rfl (Or.inl rfl) (qe_ix (qe_lst (qa_cons qe_str (qa_cons qe_str (qa_cons qe_str qa_nil)))) (qe_call c_law_draw hr (by omega) rfl (qa_cons (qv 0) (qa_cons qe_int qa_nil))) (fun _ _ => rfl)))
  (qss_cons (qs_if (qt_cmpR oq_eq (qv 4) qe_str (nomark _)) (qss_cons (qs_set (i := 5) sc_law_within.nd rfl (Or.inl rfl) (qe_call c_law_draw hr (by omega) rfl (qa_cons (qv 0) (qa_cons (qe_ix (qe_lst (qa_cons qe_int (qa_cons qe_int (qa_cons qe_int (qa_cons qe_int qa_nil))))) (qe_call c_law_draw hr (by omega) rfl (qa_cons (qv 0) (qa_cons qe_int qa_nil))) (fun _ _ => rfl)) qa_nil))))
  (qss_cons (qs_set (i := 6) sc_law_within.nd rfl (Or.inl rfl) (qe_call c_law_draw hr (by omega) rfl (qa_cons (qv 0) (qa_cons (qe_callB (cq_min2 rfl) rfl z_min PyProof.Rows.boot_min (qa_cons qe_int (qa_cons (qe_op oq_sub qe_int (qv 5)) qa_nil))) qa_nil))))
  (qss_cons (qs_set (i := 7) sc_law_within.nd rfl (Or.inl rfl) (qe_call c_law_worth hr (by omega) rfl (qa_cons (qv 0) (qa_cons (qv 1) (qa_cons (qe_lst (qa_cons qe_int qa_nil)) qa_nil)))))
  (qss_cons (qs_ret (qe_tup (qa_cons (qe_tup (qa_cons qe_str (qa_cons (qv 1) qa_nil))) (qa_cons (qe_op oq_cat (qe_op oq_cat (qe_op oq_rep (qe_tup (qa_cons (qv 7) qa_nil)) (qv 5)) (qe_tup (qa_cons (qv 2) qa_nil))) (qe_op oq_rep (qe_tup (qa_cons (qv 7) qa_nil)) (qv 6))) (qa_cons (qe_op oq_cat (qe_tup (qa_cons (qv 5) qa_nil)) (qv 3)) qa_nil)))))
  qss_nil)))) qss_nil)
  (qss_cons (qs_set (i := 8) sc_law_within.nd rfl (Or.inl rfl) (qe_op oq_add qe_int (qe_call c_law_draw hr (by omega) rfl (qa_cons (qv 0) (qa_cons qe_int qa_nil)))))
  (qss_cons (qs_set (i := 9) sc_law_within.nd rfl (Or.inl rfl) (qe_call c_law_draw hr (by omega) rfl (qa_cons (qv 0) (qa_cons (qv 8) qa_nil))))
  (qss_cons (qs_set (i := 10) sc_law_within.nd rfl (Or.inl rfl) (qe_lst qa_nil))
  (qss_cons (qs_set (i := 11) sc_law_within.nd rfl (Or.inl rfl) (qe_lst qa_nil))
  (qss_cons (qs_set (i := 12) sc_law_within.nd rfl (Or.inl rfl) (qe_lst qa_nil))
  (qss_cons (qs_for PassesOwn.never rfl (qi_range1 rfl z_range (qa_cons (qv 8) qa_nil)) (qg_name (i := 13) sc_law_within.nd rfl (Or.inl rfl)) (qss_cons (qs_expr (qe_bm PySem.F.plainAttrs_list PySem.F.slot_list_append PySem.F.type_list_append mq_append (qv 10) (qa_cons (qe_call c_law_name hr (by omega) rfl (qa_cons (qv 0) (qa_cons (qv 10) qa_nil))) qa_nil)))
  (qss_cons (qs_set (i := 14) sc_law_within.nd rfl (Or.inl rfl) (qe_call c_law_kind hr (by omega) rfl (qa_cons (qv 0) (qa_cons qe_int (qa_cons (qe_lst (qa_cons qe_int qa_nil)) qa_nil)))))
  (qss_cons (qs_cut (qs_if (qt_cmpR oq_eq (qe_call c_law_draw hr (by omega) rfl (qa_cons (qv 0) (qa_cons qe_int qa_nil))) qe_int (nomark _)) (qss_cons (qs_set (i := 14) sc_law_within.nd rfl (Or.inl rfl) (qe_tup (qa_cons qe_str (qa_cons (qv 14) qa_nil))))
  qss_nil) qss_nil))
  (qss_cons (qs_cut (qs_if (qt_cmpR oq_eq (qv 13) (qv 9) (nomark _)) (qss_cons (qs_set (i := 14) sc_law_within.nd rfl (Or.inl rfl) (qv 1))
  qss_nil) qss_nil))
  (qss_cons (qs_expr (qe_bm PySem.F.plainAttrs_list PySem.F.slot_list_append PySem.F.type_list_append mq_append (qv 11) (qa_cons (qe_tup (qa_cons (qe_ix (qv 10) (qv 13) (fun _ _ => rfl)) (qa_cons (qv 14) qa_nil))) qa_nil)))
  (qss_cons (qs_expr (qe_bm PySem.F.plainAttrs_list PySem.F.slot_list_append PySem.F.type_list_append mq_append (qv 12) (qa_cons (qe_call c_law_worth hr (by omega) rfl (qa_cons (qv 0) (qa_cons (qv 14) (qa_cons (qe_lst (qa_cons qe_int qa_nil)) qa_nil)))) qa_nil)))
  qss_nil)))))))
  (qss_cons (qs_asg (qv 2) (qg_sub (qv 12) (qv 9)))
  (qss_cons (qs_if (qt_cmpR oq_eq (qv 4) qe_str (nomark _)) (qss_cons (qs_ret (qe_tup (qa_cons (qe_tup (qa_cons qe_str (qa_cons (qe_callTy cq_tuple rfl z_tuple bt_tuple (qa_cons (qv 11) qa_nil)) qa_nil))) (qa_cons (qe_tup (qa_cons (qe_ix (qv 10) (qv 9) (fun _ _ => rfl)) (qa_cons (qv 2) qa_nil))) (qa_cons (qe_op oq_cat (qe_tup (qa_cons (qe_ix (qv 10) (qv 9) (fun _ _ => rfl)) qa_nil)) (qv 3)) qa_nil)))))
  qss_nil) qss_nil)
  (qss_cons (qs_ret (qe_tup (qa_cons (qe_tup (qa_cons qe_str (qa_cons (qe_callTy cq_tuple rfl z_tuple bt_tuple (qa_cons (qv 11) qa_nil)) qa_nil))) (qa_cons (qe_callTy cq_tuple rfl z_tuple bt_tuple (qa_cons (qv 12) qa_nil)) (qa_cons (qe_op oq_cat (qe_tup (qa_cons (qe_ix (qv 10) (qv 9) (fun _ _ => rfl)) qa_nil)) (qv 3)) qa_nil)))))
  qss_nil))))))))))), ?_⟩
 simp only [start3]
 and_intros
 intro L hL
 and_intros
 refine ⟨a, 3, rfl, fl.new hL, by decide, by decide, fun r Γ1 r0 r1 fl1 k1 => ?_⟩
 obtain ⟨wd, hwd, hx⟩ : ∃ wd : Str, (wd = "row" ∨ wd = "rec" ∨ wd = "pick") ∧ atI [T.str "row", T.str "rec", T.str "pick"] r = some (.str wd) := by
  have : r = 0 ∨ r = 1 ∨ r = 2 := by omega
  rcases this with rfl | rfl | rfl
  ·exact ⟨_, .inl rfl, rfl⟩
  ·exact ⟨_, .inr (.inl rfl), rfl⟩
  ·exact ⟨_, .inr (.inr rfl), rfl⟩
 have kq1 : Kq [a] Γ Γ1 := (Kq.new hL _).trans k1.kq
 refine t_ixR (by rw [k1 L (by simpa using fl.nn hL)]; exact up_same) hx ?_
 and_intros
 refine c_if (fun c => ?_) (fun c => ?_)
 ·and_intros
  intro L2 hL2
  and_intros
  refine ⟨a, 4, rfl, fl1.new hL2, by decide, by decide, fun r2 Γ2 r20 r21 fl2 k2 => ?_⟩
  obtain ⟨n2, hn2, hx2⟩ := menu (ns := [3, 3, 3, 59]) r20 (by simpa using r21)
  have n2b : 0 < n2 ∧ n2 ≤ 59 := by
   simp only [List.mem_cons, List.not_mem_nil, or_false] at hn2
   omega
  refine t_ixR (by rw [k2 L2 (by simpa using fl1.nn hL2)]; exact up_same) hx2 ?_
  and_intros
  refine ⟨a, n2, rfl, fl2, by omega, by omega, fun ah Γ3 a0 a1 fl3 k3 => ?_⟩
  have kq3 : Kq [a] Γ Γ3 := ((kq1.trans (.new hL2 _)).trans k2.kq).trans k3.kq
  and_intros
  refine ⟨a, _, rfl, fl3, by split <;> omega, by split <;> omega, fun bh Γ4 b0 b1 fl4 k4 => ?_⟩
  have bb : bh < 3 ∧ bh < 60 - ah := by split at b1 <;> omega
  and_intros
  intro b hb
  and_intros
  refine ⟨a, b, k, rfl, fl4.new hb, ⟨4, up_same⟩, kg, by omega, by omega, fun one Γ5 ho fl5 on5 k5 => ?_⟩
  have kq5 : Kq [a] Γ Γ5 := kq2 (kq3.trans k4.kq) hb k5
  and_intros
  refine ⟨_, _, rfl, rfl, a0, by omega, by show 1 ≤ 1000; decide, ?_⟩
  rw [rep1]
  and_intros
  refine t_cat (Nat.le_of_lt (small1000 (by rw [List.length_replicate]; show ah.toNat + 1 ≤ 1000; omega))) ?_
  and_intros
  refine ⟨_, _, rfl, rfl, b0, by omega, by show 1 ≤ 1000; decide, ?_⟩
  rw [rep1]
  and_intros
  refine t_cat (Nat.le_of_lt (small1000 (by rw [List.length_append, List.length_replicate, List.length_replicate]; show ah.toNat + 1 + bh.toNat ≤ 1000; omega))) ?_
  and_intros
  refine t_cat (Nat.le_of_lt (small1000 (by show 1 + ps.length ≤ 1000; omega))) ?_
  and_intros
  refine ret1 fl5 kq5 fun Γ6 fl6 k6 => ?_
  have := q (.row k) (.tup (List.replicate ah.toNat one ++ [u] ++ List.replicate bh.toNat one)) (.int ah) Γ6 (by unfold Kd.good; exact kg) (by rw [Kd.depth]; omega) (by rw [Kd.depth]; omega) (Has.row (by rw [List.length_append, List.length_append, List.length_replicate, List.length_replicate]; show ah.toNat + 1 + bh.toNat ≤ 60; omega) (fun y hy => by
   rcases List.mem_append.mp hy with hy | hy
   ·rcases List.mem_append.mp hy with hy | hy
    ·rw [(List.mem_replicate.mp hy).2]; exact ho
    ·rw [List.mem_singleton.mp hy]; exact hu
   ·rw [(List.mem_replicate.mp hy).2]; exact ho)) (.int (by omega)) (if_pos ⟨a0, by omega⟩) fl6 k6
  rw [Kd.tr] at this
  exact this
 have hw2 : wd = "rec" ∨ wd = "pick" := hwd.resolve_left (d_strN c)
 and_intros
 refine ⟨a, 6, rfl, fl1, by decide, by decide, fun m0 Γ2 m00 m01 fl2 k2 => ?_⟩
 and_intros
 refine ⟨a, _, rfl, fl2, by omega, by omega, fun pl0 Γ3 p00 p01 fl3 k3 => ?_⟩
 and_intros
 intro N hN
 and_intros
 intro Fd hF
 and_intros
 intro Pt hP
 and_intros
 obtain ⟨n, hn⟩ : ∃ n : Nat, 1 + m0 = n := ⟨(1 + m0).toNat, by omega⟩
 obtain ⟨pc, rfl⟩ : ∃ n : Nat, pl0 = n := ⟨pl0.toNat, by omega⟩
 have n6 : 1 ≤ n ∧ n ≤ 6 := by omega
 have p01' : pc < n := by omega
 rw [hn]
 have kq3 : Kq [a] Γ Γ3 := (kq1.trans k2.kq).trans k3.kq
 refine ⟨n, rfl, by omega, by omega, ?_⟩
 refine ⟨fun rest τ Γ' => ∃ (i c : Nat) (gs : List (Str × Kd)) (ws : List T) (o13 o14 : Option T), rest = rngT i c ∧ i + c = n ∧ τ = [some (.ref a), some k.tr, some u, some (.tup ps), some (.str wd), none, none, none, some (.int n), some (.int pc), some (.ref N), some (.ref Fd), some (.ref Pt), o13, o14] ∧ gs.length = i ∧ WG k.depth gs ws ∧ (pc < i → ∃ m, gs[pc]? = some (m, k)) ∧ Sq Γ3 Γ' a N Fd Pt ((gs.map (·.1)).map T.str) (trF gs) ws, ?_, ?_, ?_⟩
 ·exact ⟨0, n, [], [], none, none, rfl, by omega, rfl, rfl, ⟨rfl, fun _ h => (nomatch h), List.nodup_nil, fun j m k t h => by simp at h⟩, fun h => absurd h (Nat.not_lt_zero _), Sq.mk0 fl3 hN hF hP⟩
 ·rintro τ Γ' ⟨i, c, gs, ws, o13, o14, er, ic, rfl, gl, W, hpc, S⟩
  have hc0 : c = 0 := by
   cases c with
   | zero => rfl
   | succ c => cases er
  subst hc0
  obtain ⟨m, hm⟩ := hpc (by omega)
  have hw : pc < ws.length := by rw [W.len]; omega
  refine ⟨trivial, ?_⟩
  and_intros
  refine t_hsub S.gP (ixN_nat hw) ?_
  have S2 := S.setP (xs := ws.set pc u)
  obtain ⟨gF, dF⟩ := goodF_of W.ok
  have ff := findF_at W.nd hm
  have nm8 : m.length ≤ 8 := (W.ok _ (List.mem_of_getElem? hm)).1.2.1
  have hnm : atI ((gs.map (·.1)).map T.str) (pc : Int) = some (.str m) := atI_nat (by rw [List.getElem?_map, List.getElem?_map, hm]; rfl)
  and_intros
  refine c_if (fun c => ?_) (fun c => ?_)
  ·and_intros
   refine ⟨_, _, rfl, it3_l S2.gF, ?_⟩
   and_intros
   refine t_ixR S2.gN hnm ?_
   and_intros
   refine t_ixR S2.gN hnm ?_
   and_intros
   refine t_cat (Nat.le_of_lt (small1000 (by show 1 + ps.length ≤ 1000; omega))) ?_
   and_intros
   refine ret1 S2.fl (kq3.trans S2.kq) fun Γ6 fl6 k6 => ?_
   have := q (.pick gs) (.tup [.str m, u]) (.str m) Γ6 (by unfold Kd.good; exact ⟨gF, by omega, by omega, W.nd⟩) (by rw [Kd.depth]; have : k.depth ≤ depthF gs := depthF_le (List.mem_of_getElem? hm); omega) (by rw [Kd.depth]; omega) (Has.pick ff hu) (.str (by omega)) (by show (findF gs m).map _ = _; rw [ff]; rfl) fl6 k6
   rw [Kd.tr] at this
   exact this
  ·and_intros
   refine ⟨_, _, rfl, it3_l S2.gF, ?_⟩
   and_intros
   refine ⟨_, _, rfl, it3_l S2.gP, ?_⟩
   and_intros
   refine t_ixR S2.gN hnm ?_
   and_intros
   refine t_cat (Nat.le_of_lt (small1000 (by show 1 + ps.length ≤ 1000; omega))) ?_
   and_intros
   refine ret1 S2.fl (kq3.trans S2.kq) fun Γ6 fl6 k6 => ?_
   have := q (.rec_ gs) (.tup (ws.set pc u)) (.str m) Γ6 (by unfold Kd.good; exact ⟨gF, by omega, by omega, W.nd⟩) (by rw [Kd.depth]; have : k.depth ≤ depthF gs := depthF_le (List.mem_of_getElem? hm); omega) (by rw [Kd.depth]; omega) (Has.rec_ (by rw [List.length_set]; exact W.len) (fun j m' k' t' a b => by
    by_cases e : pc = j
    ·subst e
     rw [hm] at a
     cases a
     rw [List.getElem?_set_self hw] at b
     cases b
     exact hu
    ·rw [List.getElem?_set_ne e] at b
     exact W.has j m' k' t' a b)) (.str (by omega)) (by show (byF gs (.str m)).map _ = _; rw [show byF gs (.str m) = some (pc, k) from ff]; rfl) fl6 k6
   rw [Kd.tr] at this
   exact this
 ·rintro x rr τ Γ' ⟨i, c, gs, ws, o13, o14, er, ic, rfl, gl, W, hpc, S⟩
  obtain ⟨c', rfl, rfl, rfl⟩ := rngT_cons er
  and_intros
  have l6 : gs.length ≤ 6 := by omega
  refine t_tyL S.gN ?_
  and_intros
  refine ⟨a, N, gs.map (·.1), rfl, S.fl, S.gN, by rw [List.length_map]; omega, fun z hz => ?_, fun z Γ4 nz ni fl4 k4 => ?_⟩
  ·obtain ⟨p, hp, rfl⟩ := List.mem_map.mp hz
   exact (W.ok p hp).1
  have S4 := S.call fl4 k4
  and_intros
  refine ⟨N, _, _, rfl, rfl, S4.gN, small1000 (by rw [List.length_map, List.length_map]; omega), ?_⟩
  have S5 := S4.setN (xs := (gs.map (·.1)).map T.str ++ [.str z])
  and_intros
  intro b hb
  and_intros
  refine ⟨a, b, 1, rfl, S5.fl.new hb, ⟨0, up_same⟩, by decide, by decide, by decide, fun k3 Γ6 kg3 kd3 fl6 on6 k6 => ?_⟩
  have S6 := S5.call2 hb fl6 k6
  and_intros
  refine ⟨fun τ Γ' => ∃ kb : Kd, τ = [some (.ref a), some k.tr, some u, some (.tup ps), some (.str wd), none, none, none, some (.int n), some (.int pc), some (.ref N), some (.ref Fd), some (.ref Pt), some (.int gs.length), some kb.tr] ∧ kb.good ∧ kb.depth ≤ 2 ∧ Sq Γ3 Γ' a N Fd Pt ((gs.map (·.1)).map T.str ++ [.str z]) (trF gs) ws, ?_, ?_⟩
  ·and_intros
   refine ⟨a, 3, rfl, S6.fl, by decide, by decide, fun r7 Γ7 _ _ fl7 k7 => ?_⟩
   have S7 := S6.call fl7 k7
   and_intros
   refine c_if (fun c => ?_) (fun c => ?_)
   ·and_intros
    exact ⟨.row k3, by rw [Kd.tr, ← gl]; rfl, by unfold Kd.good; exact kg3, by rw [Kd.depth]; omega, S7⟩
   ·and_intros
    exact ⟨k3, by rw [← gl]; rfl, kg3, by omega, S7⟩
  rintro τ Γ7 ⟨kb, rfl, kgb, kdb, S7⟩
  and_intros
  refine ⟨fun τ Γ' => ∃ kb : Kd, τ = [some (.ref a), some k.tr, some u, some (.tup ps), some (.str wd), none, none, none, some (.int n), some (.int pc), some (.ref N), some (.ref Fd), some (.ref Pt), some (.int gs.length), some kb.tr] ∧ kb.good ∧ kb.depth ≤ k.depth ∧ (gs.length = pc → kb = k) ∧ Sq Γ3 Γ' a N Fd Pt ((gs.map (·.1)).map T.str ++ [.str z]) (trF gs) ws, ?_, ?_⟩
  ·and_intros
   refine c_if (fun c => ?_) (fun c => ?_)
   ·and_intros
    exact ⟨k, rfl, kg, Nat.le_refl _, fun _ => rfl, S7⟩
   ·and_intros
    exact ⟨kb, rfl, kgb, by omega, fun e => by (rw [e] at c; simp at c), S7⟩
  rintro τ Γ8 ⟨kc, rfl, kgc, kdc, hck, S8⟩
  and_intros
  refine t_tyL S8.gF ?_
  and_intros
  have hz : ((gs.map (·.1)).map T.str ++ [T.str z])[gs.length]? = some (.str z) := by rw [List.getElem?_append_right (by rw [List.length_map, List.length_map]; exact Nat.le_refl _), List.length_map, List.length_map, Nat.sub_self]; rfl
  refine t_ixR S8.gN (atI_nat hz) ?_
  and_intros
  refine ⟨Fd, _, _, rfl, rfl, S8.gF, small1000 (by rw [trF_len]; omega), ?_⟩
  have S9 := S8.setF (xs := trF gs ++ [.tup [.str z, kc.tr]])
  and_intros
  refine t_tyL S9.gP ?_
  and_intros
  intro b2 hb2
  and_intros
  refine ⟨a, b2, kc, rfl, S9.fl.new hb2, ⟨3, up_same⟩, kgc, by omega, by omega, fun t Γ10 ht fl10 on10 k10 => ?_⟩
  have S10 := S9.call2 hb2 fl10 k10
  and_intros
  refine ⟨Pt, _, _, rfl, rfl, S10.gP, small1000 (by rw [W.len]; omega), ?_⟩
  have S11 := S10.setP (xs := ws ++ [t])
  and_intros
  refine ⟨gs.length + 1, c', gs ++ [(z, kc)], ws ++ [t], _, _, by rw [gl]; rfl, by omega, rfl, by rw [List.length_append]; rfl, W.snoc nz ni kgc kdc ht, fun h => ?_, ?_⟩
  ·by_cases e : gs.length = pc
   ·refine ⟨z, ?_⟩
    rw [hck e, ← e]; simp
   ·obtain ⟨m, hm⟩ := hpc (by omega)
    exact ⟨m, by rw [List.getElem?_append_left (by omega)]; exact hm⟩
  ·rw [List.map_append, List.map_append, trF_app]
   exact S11
end
theorem tr_non : ∀ k : Kd, isNon k.tr = false
 | .num _ => by rw [Kd.tr]; rfl
 | .text => by rw [Kd.tr]; rfl
 | .row _ => by rw [Kd.tr]; rfl
 | .rec_ _ => by rw [Kd.tr]; rfl
 | .pick _ => by rw [Kd.tr]; rfl
theorem has_non {k : Kd} {u : T} (h : Has k u) : isNon u = false := by cases h <;> rfl
theorem atK_depth : ∀ {ps : List T} {k k' : Kd}, k.good → atK k ps = some k' → k'.depth ≤ k.depth
 | [], k, k', g, h => by cases h; exact Nat.le_refl _
 | p :: r, k, k', g, h => by
  have h : (match stepK k p with | some k' => atK k' r | none => none) = some k' := h
  cases e : stepK k p with
  | none => rw [e] at h; cases h
  | some k2 =>
   rw [e] at h
   obtain ⟨a, b⟩ := stepK_good g e
   have := atK_depth a h
   omega
section
variable {P : Program} {w : World} {K : PySem.W.Frag} {mg : Str → Option Value} {base : Heap} {f : Addr} {fd : FuncData} {v1 v2 v3 : Value} {dN dG dF : Addr}
abbrev s_law_right : Stmt := top 48
theorem sc_law_right : FnScope ["flow", "choice", "deep", "inner", "room", "item", "many", "at", "worth", "kind", "path", "turn", "there", "more", "right"] ["flow"] (defScope s_law_right) := ⟨rfl, rfl, rfl, by decide +kernel, rfl, by decide +kernel, by decide +kernel⟩
def spRight : Sp3 := fun ts Γ Z _ => ∃ a : Addr, ts = [.ref a] ∧ FlowAt Γ a ∧ ∀ Γ', Z (.bl true) Γ'
theorem ok_right (F : Fun K "_law_right" "_law_right" s_law_right f fd) (c_law_draw : Cl3 P w K mg base "_law_draw" 1 ["flow", "many"] spDr) (c_law_kind : Cl3 P w K mg base "_law_kind" 12 ["flow", "depth", "room"] (spKd 10)) (c_law_worth : Cl3 P w K mg base "_law_worth" 30 ["flow", "kind", "room"] (spWo 13)) (c_law_within : Cl3 P w K mg base "_law_within" 31 ["flow", "kind", "worth", "path"] spWn) (c_law_beside : Cl3 P w K mg base "_law_beside" 2 ["flow", "kind", "path"] spBs) (c_law_bent : Cl3 P w K mg base "_law_bent" 2 ["flow", "path"] spBt) (c_law_kind_at : Cl3 P w K mg base "_law_kind_at" 2 ["kind", "path"] spKA) (c_law_grown : Cl3 P w K mg base "_law_grown" 13 ["kind", "worth", "path", "item"] spGr) (z_range : mg "range" = none) : FnOk P w K mg base CX0 32 f fd ["flow"] (liSp spRight) := by
 refine okd F sc_law_right (fun ts Γ Z Y h => ?_) (fun cdv A outer s H E ts Γ Z Y hr h => ?_)
 ·obtain ⟨a, rfl, _⟩ := h
  rfl
 obtain ⟨a, rfl, fl, q⟩ := h
 refine ⟨_, (qss_cons (qs_set (i := 1) sc_law_right.nd rfl (Or.inl rfl) (qe_call c_law_draw hr (by omega) rfl (qa_cons (qv 0) (qa_cons qe_int qa_nil))))
  (qss_cons (qs_set (i := 2) sc_law_right.nd rfl (Or.inl rfl) (qe_call c_law_draw hr (by omega) rfl (qa_cons (qv 0) (qa_cons qe_int qa_nil))))
  (qss_cons (qs_set (i := 3) sc_law_right.nd rfl (Or.inl rfl) (qe_call c_law_draw hr (by omega) rfl (qa_cons (qv 0) (qa_cons (qe_ix (qe_lst (qa_cons qe_int (qa_cons qe_int (qa_cons qe_int (qa_cons qe_int qa_nil))))) (qv 2) (fun _ _ => rfl)) qa_nil))))
  (qss_cons (qs_set (i := 4) sc_law_right.nd rfl (Or.inl rfl) (qe_ix (qe_ix (qe_lst (qa_cons (qe_lst (qa_cons qe_int (qa_cons qe_int (qa_cons qe_int qa_nil)))) (qa_cons (qe_lst (qa_cons qe_int (qa_cons qe_int (qa_cons qe_int qa_nil)))) qa_nil))) (qv 3) (fun _ _ => rfl)) (qe_call c_law_draw hr (by omega) rfl (qa_cons (qv 0) (qa_cons qe_int qa_nil))) (fun _ _ => rfl)))
  (qss_cons (qs_set (i := 5) sc_law_right.nd rfl (Or.inl rfl) (qe_call c_law_kind hr (by omega) rfl (qa_cons (qv 0) (qa_cons (qe_op oq_add qe_int (qv 3)) (qa_cons (qe_lst (qa_cons qe_int qa_nil)) qa_nil)))))
  (qss_cons (qs_set (i := 6) sc_law_right.nd rfl (Or.inl rfl) (qe_ix (qe_lst (qa_cons qe_int (qa_cons qe_int (qa_cons qe_int (qa_cons qe_int (qa_cons qe_int (qa_cons qe_int (qa_cons qe_int (qa_cons qe_int qa_nil))))))))) (qe_call c_law_draw hr (by omega) rfl (qa_cons (qv 0) (qa_cons qe_int qa_nil))) (fun _ _ => rfl)))
  (qss_cons (qs_set (i := 7) sc_law_right.nd rfl (Or.inl rfl) (qe_call c_law_draw hr (by omega) rfl (qa_cons (qv 0) (qa_cons (qe_op oq_add (qv 6) qe_int) qa_nil))))
  (qss_cons (qs_set (i := 8) sc_law_right.nd rfl (Or.inl rfl) (qe_op oq_cat (qe_op oq_rep (qe_tup (qa_cons (qe_call c_law_worth hr (by omega) rfl (qa_cons (qv 0) (qa_cons (qv 5) (qa_cons (qe_lst (qa_cons (qv 4) qa_nil)) qa_nil)))) qa_nil)) (qv 7)) (qe_op oq_rep (qe_tup (qa_cons (qe_call c_law_worth hr (by omega) rfl (qa_cons (qv 0) (qa_cons (qv 5) (qa_cons (qe_lst (qa_cons (qv 4) qa_nil)) qa_nil)))) qa_nil)) (qe_op oq_sub (qv 6) (qv 7)))))
  (qss_cons (qs_set (i := 9) sc_law_right.nd rfl (Or.inl rfl) (qe_tup (qa_cons qe_str (qa_cons (qv 5) qa_nil))))
  (qss_cons (qs_set (i := 10) sc_law_right.nd rfl (Or.inl rfl) (qe_tup qa_nil))
  (qss_cons (qs_for PassesOwn.never rfl (qi_range1 rfl z_range (qa_cons (qv 2) qa_nil)) (qg_name (i := 11) sc_law_right.nd rfl (Or.inl rfl)) (qss_cons (qs_asg (qe_call c_law_within hr (by omega) rfl (qa_cons (qv 0) (qa_cons (qv 9) (qa_cons (qv 8) (qa_cons (qv 10) qa_nil))))) (qg_tup (n := 3) rfl (qgs_cons (qg_name (i := 9) sc_law_right.nd rfl (Or.inl rfl)) (qgs_cons (qg_name (i := 8) sc_law_right.nd rfl (Or.inl rfl)) (qgs_cons (qg_name (i := 10) sc_law_right.nd rfl (Or.inl rfl)) qgs_nil)))))
  qss_nil))
  (qss_cons (qs_cut (qs_if (qt_cmpR oq_eq (qv 1) qe_int (nomark _)) (qss_cons (qs_set (i := 10) sc_law_right.nd rfl (Or.inl rfl) (qe_call c_law_beside hr (by omega) rfl (qa_cons (qv 0) (qa_cons (qv 9) (qa_cons (qv 10) qa_nil)))))
  qss_nil) qss_nil))
  (qss_cons (qs_cut (qs_if (qt_cmpR oq_eq (qv 1) qe_int (nomark _)) (qss_cons (qs_set (i := 10) sc_law_right.nd rfl (Or.inl rfl) (qe_call c_law_bent hr (by omega) rfl (qa_cons (qv 0) (qa_cons (qv 10) qa_nil))))
  qss_nil) qss_nil))
  (qss_cons (qs_set (i := 12) sc_law_right.nd rfl (Or.inl rfl) (qe_call c_law_kind_at hr (by omega) rfl (qa_cons (qv 9) (qa_cons (qv 10) qa_nil))))
  (qss_cons (qs_cut (qs_if (PW.pt (qw_and (qt_cmpR oq_notN (qv 12) qe_non (nomark _)) (qw_and1 (qt_cmpR oq_eq (qe_ix (qv 12) qe_int (fun _ _ => rfl)) qe_str (nomark _))))) (qss_cons (qs_set (i := 5) sc_law_right.nd rfl (Or.inl rfl) (qe_ix (qv 12) qe_int (fun _ _ => rfl)))
  qss_nil) qss_nil))
  (qss_cons (qs_for PassesOwn.never rfl (qi_range1 rfl z_range (qa_cons qe_int qa_nil)) (qg_name (i := 11) sc_law_right.nd rfl (Or.inl rfl)) (qss_cons (qs_set (i := 13) sc_law_right.nd rfl (Or.inl rfl) (qe_call c_law_worth hr (by omega) rfl (qa_cons (qv 0) (qa_cons (qv 5) (qa_cons (qe_lst (qa_cons (qv 4) qa_nil)) qa_nil)))))
  (qss_cons (qs_asg (qe_call c_law_grown hr (by omega) rfl (qa_cons (qv 9) (qa_cons (qv 8) (qa_cons (qv 10) (qa_cons (qv 13) qa_nil))))) (qg_tup (n := 2) rfl (qgs_cons (qg_name (i := 8) sc_law_right.nd rfl (Or.inl rfl)) (qgs_cons (qg_name (i := 14) sc_law_right.nd rfl (Or.inl rfl)) qgs_nil))))
  (qss_cons (qs_if (PW.pt (qw_or (qt_cmpR oq_isN (qv 8) qe_non (nomark _)) (qw_or1 (qt_not (qt_val (qv 14)))))) (qss_cons (qs_ret (qv 14))
  qss_nil) qss_nil)
  qss_nil))))
  (qss_cons (qs_ret qe_bl)
  qss_nil))))))))))))))))), ?_⟩
 simp only [start3]
 and_intros
 refine ⟨a, 4, rfl, fl, by decide, by decide, fun ch Γ1 c0 c4 fl1 k1 => ?_⟩
 and_intros
 refine ⟨a, 4, rfl, fl1, by decide, by decide, fun dp Γ2 d0 d4 fl2 k2 => ?_⟩
 and_intros
 intro L hL
 and_intros
 obtain ⟨n3, hx3, n31, n32, n33⟩ : ∃ n : Int, atI [T.int 2, T.int 2, T.int 2, T.int 1] dp = some (.int n) ∧ 1 ≤ n ∧ n ≤ 2 ∧ (dp = 3 → n = 1) := by
  have : dp = 0 ∨ dp = 1 ∨ dp = 2 ∨ dp = 3 := by omega
  rcases this with rfl | rfl | rfl | rfl
  ·exact ⟨2, rfl, by decide, by decide, fun h => absurd h (by decide)⟩
  ·exact ⟨2, rfl, by decide, by decide, fun h => absurd h (by decide)⟩
  ·exact ⟨2, rfl, by decide, by decide, fun h => absurd h (by decide)⟩
  ·exact ⟨1, rfl, by decide, by decide, fun _ => rfl⟩
 refine t_ixR up_same hx3 ?_
 and_intros
 refine ⟨a, n3, rfl, fl2.new hL, by omega, by omega, fun inn Γ3 i0 i1 fl3 k3 => ?_⟩
 have hid : inn ≤ 1 ∧ inn + dp ≤ 3 := by
  refine ⟨by omega, ?_⟩
  by_cases e : dp = 3
  ·have := n33 e; omega
  ·omega
 and_intros
 intro LA hLA
 and_intros
 intro LB hLB
 and_intros
 intro LC hLC
 and_intros
 have nA := fl3.nn hLA
 obtain ⟨X, ns, hX, gX, nl, nX⟩ : ∃ (X : Addr) (ns : List Int), atI [T.ref LA, T.ref LB] inn = some (.ref X) ∧ (up (up (up Γ3 LA (.lst [.int 4, .int 4, .int 60])) LB (.lst [.int 4, .int 4, .int 9])) LC (.lst [.ref LA, .ref LB])) X = some (.lst (ns.map T.int)) ∧ ns.length = 3 ∧ X ≠ a := by
  have h01 : inn = 0 ∨ inn = 1 := by omega
  obtain ⟨hB1, nBA⟩ := none_up hLB
  rcases h01 with rfl | rfl
  ·refine ⟨LA, [4, 4, 60], rfl, ?_, rfl, nA⟩
   have g1 : (up (up Γ3 LA (.lst [.int 4, .int 4, .int 60])) LB (.lst [.int 4, .int 4, .int 9])) LA = some (.lst [.int 4, .int 4, .int 60]) := by rw [up_ne nBA.symm]; exact up_same
   rw [up_ne (gnn g1 hLC)]; exact g1
  ·refine ⟨LB, [4, 4, 9], rfl, ?_, rfl, fl3.nn hB1⟩
   rw [up_ne (gnn up_same hLC)]; exact up_same
 refine t_ixR up_same hX ?_
 and_intros
 refine ⟨a, 3, rfl, ((fl3.new hLA).new hLB).new hLC, by decide, by decide, fun r4 Γ4 r40 r41 fl4 k4 => ?_⟩
 obtain ⟨rm, _, hx4⟩ := menu (ns := ns) r40 (by rw [nl]; exact r41)
 refine t_ixR (by rw [k4 X (by simpa using nX)]; exact gX) hx4 ?_
 and_intros
 intro b5 hb5
 and_intros
 refine ⟨a, b5, 1 + inn, rfl, fl4.new hb5, ⟨0, up_same⟩, by omega, by omega, by omega, fun ki Γ5 kgi kdi fl5 on5 k5 => ?_⟩
 and_intros
 intro L6 hL6
 and_intros
 refine ⟨a, 8, rfl, fl5.new hL6, by decide, by decide, fun r6 Γ6 r60 r61 fl6 k6 => ?_⟩
 obtain ⟨mn, hmn, hx6⟩ := menu (ns := [0, 1, 2, 3, 57, 58, 59, 60]) r60 (by simpa using r61)
 have mb : 0 ≤ mn ∧ mn ≤ 60 := by
  simp only [List.mem_cons, List.not_mem_nil, or_false] at hmn
  omega
 refine t_ixR (by rw [k6 L6 (by simpa using fl5.nn hL6)]; exact up_same) hx6 ?_
 and_intros
 refine ⟨a, mn + 1, rfl, fl6, by omega, by omega, fun at_ Γ7 a0 a1 fl7 k7 => ?_⟩
 and_intros
 intro b8 hb8
 and_intros
 refine ⟨a, b8, ki, rfl, fl7.new hb8, ⟨rm, up_same⟩, kgi, by omega, by omega, fun w1 Γ8 hw1 fl8 on8 k8 => ?_⟩
 and_intros
 refine ⟨_, _, rfl, rfl, a0, by omega, by show 1 ≤ 1000; decide, ?_⟩
 rw [rep1]
 and_intros
 intro b9 hb9
 and_intros
 refine ⟨a, b9, ki, rfl, fl8.new hb9, ⟨rm, up_same⟩, kgi, by omega, by omega, fun w2 Γ9 hw2 fl9 on9 k9 => ?_⟩
 and_intros
 refine ⟨_, _, rfl, rfl, by omega, by omega, by show 1 ≤ 1000; decide, ?_⟩
 rw [rep1]
 and_intros
 refine t_cat (Nat.le_of_lt (small1000 (by rw [List.length_replicate, List.length_replicate]; omega))) ?_
 and_intros
 have hrow : Has (.row ki) (.tup (List.replicate at_.toNat w1 ++ List.replicate (mn - at_).toNat w2)) := Has.row (by rw [List.length_append, List.length_replicate, List.length_replicate]; omega) (fun y hy => by
  rcases List.mem_append.mp hy with hy | hy
  ·rw [(List.mem_replicate.mp hy).2]; exact hw1
  ·rw [(List.mem_replicate.mp hy).2]; exact hw2)
 have dpos := depth_pos ki
 refine ⟨dp, rfl, by omega, by omega, ?_⟩
 refine ⟨fun rest τ Γ' => ∃ (lo : Int) (c : Nat) (k' : Kd) (u' : T) (ps : List T) (o11 : Option T), rest = rngT lo c ∧ τ = [some (.ref a), some (.int ch), some (.int dp), some (.int inn), some (.int rm), some ki.tr, some (.int mn), some (.int at_), some u', some k'.tr, some (.tup ps), o11, none, none, none] ∧ k'.good ∧ 2 ≤ k'.depth ∧ k'.depth + c ≤ 5 ∧ Has k' u' ∧ ps.length + c ≤ 3 ∧ (∀ p ∈ ps, Sm p) ∧ atK k' ps = some (.row ki) ∧ FlowAt Γ' a, ?_, ?_, ?_⟩
 ·exact ⟨0, dp.toNat, .row ki, _, [], none, rfl, by rw [Kd.tr]; rfl, by unfold Kd.good; exact kgi, by rw [Kd.depth]; omega, by rw [Kd.depth]; omega, hrow, by show 0 + dp.toNat ≤ 3; omega, fun _ h => (nomatch h), rfl, fl9⟩
 rotate_left
 ·rintro x rr τ Γ' ⟨lo, c, k', u', ps, o11, er, rfl, kg', kd2, kd5, hu', pl, sp, ea, fl'⟩
  obtain ⟨c', rfl, rfl, rfl⟩ := rngT_cons er
  and_intros
  refine ⟨a, k', u', ps, rfl, fl', kg', kd2, by omega, hu', by omega, sp, fun k2 u2 p2 Γ2 kg2 kd22 kd23 hu2 sp2 st fl2 fr2 => ?_⟩
  and_intros
  refine ⟨lo + 1, c', k2, u2, p2 :: ps, _, rfl, rfl, kg2, kd22, by omega, hu2, by rw [List.length_cons]; omega, fun p hp => ?_, ?_, fl2⟩
  ·rcases List.mem_cons.mp hp with rfl | hp
   ·exact sp2
   ·exact sp p hp
  ·show (match stepK k2 p2 with | some k' => atK k' ps | none => none) = _
   rw [st]; exact ea
 rintro τ Γ' ⟨lo, c, k', u', ps, o11, er, rfl, kg', kd2, kd5, hu', pl, sp, ea, fl'⟩
 refine ⟨trivial, ?_⟩
 and_intros
 have sp' : ∀ p ∈ ps, Sx p := fun p hp => (sp p hp).sx
 refine ⟨fun τ Γ' => ∃ qs : List T, τ = [some (.ref a), some (.int ch), some (.int dp), some (.int inn), some (.int rm), some ki.tr, some (.int mn), some (.int at_), some u', some k'.tr, some (.tup qs), o11, none, none, none] ∧ (∀ p ∈ qs, Sx p) ∧ (ch = 2 → qs = ps) ∧ FlowAt Γ' a, ?_, ?_⟩
 ·and_intros
  refine c_if (fun c => ?_) (fun c => ?_)
  ·have c := d_int c
   and_intros
   refine ⟨a, k', .row ki, ps, rfl, fl', kg', by omega, sp', ea, fun qs Γ7 hq fl7 k7 => ?_⟩
   and_intros
   exact ⟨qs, rfl, hq, fun h => by omega, fl7⟩
  ·and_intros
   exact ⟨ps, rfl, sp', fun _ => rfl, fl'⟩
 rintro τ Γ10 ⟨qs, rfl, hq, hqp, fl10⟩
 and_intros
 refine ⟨fun τ Γ' => ∃ rs : List T, τ = [some (.ref a), some (.int ch), some (.int dp), some (.int inn), some (.int rm), some ki.tr, some (.int mn), some (.int at_), some u', some k'.tr, some (.tup rs), o11, none, none, none] ∧ (∀ p ∈ rs, Sx p) ∧ FlowAt Γ' a, ?_, ?_⟩
 ·and_intros
  refine c_if (fun c => ?_) (fun c => ?_)
  ·have c := d_int c
   cases hqp c
   and_intros
   refine ⟨a, ps, rfl, fl10, by omega, sp, fun rs Γ8 hr8 fl8 k8 => ?_⟩
   and_intros
   exact ⟨rs, rfl, hr8, fl8⟩
  ·and_intros
   exact ⟨qs, rfl, hq, fl10⟩
 rintro τ Γ11 ⟨rs, rfl, hrs, fl11⟩
 and_intros
 refine ⟨k', rs, rfl, kg', hrs, ?_⟩
 and_intros
 refine ⟨fun τ Γ' => ∃ kj : Kd, τ = [some (.ref a), some (.int ch), some (.int dp), some (.int inn), some (.int rm), some kj.tr, some (.int mn), some (.int at_), some u', some k'.tr, some (.tup rs), o11, some (resK (atK k' rs)), none, none] ∧ kj.good ∧ kj.depth ≤ 5 ∧ (∀ kk, atK k' rs = some (.row kk) → kk = kj) ∧ FlowAt Γ' a, ?_, ?_⟩
 ·cases et : atK k' rs with
  | none =>
   and_intros
   exact ⟨ki, rfl, kgi, by omega, fun kk h => (by cases h), fl11⟩
  | some kt =>
   simp only [resK]
   have kgt := atK_good kg' et
   have kdt := atK_depth kg' et
   and_intros
   refine c_ifT (by rw [tr_non]; rfl) ?_
   and_intros
   cases kt with
   | row kk =>
    unfold Kd.good at kgt
    rw [Kd.depth] at kdt
    rw [Kd.tr]
    and_intros
    exact ⟨kk, rfl, kgt, by omega, fun k9 h => (by cases h; rfl), fl11⟩
   | num w => rw [Kd.tr]; and_intros; exact ⟨ki, rfl, kgi, by omega, fun kk h => (by cases h), fl11⟩
   | text => rw [Kd.tr]; and_intros; exact ⟨ki, rfl, kgi, by omega, fun kk h => (by cases h), fl11⟩
   | rec_ fs => rw [Kd.tr]; and_intros; exact ⟨ki, rfl, kgi, by omega, fun kk h => (by cases h), fl11⟩
   | pick fs => rw [Kd.tr]; and_intros; exact ⟨ki, rfl, kgi, by omega, fun kk h => (by cases h), fl11⟩
 rintro τ Γ12 ⟨kj, rfl, kgj, kdj, hkj, fl12⟩
 and_intros
 refine ⟨4, rfl, by decide, by decide, ?_⟩
 refine ⟨fun rest τ Γ' => ∃ (lo : Int) (c : Nat) (v : T) (o11 o13 o14 : Option T), rest = rngT lo c ∧ τ = [some (.ref a), some (.int ch), some (.int dp), some (.int inn), some (.int rm), some kj.tr, some (.int mn), some (.int at_), some v, some k'.tr, some (.tup rs), o11, some (resK (atK k' rs)), o13, o14] ∧ Has k' v ∧ FlowAt Γ' a, ?_, ?_, ?_⟩
 ·exact ⟨0, 4, u', _, _, _, rfl, rfl, hu', fl12⟩
 ·rintro τ Γ' ⟨lo, c, v, o11, o13, o14, er, rfl, hv, fl'⟩
  refine ⟨trivial, ?_⟩
  and_intros
  exact drop0 .refl (q _)
 ·rintro x rr τ Γ' ⟨lo, c, v, o11, o13, o14, er, rfl, hv, fl13⟩
  obtain ⟨c', rfl, rfl, rfl⟩ := rngT_cons er
  and_intros
  intro b14 hb14
  and_intros
  refine ⟨a, b14, kj, rfl, fl13.new hb14, ⟨rm, up_same⟩, kgj, by omega, by omega, fun mo Γ14 hmo fl14 on14 k14 => ?_⟩
  and_intros
  refine ⟨k', v, rs, mo, rfl, kg', by omega, hv, hrs, fun kk us e => ?_, ?_, fun v2 hv2 => ?_⟩
  ·rw [hkj kk (partW_K (u' := .tup us) kg' hv e)]; exact hmo
  ·and_intros
   exact drop0 .refl (q _)
  ·and_intros
   refine c_ifF (has_non hv2) ?_
   and_intros
   exact ⟨lo + 1, c', v2, _, _, _, rfl, rfl, hv2, fl14⟩
end
theorem cls_exc {K : PySem.W.Frag} {C : Addr} {bm : List Value} {n : String} (q : PySem.W.excIn K C bm n = true) : (PySem.W.clsIn K C).isSome = true := by
 unfold PySem.W.excIn at q
 unfold PySem.W.clsIn
 split at q
 ·rename_i ho
  rw [ho]; rfl
 ·cases q
theorem _root_.L2.CalleeX.mono {P : Program} {w : World} {K : PySem.W.Frag} {mg : Str → Option Value} {base : Heap} {x : Str} {j k : Nat} {ps : List Str} {sp : Sp} (c : L2.CalleeX P w K mg base x j ps sp) (h : j ≤ k) : L2.CalleeX P w K mg base x k ps sp := by
 obtain ⟨f, fd, F, m, kp, b⟩ := c
 exact ⟨f, fd, F.mono h, m, kp, b⟩
section
variable {P : Program} {w : World} {K : PySem.W.Frag} {mg : Str → Option Value} {base : Heap} {f : Addr} {fd : FuncData} {v1 v2 v3 : Value} {dN dG d1 d2 d3 d4 d5 d6 d7 d8 d9 d10 d11 : Addr}
def spCe (K : PySem.W.Frag) : Sp3 := fun ts Γ Z _ => ∃ (a : Addr) (ns : List Int) (k : Int), ts = [.scr K a (ns.map T.int), .int k] ∧ 0 ≤ k ∧ ∀ c : Int, Z (.int c) Γ
theorem ok_cell3 (F : Fun K "_law_cell_at" "_law_cell_at" s_law_cell_at f fd) (z_len : mg "len" = none) : FnOk P w K mg base CX0 1 f fd ["script", "k"] (liSp (spCe K)) := by
 refine okd F sc_law_cell_at (fun ts Γ Z Y h => ?_) (fun cdv A outer s H E ts Γ Z Y hr h => ?_)
 ·obtain ⟨a, ns, k, rfl, _⟩ := h
  rfl
 obtain ⟨a, ns, k, rfl, k0, q⟩ := h
 refine ⟨_, (qss_cons (qs_if (qt_cmpR oq_lt (qv 1) (qe_callB cq_lenC rfl z_len PySem.boot_len (qa_cons (qv 0) qa_nil)) (nomark _)) (qss_cons (qs_ret (qe_ixC (qv 0) (qv 1) (fun _ _ => rfl)))
  qss_nil) qss_nil)
  (qss_cons (qs_ret qe_int)
  qss_nil)), ?_⟩
 simp only [start3]
 and_intros
 refine ⟨a, _, rfl, ?_⟩
 and_intros
 refine c_if (fun c => ?_) (fun c => ?_)
 ·have c := of_decide_eq_true c
  rw [List.length_map] at c
  and_intros
  obtain ⟨j, rfl⟩ : ∃ j : Nat, k = j := ⟨k.toNat, by omega⟩
  have hk : j < ns.length := by omega
  have e : atI (ns.map T.int) (j : Int) = some (.int ns[j]) := atI_nat (by simp [hk])
  refine ⟨a, _, _, _, rfl, rfl, e, ?_⟩
  exact drop0 .refl (q _)
 ·and_intros
  exact drop0 .refl (q _)
def spFw : Sp3 := fun ts Γ Z _ => ∃ c : Int, ts = [.int c] ∧ ∀ (a : Addr) (Γ' : Gp), Γ a = none → FlowAt Γ' a → Fr [a] Γ Γ' → Z (.ref a) Γ'
theorem br_flow {k : Nat} (c : Callee P w K mg base "_law_flow" k ["cell"] spFlow) : Cl3 P w K mg base "_law_flow" k ["cell"] spFw :=
 c.imp fun vs H Q E ⟨ts, Γ, Z, Y, r, hr, ⟨c, e, q⟩, vr, xr⟩ => by
  subst e
  obtain ⟨v, rfl, r1⟩ := rs1 r
  refine ⟨c, by rw [i_int r1], fun a H' ha sm fl => ?_⟩
  obtain ⟨f0, f1, f2, e', b'⟩ := fl
  have g := hr.free ha
  have tq : Tq H H' := tq_kp sm
  refine vr _ _ H' (up Γ a (.lst [.int f0, .int f1, .int f2])) ⟨tq, fun x h z => ?_, fun x h g' => ?_, fun x o h _ => sm x o h⟩ (fun x o g' => ?_) r_ref (q a _ g ⟨f0, f1, f2, up_same, b'⟩ (Fr.set (by simp) _))
  ·cases e : H x with
   | none => exact h e
   | some o => exact (by rw [sm x o e] at z; cases z)
  ·have : x ≠ a := fun z => h (by rw [z]; exact ha)
   rw [up_ne this]; exact g'
  ·by_cases z : x = a
   ·subst z; rw [up_same] at g'; cases g'; exact ⟨_, e', rs_of_ints [f0, f1, f2]⟩
   ·rw [up_ne z] at g'; exact (hr x o g').mono tq (sm x)
abbrev s_law : Stmt := top 49
theorem sc_law : FnScope ["script", "k"] ["script"] (defScope s_law) := ⟨rfl, rfl, rfl, by decide +kernel, rfl, by decide +kernel, by decide +kernel⟩
def spLaw3 (K : PySem.W.Frag) : Sp3 := fun ts Γ Z _ => ∃ (a : Addr) (ns : List Int), ts = [.scr K a (ns.map T.int)] ∧ ns.length ≤ 63 ∧ ∀ Γ', Z (.bl true) Γ'
theorem ok_law3 (F : Fun K "law" "law" s_law f fd) (c_law_right : Cl3 P w K mg base "_law_right" 32 ["flow"] spRight) (c_law_flow : Cl3 P w K mg base "_law_flow" 1 ["cell"] spFw) (c_law_cell_at : Cl3 P w K mg base "_law_cell_at" 1 ["script", "k"] (spCe K))
  (z_range : mg "range" = none) (z_max : mg "max" = none) (z_min : mg "min" = none) (z_len : mg "len" = none) : FnOk P w K mg base CX0 33 f fd ["script"] (liSp (spLaw3 K)) := by
 refine okd F sc_law (fun ts Γ Z Y h => ?_) (fun cdv A outer s H E ts Γ Z Y hr h => ?_)
 ·obtain ⟨a, ns, rfl, _⟩ := h
  rfl
 obtain ⟨a, ns, rfl, h63, q⟩ := h
 refine ⟨_, (qss_cons (qs_for PassesOwn.never rfl (qi_range1 rfl z_range (qa_cons (qe_callB (cq_max2 rfl) rfl z_max PyProof.Rows.boot_max (qa_cons qe_int (qa_cons (qe_callB (cq_min2 rfl) rfl z_min PyProof.Rows.boot_min (qa_cons (qe_callB cq_lenC rfl z_len PySem.boot_len (qa_cons (qv 0) qa_nil)) (qa_cons qe_int qa_nil))) qa_nil))) qa_nil)) (qg_name (i := 1) sc_law.nd rfl (Or.inl rfl)) (qss_cons (qs_if (qt_not (qt_val (qe_call c_law_right hr (by omega) rfl (qa_cons (qe_call c_law_flow hr (by omega) rfl (qa_cons (qe_call c_law_cell_at hr (by omega) rfl (qa_cons (qv 0) (qa_cons (qv 1) qa_nil))) qa_nil)) qa_nil)))) (qss_cons (qs_ret qe_bl)
  qss_nil) qss_nil)
  qss_nil))
  (qss_cons (qs_ret qe_bl)
  qss_nil)), ?_⟩
 simp only [start3]
 and_intros
 refine ⟨a, _, rfl, ?_⟩
 rw [List.length_map]
 and_intros
 refine ⟨_, rfl, by split <;> split <;> omega, by split <;> split <;> omega, ?_⟩
 refine ⟨fun rest τ Γ' => ∃ (lo : Int) (c : Nat) (o : Option T), rest = rngT lo c ∧ 0 ≤ lo ∧ τ = [some (.scr K a (ns.map T.int)), o], ⟨0, _, none, rfl, by omega, rfl⟩, ?_, ?_⟩
 ·rintro τ Γ' ⟨lo, c, o, e, l0, rfl⟩
  refine ⟨trivial, ?_⟩
  and_intros
  exact drop0 .refl (q _)
 ·rintro x r τ Γ' ⟨lo, c, o, e, l0, rfl⟩
  obtain ⟨c', rfl, rfl, rfl⟩ := rngT_cons e
  and_intros
  refine ⟨a, ns, lo, rfl, l0, fun cl => ?_⟩
  and_intros
  refine ⟨cl, rfl, fun b Γ2 hb fl2 fr2 => ?_⟩
  and_intros
  refine ⟨b, rfl, fl2, fun Γ3 => ?_⟩
  and_intros
  exact ⟨lo + 1, c', _, rfl, by omega, rfl⟩
theorem no_calls {ps : List Str} {sp : Sp} {k : Nat} (no : ∀ vs H Q E, ¬ sp vs H Q E) : FnOk P w K mg base CX0 k f fd ps sp :=
 ⟨fun vs H Q E h => absurd h (no vs H Q E), fun A outer s H args us vs Q E _ _ _ _ h => absurd h (no vs H Q E)⟩
theorem kind_all (F : Fun K "_law_kind" "_law_kind" s_law_kind f fd) (m : mg "_law_kind" = some (.ref f)) (kp : PySem.W.keepIn K (.ref f) = true) (b : Binds K fd ["flow", "depth", "room"] [])
  (C4 : Callee P w K mg base "_law_draw" 1 ["flow", "many"] spDraw) (C5 : Callee P w K mg base "_law_name" 2 ["flow", "taken"] spName) (z_range : mg "range" = none) (z_tuple : mg "tuple" = none) :
  ∀ n : Nat, Callee P w K mg base "_law_kind" (2 + n) ["flow", "depth", "room"] (spKind n)
 | 0 => ⟨f, fd, no_calls fun vs H Q E h => by obtain ⟨_, _, d, _, _, _, h1, h2, _⟩ := h; have h3 : d < 0 := h2; omega, m, kp, b⟩
 | n + 1 => ⟨f, fd, ok_kind F C4 C5 (kind_all F m kp b C4 C5 z_range z_tuple n) z_range z_tuple, m, kp, b⟩
theorem leaves_all (F : Fun K "_law_leaves" "_law_leaves" s_law_leaves f fd) (m : mg "_law_leaves" = some (.ref f)) (kp : PySem.W.keepIn K (.ref f) = true) (b : Binds K fd ["kind"] []) (z_sum : mg "sum" = none) :
  ∀ n : Nat, Cl3 P w K mg base "_law_leaves" n ["kind"] (spLv n)
 | 0 => ⟨f, fd, noC fun ts Γ Z Y h => by obtain ⟨k, _, _, h, _⟩ := h; omega, m, kp, b⟩
 | n + 1 => ⟨f, fd, ok_leaves F (leaves_all F m kp b z_sum n) z_sum, m, kp, b⟩
theorem worth_all (F : Fun K "_law_worth" "_law_worth" s_law_worth f fd) (m : mg "_law_worth" = some (.ref f)) (kp : PySem.W.keepIn K (.ref f) = true) (b : Binds K fd ["flow", "kind", "room"] [])
  (C1 : Cl3 P w K mg base "_law_draw" 1 ["flow", "many"] spDr) (C2 : Cl3 P w K mg base "_law_number" 2 ["flow", "width"] spNm)
  (C3 : Cl3 P w K mg base "_law_many" 2 ["flow"] spMn) (C4 : Cl3 P w K mg base "_law_sign" 2 ["flow"] spSg) (C5 : Cl3 P w K mg base "_law_leaves" 13 ["kind"] (spLv 13))
  (z_min : mg "min" = none) (z_max : mg "max" = none) (z_range : mg "range" = none) (z_tuple : mg "tuple" = none) (z_len : mg "len" = none) :
  ∀ n : Nat, Cl3 P w K mg base "_law_worth" (17 + n) ["flow", "kind", "room"] (spWo n)
 | 0 => ⟨f, fd, noC fun ts Γ Z Y h => by obtain ⟨_, _, k, _, _, _, _, h, _⟩ := h; omega, m, kp, b⟩
 | n + 1 => ⟨f, fd, ok_worth F (worth_all F m kp b C1 C2 C3 C4 C5 z_min z_max z_range z_tuple z_len n) C1 C2 C3 C4 (C5.mono (Nat.le_trans (by decide : 13 ≤ 17) (Nat.le_add_right _ _))) (Nat.le_trans (by decide : 2 ≤ 17) (Nat.le_add_right _ _)) z_min z_max z_range z_tuple z_len, m, kp, b⟩
theorem with_all (F : Fun K "with_part" "with_part" s_with_part f fd) (m : mg "with_part" = some (.ref f)) (kp : PySem.W.keepIn K (.ref f) = true) (b : Binds K fd ["kind", "worth", "path", "part"] [])
  (C1 : Clx P w K mg base "step_kind" 2 ["kind", "step"] (spSt dN)) (C2 : Clx P w K mg base "part_place" 3 ["kind", "worth", "step"] (spPP dN)) :
  ∀ n : Nat, Clx P w K mg base "with_part" (n + 4) ["kind", "worth", "path", "part"] (spWi n dN)
 | 0 => ⟨f, fd, noC fun ts Γ Z Y h => by obtain ⟨k, _, _, _, _, _, h, _⟩ := h; omega, m, kp, b⟩
 | n + 1 => ⟨f, fd, by rw [show n + 1 + 4 = n + 4 + 1 by omega]; exact ok_with_part F C1 C2 (with_all F m kp b C1 C2 n), m, kp, b⟩
theorem isw_all (F : Fun K "_law_is_worth" "_law_is_worth" s_law_is_worth f fd) (m : mg "_law_is_worth" = some (.ref f)) (kp : PySem.W.keepIn K (.ref f) = true) (b : Binds K fd ["kind", "thing"] [])
  (C1 : Cl3 P w K mg base "_law_whole" 1 ["thing"] spLw) (z_isinstance : mg "isinstance" = none) (z_str : mg "str" = none) (z_len : mg "len" = none) (z_all : mg "all" = none) (z_tuple : mg "tuple" = none) (z_zip : mg "zip" = none) :
  ∀ n : Nat, Cl3 P w K mg base "_law_is_worth" (n + 2) ["kind", "thing"] (spIw n)
 | 0 => ⟨f, fd, noC fun ts Γ Z Y h => by obtain ⟨k, _, _, _, h, _⟩ := h; omega, m, kp, b⟩
 | n + 1 => ⟨f, fd, by rw [show n + 1 + 2 = n + 2 + 1 by omega]; exact ok_is_worth F C1 (isw_all F m kp b C1 z_isinstance z_str z_len z_all z_tuple z_zip n) z_isinstance z_str z_len z_all z_tuple z_zip, m, kp, b⟩
theorem holds_all (F : Fun K "_law_holds" "_law_holds" s_law_holds f fd) (m : mg "_law_holds" = some (.ref f)) (kp : PySem.W.keepIn K (.ref f) = true) (b : Binds K fd ["kind", "worth", "path"] []) (z_len : mg "len" = none) (z_range : mg "range" = none) :
  ∀ n : Nat, Cl3 P w K mg base "_law_holds" (n + 2) ["kind", "worth", "path"] (spHo n)
 | 0 => ⟨f, fd, noC fun ts Γ Z Y h => by obtain ⟨k, _, _, _, _, h, _⟩ := h; omega, m, kp, b⟩
 | n + 1 => ⟨f, fd, by rw [show n + 1 + 2 = n + 2 + 1 by omega]; exact ok_holds F (holds_all F m kp b z_len z_range n) z_len z_range, m, kp, b⟩
end
def spLaw (K : PySem.W.Frag) : Sp := fun vs H Q _ => ∃ (a : Addr) (ns : List Int), vs = [.ref a] ∧ Only H ∧ SqL K H a (ns.map V.int) ∧ ns.length ≤ 63 ∧ ∀ H', Q (.bl true) H'
theorem law_dn {K : PySem.W.Frag} (vs : List V) (H : Hp) (Q : VK) (E : XK) (h : spLaw K vs H Q E) : liSp (spLaw3 K) vs H Q E := by
 obtain ⟨a, ns, rfl, hO, hS, h63, q⟩ := h
 have sc : SqC K H a (ns.map V.int) := by
  rcases hS with (h | ⟨o, h⟩) | h
  ·rcases hO a with z | ⟨o, xs, z⟩
   ·rw [h] at z; cases z
   ·rw [h] at z; cases z
  ·exact .inl ⟨o, h⟩
  ·exact .inr h
 refine ⟨[.scr K a (ns.map T.int)], fun _ => none, fun x _ => x = .bl true, fun _ _ => False, rs_cons (r_scr sc (rs_of_ints ns)) rs_nil, fun _ _ h => (nomatch h), ⟨a, ns, rfl, h63, fun _ => rfl⟩, fun v x H' Γ' _ _ r z => ?_, fun _ _ _ _ _ z => z.elim⟩
 subst z
 rw [i_bl r]
 exact q H'
end Tg
set_option Elab.async false
set_option linter.all false
set_option maxRecDepth 100000
set_option maxHeartbeats 4000000
namespace Tg
open PySem L2 L3
theorem all_mk {l : PySem.W.OpenLaw} {w : World} {K : PySem.W.Frag} {h : Heap} {mg : Str → Option Value} {fa f1 f2 f3 f4 f5 f6 f7 f8 f9 f10 f11 f12 f13 f14 f15 f16 f17 f18 f19 f20 f21 f22 f23 f24 f25 f26 f27 f28 f29 f30 f31 f32 : Addr} (X : K.In h) (G : h.Ns mainGlobals mg) (hfa : mg "law" = some (.ref fa))
  {od1 an1 od2 an2 od3 an3 od4 an4 od5 an5 od6 an6 od7 an7 od8 an8 od9 an9 od10 an10 od11 an11 od12 an12 od13 an13 od14 an14 od15 an15 od16 an16 od17 an17 od18 an18 od19 an19 od20 an20 od21 an21 od22 an22 od23 an23 od24 an24 od25 an25 od26 an26 od27 an27 od28 an28 od29 an29 od30 an30 od31 an31 od32 an32 : Option Addr} {sl1 sl2 sl3 sl4 sl5 sl6 sl7 sl8 sl9 sl10 sl11 sl12 sl13 sl14 sl15 sl16 sl17 sl18 sl19 sl20 sl21 sl22 sl23 sl24 sl25 sl26 sl27 sl28 sl29 sl30 sl31 sl32 : Array (Option Value)} {oc1 kV1 dc1 pm1 cd1 ct1 oc2 kV2 dc2 pm2 cd2 ct2 oc3 kV3 dc3 pm3 cd3 ct3 oc4 kV4 dc4 pm4 cd4 ct4 oc5 kV5 dc5 pm5 cd5 ct5 oc6 kV6 dc6 pm6 cd6 ct6 oc7 kV7 dc7 pm7 cd7 ct7 oc8 kV8 dc8 pm8 cd8 ct8 oc9 kV9 dc9 pm9 cd9 ct9 oc10 kV10 dc10 pm10 cd10 ct10 oc11 kV11 dc11 pm11 cd11 ct11 oc12 kV12 dc12 pm12 cd12 ct12 oc13 kV13 dc13 pm13 cd13 ct13 oc14 kV14 dc14 pm14 cd14 ct14 oc15 kV15 dc15 pm15 cd15 ct15 oc16 kV16 dc16 pm16 cd16 ct16 oc17 kV17 dc17 pm17 cd17 ct17 oc18 kV18 dc18 pm18 cd18 ct18 oc19 kV19 dc19 pm19 cd19 ct19 oc20 kV20 dc20 pm20 cd20 ct20 oc21 kV21 dc21 pm21 cd21 ct21 oc22 kV22 dc22 pm22 cd22 ct22 oc23 kV23 dc23 pm23 cd23 ct23 oc24 kV24 dc24 pm24 cd24 ct24 oc25 kV25 dc25 pm25 cd25 ct25 oc26 kV26 dc26 pm26 cd26 ct26 oc27 kV27 dc27 pm27 cd27 ct27 oc28 kV28 dc28 pm28 cd28 ct28 oc29 kV29 dc29 pm29 cd29 ct29 oc30 kV30 dc30 pm30 cd30 ct30 oc31 kV31 dc31 pm31 cd31 ct31 oc32 kV32 dc32 pm32 cd32 ct32 : Value}
  (a1 : PySem.W.nsIn K mainGlobals "is_whole" = some (some (.ref f1))) (l1 : K.lookup f1 = some ⟨oc1, od1, .func (PySem.W.fnOf "is_whole" "is_whole" (defArgs s_is_whole) (defBody s_is_whole) (defScope s_is_whole) .none kV1 dc1 pm1 an1 cd1 ct1), sl1⟩) (c1 : PySem.W.codeIn K cd1 "is_whole" = true) (k1 : PySem.W.keepIn K (.ref f1) = true)
  (a2 : PySem.W.nsIn K mainGlobals "part_kind" = some (some (.ref f2))) (l2 : K.lookup f2 = some ⟨oc2, od2, .func (PySem.W.fnOf "part_kind" "part_kind" (defArgs s_part_kind) (defBody s_part_kind) (defScope s_part_kind) .none kV2 dc2 pm2 an2 cd2 ct2), sl2⟩) (c2 : PySem.W.codeIn K cd2 "part_kind" = true) (k2 : PySem.W.keepIn K (.ref f2) = true)
  (a3 : PySem.W.nsIn K mainGlobals "step_kind" = some (some (.ref f3))) (l3 : K.lookup f3 = some ⟨oc3, od3, .func (PySem.W.fnOf "step_kind" "step_kind" (defArgs s_step_kind) (defBody s_step_kind) (defScope s_step_kind) .none kV3 dc3 pm3 an3 cd3 ct3), sl3⟩) (c3 : PySem.W.codeIn K cd3 "step_kind" = true) (k3 : PySem.W.keepIn K (.ref f3) = true)
  (a4 : PySem.W.nsIn K mainGlobals "field_place" = some (some (.ref f4))) (l4 : K.lookup f4 = some ⟨oc4, od4, .func (PySem.W.fnOf "field_place" "field_place" (defArgs s_field_place) (defBody s_field_place) (defScope s_field_place) .none kV4 dc4 pm4 an4 cd4 ct4), sl4⟩) (c4 : PySem.W.codeIn K cd4 "field_place" = true) (k4 : PySem.W.keepIn K (.ref f4) = true)
  (a5 : PySem.W.nsIn K mainGlobals "part_of" = some (some (.ref f5))) (l5 : K.lookup f5 = some ⟨oc5, od5, .func (PySem.W.fnOf "part_of" "part_of" (defArgs s_part_of) (defBody s_part_of) (defScope s_part_of) .none kV5 dc5 pm5 an5 cd5 ct5), sl5⟩) (c5 : PySem.W.codeIn K cd5 "part_of" = true) (k5 : PySem.W.keepIn K (.ref f5) = true)
  (a6 : PySem.W.nsIn K mainGlobals "part_place" = some (some (.ref f6))) (l6 : K.lookup f6 = some ⟨oc6, od6, .func (PySem.W.fnOf "part_place" "part_place" (defArgs s_part_place) (defBody s_part_place) (defScope s_part_place) .none kV6 dc6 pm6 an6 cd6 ct6), sl6⟩) (c6 : PySem.W.codeIn K cd6 "part_place" = true) (k6 : PySem.W.keepIn K (.ref f6) = true)
  (a7 : PySem.W.nsIn K mainGlobals "with_part" = some (some (.ref f7))) (l7 : K.lookup f7 = some ⟨oc7, od7, .func (PySem.W.fnOf "with_part" "with_part" (defArgs s_with_part) (defBody s_with_part) (defScope s_with_part) .none kV7 dc7 pm7 an7 cd7 ct7), sl7⟩) (c7 : PySem.W.codeIn K cd7 "with_part" = true) (k7 : PySem.W.keepIn K (.ref f7) = true)
  (a8 : PySem.W.nsIn K mainGlobals "with_more" = some (some (.ref f8))) (l8 : K.lookup f8 = some ⟨oc8, od8, .func (PySem.W.fnOf "with_more" "with_more" (defArgs s_with_more) (defBody s_with_more) (defScope s_with_more) .none kV8 dc8 pm8 an8 cd8 ct8), sl8⟩) (c8 : PySem.W.codeIn K cd8 "with_more" = true) (k8 : PySem.W.keepIn K (.ref f8) = true)
  (a9 : PySem.W.nsIn K mainGlobals "_law_cell_at" = some (some (.ref f9))) (l9 : K.lookup f9 = some ⟨oc9, od9, .func (PySem.W.fnOf "_law_cell_at" "_law_cell_at" (defArgs s_law_cell_at) (defBody s_law_cell_at) (defScope s_law_cell_at) .none kV9 dc9 pm9 an9 cd9 ct9), sl9⟩) (c9 : PySem.W.codeIn K cd9 "_law_cell_at" = true) (k9 : PySem.W.keepIn K (.ref f9) = true)
  (a10 : PySem.W.nsIn K mainGlobals "_law_flow" = some (some (.ref f10))) (l10 : K.lookup f10 = some ⟨oc10, od10, .func (PySem.W.fnOf "_law_flow" "_law_flow" (defArgs s_law_flow) (defBody s_law_flow) (defScope s_law_flow) .none kV10 dc10 pm10 an10 cd10 ct10), sl10⟩) (c10 : PySem.W.codeIn K cd10 "_law_flow" = true) (k10 : PySem.W.keepIn K (.ref f10) = true)
  (a11 : PySem.W.nsIn K mainGlobals "_law_draw" = some (some (.ref f11))) (l11 : K.lookup f11 = some ⟨oc11, od11, .func (PySem.W.fnOf "_law_draw" "_law_draw" (defArgs s_law_draw) (defBody s_law_draw) (defScope s_law_draw) .none kV11 dc11 pm11 an11 cd11 ct11), sl11⟩) (c11 : PySem.W.codeIn K cd11 "_law_draw" = true) (k11 : PySem.W.keepIn K (.ref f11) = true)
  (a12 : PySem.W.nsIn K mainGlobals "_law_name" = some (some (.ref f12))) (l12 : K.lookup f12 = some ⟨oc12, od12, .func (PySem.W.fnOf "_law_name" "_law_name" (defArgs s_law_name) (defBody s_law_name) (defScope s_law_name) .none kV12 dc12 pm12 an12 cd12 ct12), sl12⟩) (c12 : PySem.W.codeIn K cd12 "_law_name" = true) (k12 : PySem.W.keepIn K (.ref f12) = true)
  (a13 : PySem.W.nsIn K mainGlobals "_law_kind" = some (some (.ref f13))) (l13 : K.lookup f13 = some ⟨oc13, od13, .func (PySem.W.fnOf "_law_kind" "_law_kind" (defArgs s_law_kind) (defBody s_law_kind) (defScope s_law_kind) .none kV13 dc13 pm13 an13 cd13 ct13), sl13⟩) (c13 : PySem.W.codeIn K cd13 "_law_kind" = true) (k13 : PySem.W.keepIn K (.ref f13) = true)
  (a14 : PySem.W.nsIn K mainGlobals "_law_sign" = some (some (.ref f14))) (l14 : K.lookup f14 = some ⟨oc14, od14, .func (PySem.W.fnOf "_law_sign" "_law_sign" (defArgs s_law_sign) (defBody s_law_sign) (defScope s_law_sign) .none kV14 dc14 pm14 an14 cd14 ct14), sl14⟩) (c14 : PySem.W.codeIn K cd14 "_law_sign" = true) (k14 : PySem.W.keepIn K (.ref f14) = true)
  (a15 : PySem.W.nsIn K mainGlobals "_law_number" = some (some (.ref f15))) (l15 : K.lookup f15 = some ⟨oc15, od15, .func (PySem.W.fnOf "_law_number" "_law_number" (defArgs s_law_number) (defBody s_law_number) (defScope s_law_number) .none kV15 dc15 pm15 an15 cd15 ct15), sl15⟩) (c15 : PySem.W.codeIn K cd15 "_law_number" = true) (k15 : PySem.W.keepIn K (.ref f15) = true)
  (a16 : PySem.W.nsIn K mainGlobals "_law_many" = some (some (.ref f16))) (l16 : K.lookup f16 = some ⟨oc16, od16, .func (PySem.W.fnOf "_law_many" "_law_many" (defArgs s_law_many) (defBody s_law_many) (defScope s_law_many) .none kV16 dc16 pm16 an16 cd16 ct16), sl16⟩) (c16 : PySem.W.codeIn K cd16 "_law_many" = true) (k16 : PySem.W.keepIn K (.ref f16) = true)
  (a17 : PySem.W.nsIn K mainGlobals "_law_leaves" = some (some (.ref f17))) (l17 : K.lookup f17 = some ⟨oc17, od17, .func (PySem.W.fnOf "_law_leaves" "_law_leaves" (defArgs s_law_leaves) (defBody s_law_leaves) (defScope s_law_leaves) .none kV17 dc17 pm17 an17 cd17 ct17), sl17⟩) (c17 : PySem.W.codeIn K cd17 "_law_leaves" = true) (k17 : PySem.W.keepIn K (.ref f17) = true)
  (a18 : PySem.W.nsIn K mainGlobals "_law_worth" = some (some (.ref f18))) (l18 : K.lookup f18 = some ⟨oc18, od18, .func (PySem.W.fnOf "_law_worth" "_law_worth" (defArgs s_law_worth) (defBody s_law_worth) (defScope s_law_worth) .none kV18 dc18 pm18 an18 cd18 ct18), sl18⟩) (c18 : PySem.W.codeIn K cd18 "_law_worth" = true) (k18 : PySem.W.keepIn K (.ref f18) = true)
  (a19 : PySem.W.nsIn K mainGlobals "_law_kind_at" = some (some (.ref f19))) (l19 : K.lookup f19 = some ⟨oc19, od19, .func (PySem.W.fnOf "_law_kind_at" "_law_kind_at" (defArgs s_law_kind_at) (defBody s_law_kind_at) (defScope s_law_kind_at) .none kV19 dc19 pm19 an19 cd19 ct19), sl19⟩) (c19 : PySem.W.codeIn K cd19 "_law_kind_at" = true) (k19 : PySem.W.keepIn K (.ref f19) = true)
  (a20 : PySem.W.nsIn K mainGlobals "_law_bent" = some (some (.ref f20))) (l20 : K.lookup f20 = some ⟨oc20, od20, .func (PySem.W.fnOf "_law_bent" "_law_bent" (defArgs s_law_bent) (defBody s_law_bent) (defScope s_law_bent) .none kV20 dc20 pm20 an20 cd20 ct20), sl20⟩) (c20 : PySem.W.codeIn K cd20 "_law_bent" = true) (k20 : PySem.W.keepIn K (.ref f20) = true)
  (a21 : PySem.W.nsIn K mainGlobals "_law_beside" = some (some (.ref f21))) (l21 : K.lookup f21 = some ⟨oc21, od21, .func (PySem.W.fnOf "_law_beside" "_law_beside" (defArgs s_law_beside) (defBody s_law_beside) (defScope s_law_beside) .none kV21 dc21 pm21 an21 cd21 ct21), sl21⟩) (c21 : PySem.W.codeIn K cd21 "_law_beside" = true) (k21 : PySem.W.keepIn K (.ref f21) = true)
  (a22 : PySem.W.nsIn K mainGlobals "_law_part" = some (some (.ref f22))) (l22 : K.lookup f22 = some ⟨oc22, od22, .func (PySem.W.fnOf "_law_part" "_law_part" (defArgs s_law_part) (defBody s_law_part) (defScope s_law_part) .none kV22 dc22 pm22 an22 cd22 ct22), sl22⟩) (c22 : PySem.W.codeIn K cd22 "_law_part" = true) (k22 : PySem.W.keepIn K (.ref f22) = true)
  (a23 : PySem.W.nsIn K mainGlobals "_law_same" = some (some (.ref f23))) (l23 : K.lookup f23 = some ⟨oc23, od23, .func (PySem.W.fnOf "_law_same" "_law_same" (defArgs s_law_same) (defBody s_law_same) (defScope s_law_same) .none kV23 dc23 pm23 an23 cd23 ct23), sl23⟩) (c23 : PySem.W.codeIn K cd23 "_law_same" = true) (k23 : PySem.W.keepIn K (.ref f23) = true)
  (a24 : PySem.W.nsIn K mainGlobals "_law_whole" = some (some (.ref f24))) (l24 : K.lookup f24 = some ⟨oc24, od24, .func (PySem.W.fnOf "_law_whole" "_law_whole" (defArgs s_law_whole) (defBody s_law_whole) (defScope s_law_whole) .none kV24 dc24 pm24 an24 cd24 ct24), sl24⟩) (c24 : PySem.W.codeIn K cd24 "_law_whole" = true) (k24 : PySem.W.keepIn K (.ref f24) = true)
  (a25 : PySem.W.nsIn K mainGlobals "_law_is_worth" = some (some (.ref f25))) (l25 : K.lookup f25 = some ⟨oc25, od25, .func (PySem.W.fnOf "_law_is_worth" "_law_is_worth" (defArgs s_law_is_worth) (defBody s_law_is_worth) (defScope s_law_is_worth) .none kV25 dc25 pm25 an25 cd25 ct25), sl25⟩) (c25 : PySem.W.codeIn K cd25 "_law_is_worth" = true) (k25 : PySem.W.keepIn K (.ref f25) = true)
  (a26 : PySem.W.nsIn K mainGlobals "_law_holds" = some (some (.ref f26))) (l26 : K.lookup f26 = some ⟨oc26, od26, .func (PySem.W.fnOf "_law_holds" "_law_holds" (defArgs s_law_holds) (defBody s_law_holds) (defScope s_law_holds) .none kV26 dc26 pm26 an26 cd26 ct26), sl26⟩) (c26 : PySem.W.codeIn K cd26 "_law_holds" = true) (k26 : PySem.W.keepIn K (.ref f26) = true)
  (a27 : PySem.W.nsIn K mainGlobals "_law_beyond" = some (some (.ref f27))) (l27 : K.lookup f27 = some ⟨oc27, od27, .func (PySem.W.fnOf "_law_beyond" "_law_beyond" (defArgs s_law_beyond) (defBody s_law_beyond) (defScope s_law_beyond) .none kV27 dc27 pm27 an27 cd27 ct27), sl27⟩) (c27 : PySem.W.codeIn K cd27 "_law_beyond" = true) (k27 : PySem.W.keepIn K (.ref f27) = true)
  (a28 : PySem.W.nsIn K mainGlobals "_law_within" = some (some (.ref f28))) (l28 : K.lookup f28 = some ⟨oc28, od28, .func (PySem.W.fnOf "_law_within" "_law_within" (defArgs s_law_within) (defBody s_law_within) (defScope s_law_within) .none kV28 dc28 pm28 an28 cd28 ct28), sl28⟩) (c28 : PySem.W.codeIn K cd28 "_law_within" = true) (k28 : PySem.W.keepIn K (.ref f28) = true)
  (a29 : PySem.W.nsIn K mainGlobals "_law_which" = some (some (.ref f29))) (l29 : K.lookup f29 = some ⟨oc29, od29, .func (PySem.W.fnOf "_law_which" "_law_which" (defArgs s_law_which) (defBody s_law_which) (defScope s_law_which) .none kV29 dc29 pm29 an29 cd29 ct29), sl29⟩) (c29 : PySem.W.codeIn K cd29 "_law_which" = true) (k29 : PySem.W.keepIn K (.ref f29) = true)
  (a30 : PySem.W.nsIn K mainGlobals "_law_grown" = some (some (.ref f30))) (l30 : K.lookup f30 = some ⟨oc30, od30, .func (PySem.W.fnOf "_law_grown" "_law_grown" (defArgs s_law_grown) (defBody s_law_grown) (defScope s_law_grown) .none kV30 dc30 pm30 an30 cd30 ct30), sl30⟩) (c30 : PySem.W.codeIn K cd30 "_law_grown" = true) (k30 : PySem.W.keepIn K (.ref f30) = true)
  (a31 : PySem.W.nsIn K mainGlobals "_law_right" = some (some (.ref f31))) (l31 : K.lookup f31 = some ⟨oc31, od31, .func (PySem.W.fnOf "_law_right" "_law_right" (defArgs s_law_right) (defBody s_law_right) (defScope s_law_right) .none kV31 dc31 pm31 an31 cd31 ct31), sl31⟩) (c31 : PySem.W.codeIn K cd31 "_law_right" = true) (k31 : PySem.W.keepIn K (.ref f31) = true)
  (a32 : PySem.W.nsIn K mainGlobals "law" = some (some (.ref f32))) (l32 : K.lookup f32 = some ⟨oc32, od32, .func (PySem.W.fnOf "law" "law" (defArgs s_law) (defBody s_law) (defScope s_law) .none kV32 dc32 pm32 an32 cd32 ct32), sl32⟩) (c32 : PySem.W.codeIn K cd32 "law" = true) (k32 : PySem.W.keepIn K (.ref f32) = true)
  (y1 : PySem.W.nsIn K mainGlobals "len" = some none)
  (y2 : PySem.W.nsIn K mainGlobals "max" = some none)
  (y3 : PySem.W.nsIn K mainGlobals "min" = some none)
  (y4 : PySem.W.nsIn K mainGlobals "range" = some none)
  (y5 : PySem.W.nsIn K mainGlobals "tuple" = some none)
  (y6 : PySem.W.nsIn K mainGlobals "isinstance" = some none)
  (y7 : PySem.W.nsIn K mainGlobals "int" = some none)
  (y8 : PySem.W.nsIn K mainGlobals "bool" = some none)
  (y9 : PySem.W.nsIn K mainGlobals "str" = some none)
  (y10 : PySem.W.nsIn K mainGlobals "list" = some none)
  (y11 : PySem.W.nsIn K mainGlobals "zip" = some none)
  (y12 : PySem.W.nsIn K mainGlobals "enumerate" = some none)
  (y13 : PySem.W.nsIn K mainGlobals "sum" = some none)
  (y14 : PySem.W.nsIn K mainGlobals "ValueError" = some none)
  (y15 : PySem.W.nsIn K mainGlobals "all" = some none)
  {u1 : Value} (g1 : PySem.W.nsIn K mainGlobals "MOST_ITEMS" = some (some u1)) (q1 : RelV (.int 60) u1)
  {cGateError : Addr} (gcGateError : PySem.W.nsIn K mainGlobals "GateError" = some (some (.ref cGateError)))
  {cNoPart : Addr} (gcNoPart : PySem.W.nsIn K mainGlobals "NoPart" = some (some (.ref cNoPart)))
  {cFull : Addr} (gcFull : PySem.W.nsIn K mainGlobals "Full" = some (some (.ref cFull)))
  {cNoBlock : Addr} (gcNoBlock : PySem.W.nsIn K mainGlobals "NoBlock" = some (some (.ref cNoBlock)))
  {cNoDoor : Addr} (gcNoDoor : PySem.W.nsIn K mainGlobals "NoDoor" = some (some (.ref cNoDoor)))
  {cNoPicture : Addr} (gcNoPicture : PySem.W.nsIn K mainGlobals "NoPicture" = some (some (.ref cNoPicture)))
  {cNoProgram : Addr} (gcNoProgram : PySem.W.nsIn K mainGlobals "NoProgram" = some (some (.ref cNoProgram)))
  {cNoRoom : Addr} (gcNoRoom : PySem.W.nsIn K mainGlobals "NoRoom" = some (some (.ref cNoRoom)))
  {cNoText : Addr} (gcNoText : PySem.W.nsIn K mainGlobals "NoText" = some (some (.ref cNoText)))
  {cNoThing : Addr} (gcNoThing : PySem.W.nsIn K mainGlobals "NoThing" = some (some (.ref cNoThing)))
  {cNoWord : Addr} (gcNoWord : PySem.W.nsIn K mainGlobals "NoWord" = some (some (.ref cNoWord)))
  {cNoWorths : Addr} (gcNoWorths : PySem.W.nsIn K mainGlobals "NoWorths" = some (some (.ref cNoWorths)))
  {cWrongHand : Addr} (gcWrongHand : PySem.W.nsIn K mainGlobals "WrongHand" = some (some (.ref cWrongHand)))
  (xNoPart : PySem.W.excIn K cNoPart [.type "ValueError", .type "Exception", .type "BaseException", .type "object"] "ValueError.__new__" = true)
  (xm : PySem.W.exmOne K (.ref cNoPart) (.ref cGateError) = some true)
  (ka : PySem.W.kitAny K (.ref cNoPart) [.ref cNoBlock, .ref cNoDoor, .ref cNoPicture, .ref cNoProgram, .ref cNoRoom, .ref cNoText, .ref cNoThing, .ref cNoWord] = some false)
  (kb : PySem.W.kitAny K (.ref cNoPart) [.ref cNoWorths, .ref cWrongHand] = some false)
  (kn : PySem.W.kitOne K (.ref cNoPart) (.ref cNoPart) = some true)
  (kv : PySem.W.kitOne K (.ref cNoPart) (.type "ValueError") = some true)
  (e1 : PySem.W.findIn K (.ref cNoPart) "__getattribute__" = some (some (.builtin "BaseException.__getattribute__")))
  (e2 : PySem.W.findIn K (.ref cNoPart) "__getattr__" = some none)
  (e3 : PySem.W.findIn K (.ref cNoPart) "__class__" = some (some (.builtin "object.__class__")))
  (e4 : PySem.W.specialIn K (.builtin "object.__class__") "__get__" = some (some (.builtin "getset_descriptor.__get__")))
  (e5 : PySem.W.takesIn K (.builtin "object.__class__") = some true)
  (e6 : PySem.W.mroIn K cNoPart (.type "object") = some true)
  (e7 : PySem.W.mroIn K cNoPart (.type "BaseException") = some true)
  (ko : PySem.W.kitOne K (.ref cNoPart) (.ref cFull) = some false)
  (xFull : PySem.W.excIn K cFull [.type "ValueError", .type "Exception", .type "BaseException", .type "object"] "ValueError.__new__" = true)
  (fxm : PySem.W.exmOne K (.ref cFull) (.ref cGateError) = some true)
  (fka : PySem.W.kitAny K (.ref cFull) [.ref cNoBlock, .ref cNoDoor, .ref cNoPicture, .ref cNoProgram, .ref cNoRoom, .ref cNoText, .ref cNoThing, .ref cNoWord] = some false)
  (fkb : PySem.W.kitAny K (.ref cFull) [.ref cNoWorths, .ref cWrongHand] = some false)
  (fkn : PySem.W.kitOne K (.ref cFull) (.ref cFull) = some true)
  (fkv : PySem.W.kitOne K (.ref cFull) (.type "ValueError") = some true)
  (fe1 : PySem.W.findIn K (.ref cFull) "__getattribute__" = some (some (.builtin "BaseException.__getattribute__")))
  (fe2 : PySem.W.findIn K (.ref cFull) "__getattr__" = some none)
  (fe3 : PySem.W.findIn K (.ref cFull) "__class__" = some (some (.builtin "object.__class__")))
  (fe4 : PySem.W.specialIn K (.builtin "object.__class__") "__get__" = some (some (.builtin "getset_descriptor.__get__")))
  (fe5 : PySem.W.takesIn K (.builtin "object.__class__") = some true)
  (fe6 : PySem.W.mroIn K cFull (.type "object") = some true)
  (fe7 : PySem.W.mroIn K cFull (.type "BaseException") = some true)
  (fko : PySem.W.kitOne K (.ref cFull) (.ref cNoPart) = some false)
  :
  ∃ fd : FuncData, (∀ (s : Shared) (v : Value), BindsTo s fd ⟨[v], []⟩ [("script", v)]) ∧ ∀ base : Heap, K.In base → base.Ns mainGlobals mg → FnOk l.prog w K mg base CX0 33 fa fd ["script"] (spLaw K) := by
 have e := hfa.symm.trans (PySem.W.mg_of X G a32)
 cases e
 have F1 := fun_mk (st := s_is_whole) l1 c1 k1
 have b1 := F1.binds (ps := ["thing"]) fun _ _ _ _ _ _ => L3.us1 (fun _ => rfl)
 have m1 := PySem.W.mg_of X G a1
 have F2 := fun_mk (st := s_part_kind) l2 c2 k2
 have b2 := F2.binds (ps := ["kind", "path"]) fun _ _ _ _ _ _ => L3.us2 (fun _ _ => rfl)
 have m2 := PySem.W.mg_of X G a2
 have F3 := fun_mk (st := s_step_kind) l3 c3 k3
 have b3 := F3.binds (ps := ["kind", "step"]) fun _ _ _ _ _ _ => L3.us2 (fun _ _ => rfl)
 have m3 := PySem.W.mg_of X G a3
 have F4 := fun_mk (st := s_field_place) l4 c4 k4
 have b4 := F4.binds (ps := ["kind", "name"]) fun _ _ _ _ _ _ => L3.us2 (fun _ _ => rfl)
 have m4 := PySem.W.mg_of X G a4
 have F5 := fun_mk (st := s_part_of) l5 c5 k5
 have b5 := F5.binds (ps := ["kind", "worth", "path"]) fun _ _ _ _ _ _ => L3.us3 (fun _ _ _ => rfl)
 have m5 := PySem.W.mg_of X G a5
 have F6 := fun_mk (st := s_part_place) l6 c6 k6
 have b6 := F6.binds (ps := ["kind", "worth", "step"]) fun _ _ _ _ _ _ => L3.us3 (fun _ _ _ => rfl)
 have m6 := PySem.W.mg_of X G a6
 have F7 := fun_mk (st := s_with_part) l7 c7 k7
 have b7 := F7.binds (ps := ["kind", "worth", "path", "part"]) fun _ _ _ _ _ _ => L3.us4 (fun _ _ _ _ => rfl)
 have m7 := PySem.W.mg_of X G a7
 have F8 := fun_mk (st := s_with_more) l8 c8 k8
 have b8 := F8.binds (ps := ["kind", "worth", "path", "item"]) fun _ _ _ _ _ _ => L3.us4 (fun _ _ _ _ => rfl)
 have m8 := PySem.W.mg_of X G a8
 have F9 := fun_mk (st := s_law_cell_at) l9 c9 k9
 have b9 := F9.binds (ps := ["script", "k"]) fun _ _ _ _ _ _ => L3.us2 (fun _ _ => rfl)
 have m9 := PySem.W.mg_of X G a9
 have F10 := fun_mk (st := s_law_flow) l10 c10 k10
 have b10 := F10.binds (ps := ["cell"]) fun _ _ _ _ _ _ => L3.us1 (fun _ => rfl)
 have m10 := PySem.W.mg_of X G a10
 have F11 := fun_mk (st := s_law_draw) l11 c11 k11
 have b11 := F11.binds (ps := ["flow", "many"]) fun _ _ _ _ _ _ => L3.us2 (fun _ _ => rfl)
 have m11 := PySem.W.mg_of X G a11
 have F12 := fun_mk (st := s_law_name) l12 c12 k12
 have b12 := F12.binds (ps := ["flow", "taken"]) fun _ _ _ _ _ _ => L3.us2 (fun _ _ => rfl)
 have m12 := PySem.W.mg_of X G a12
 have F13 := fun_mk (st := s_law_kind) l13 c13 k13
 have b13 := F13.binds (ps := ["flow", "depth", "room"]) fun _ _ _ _ _ _ => L3.us3 (fun _ _ _ => rfl)
 have m13 := PySem.W.mg_of X G a13
 have F14 := fun_mk (st := s_law_sign) l14 c14 k14
 have b14 := F14.binds (ps := ["flow"]) fun _ _ _ _ _ _ => L3.us1 (fun _ => rfl)
 have m14 := PySem.W.mg_of X G a14
 have F15 := fun_mk (st := s_law_number) l15 c15 k15
 have b15 := F15.binds (ps := ["flow", "width"]) fun _ _ _ _ _ _ => L3.us2 (fun _ _ => rfl)
 have m15 := PySem.W.mg_of X G a15
 have F16 := fun_mk (st := s_law_many) l16 c16 k16
 have b16 := F16.binds (ps := ["flow"]) fun _ _ _ _ _ _ => L3.us1 (fun _ => rfl)
 have m16 := PySem.W.mg_of X G a16
 have F17 := fun_mk (st := s_law_leaves) l17 c17 k17
 have b17 := F17.binds (ps := ["kind"]) fun _ _ _ _ _ _ => L3.us1 (fun _ => rfl)
 have m17 := PySem.W.mg_of X G a17
 have F18 := fun_mk (st := s_law_worth) l18 c18 k18
 have b18 := F18.binds (ps := ["flow", "kind", "room"]) fun _ _ _ _ _ _ => L3.us3 (fun _ _ _ => rfl)
 have m18 := PySem.W.mg_of X G a18
 have F19 := fun_mk (st := s_law_kind_at) l19 c19 k19
 have b19 := F19.binds (ps := ["kind", "path"]) fun _ _ _ _ _ _ => L3.us2 (fun _ _ => rfl)
 have m19 := PySem.W.mg_of X G a19
 have F20 := fun_mk (st := s_law_bent) l20 c20 k20
 have b20 := F20.binds (ps := ["flow", "path"]) fun _ _ _ _ _ _ => L3.us2 (fun _ _ => rfl)
 have m20 := PySem.W.mg_of X G a20
 have F21 := fun_mk (st := s_law_beside) l21 c21 k21
 have b21 := F21.binds (ps := ["flow", "kind", "path"]) fun _ _ _ _ _ _ => L3.us3 (fun _ _ _ => rfl)
 have m21 := PySem.W.mg_of X G a21
 have F22 := fun_mk (st := s_law_part) l22 c22 k22
 have b22 := F22.binds (ps := ["kind", "worth", "path"]) fun _ _ _ _ _ _ => L3.us3 (fun _ _ _ => rfl)
 have m22 := PySem.W.mg_of X G a22
 have F23 := fun_mk (st := s_law_same) l23 c23 k23
 have b23 := F23.binds (ps := ["found", "due"]) fun _ _ _ _ _ _ => L3.us2 (fun _ _ => rfl)
 have m23 := PySem.W.mg_of X G a23
 have F24 := fun_mk (st := s_law_whole) l24 c24 k24
 have b24 := F24.binds (ps := ["thing"]) fun _ _ _ _ _ _ => L3.us1 (fun _ => rfl)
 have m24 := PySem.W.mg_of X G a24
 have F25 := fun_mk (st := s_law_is_worth) l25 c25 k25
 have b25 := F25.binds (ps := ["kind", "thing"]) fun _ _ _ _ _ _ => L3.us2 (fun _ _ => rfl)
 have m25 := PySem.W.mg_of X G a25
 have F26 := fun_mk (st := s_law_holds) l26 c26 k26
 have b26 := F26.binds (ps := ["kind", "worth", "path"]) fun _ _ _ _ _ _ => L3.us3 (fun _ _ _ => rfl)
 have m26 := PySem.W.mg_of X G a26
 have F27 := fun_mk (st := s_law_beyond) l27 c27 k27
 have b27 := F27.binds (ps := ["kind", "worth", "cut"]) fun _ _ _ _ _ _ => L3.us3 (fun _ _ _ => rfl)
 have m27 := PySem.W.mg_of X G a27
 have F28 := fun_mk (st := s_law_within) l28 c28 k28
 have b28 := F28.binds (ps := ["flow", "kind", "worth", "path"]) fun _ _ _ _ _ _ => L3.us4 (fun _ _ _ _ => rfl)
 have m28 := PySem.W.mg_of X G a28
 have F29 := fun_mk (st := s_law_which) l29 c29 k29
 have b29 := F29.binds (ps := ["caught"]) fun _ _ _ _ _ _ => L3.us1 (fun _ => rfl)
 have m29 := PySem.W.mg_of X G a29
 have F30 := fun_mk (st := s_law_grown) l30 c30 k30
 have b30 := F30.binds (ps := ["kind", "worth", "path", "item"]) fun _ _ _ _ _ _ => L3.us4 (fun _ _ _ _ => rfl)
 have m30 := PySem.W.mg_of X G a30
 have F31 := fun_mk (st := s_law_right) l31 c31 k31
 have b31 := F31.binds (ps := ["flow"]) fun _ _ _ _ _ _ => L3.us1 (fun _ => rfl)
 have m31 := PySem.W.mg_of X G a31
 have F32 := fun_mk (st := s_law) l32 c32 k32
 have z_len := PySem.W.mg_none_of X G y1
 have z_max := PySem.W.mg_none_of X G y2
 have z_min := PySem.W.mg_none_of X G y3
 have z_range := PySem.W.mg_none_of X G y4
 have z_tuple := PySem.W.mg_none_of X G y5
 have z_isinstance := PySem.W.mg_none_of X G y6
 have z_int := PySem.W.mg_none_of X G y7
 have z_bool := PySem.W.mg_none_of X G y8
 have z_str := PySem.W.mg_none_of X G y9
 have z_list := PySem.W.mg_none_of X G y10
 have z_zip := PySem.W.mg_none_of X G y11
 have z_enumerate := PySem.W.mg_none_of X G y12
 have z_sum := PySem.W.mg_none_of X G y13
 have z_ValueError := PySem.W.mg_none_of X G y14
 have z_all := PySem.W.mg_none_of X G y15
 refine ⟨PySem.W.fnOf "law" "law" (defArgs s_law) (defBody s_law) (defScope s_law) .none kV32 dc32 pm32 an32 cd32 ct32, fun s v => .of_eq rfl, fun base _ _ => ?_⟩
 have m_MOST_ITEMS := PySem.W.mg_of X G g1
 have m_GateError := PySem.W.mg_of X G gcGateError
 have m_NoPart := PySem.W.mg_of X G gcNoPart
 have m_Full := PySem.W.mg_of X G gcFull
 have m_NoBlock := PySem.W.mg_of X G gcNoBlock
 have m_NoDoor := PySem.W.mg_of X G gcNoDoor
 have m_NoPicture := PySem.W.mg_of X G gcNoPicture
 have m_NoProgram := PySem.W.mg_of X G gcNoProgram
 have m_NoRoom := PySem.W.mg_of X G gcNoRoom
 have m_NoText := PySem.W.mg_of X G gcNoText
 have m_NoThing := PySem.W.mg_of X G gcNoThing
 have m_NoWord := PySem.W.mg_of X G gcNoWord
 have m_NoWorths := PySem.W.mg_of X G gcNoWorths
 have m_WrongHand := PySem.W.mg_of X G gcWrongHand
 have ex : ExC K cNoPart := ⟨e1, e2, e3, e4, e5, e6, e7, cls_exc xNoPart⟩
 have fex : ExC K cFull := ⟨fe1, fe2, fe3, fe4, fe5, fe6, fe7, cls_exc xFull⟩
 have D10 : Callee l.prog w K mg base "_law_flow" _ _ _ := ⟨_, _, ok_flow F10 z_max, m10, k10, b10⟩
 have D11 : Callee l.prog w K mg base "_law_draw" _ _ _ := ⟨_, _, ok_draw F11, m11, k11, b11⟩
 have D12 : Callee l.prog w K mg base "_law_name" _ _ _ := ⟨_, _, ok_name F12 D11 z_len z_max z_range, m12, k12, b12⟩
 have C11 := br_draw D11
 have C4 : Clx l.prog w K mg base "field_place" _ _ _ := ⟨_, _, ok_field_place F4 m_NoPart xNoPart z_enumerate, m4, k4, b4⟩
 have C1 : Cl3 l.prog w K mg base "is_whole" _ _ _ := ⟨_, _, ok_is_whole F1 z_isinstance z_int z_bool, m1, k1, b1⟩
 have C3 : Clx l.prog w K mg base "step_kind" _ _ _ := ⟨_, _, ok_step_kind F3 C1 C4 m_NoPart xNoPart m_MOST_ITEMS (gl_int q1), m3, k3, b3⟩
 have C6 : Clx l.prog w K mg base "part_place" _ _ _ := ⟨_, _, ok_part_place F6 C3 C4 m_NoPart xNoPart z_len, m6, k6, b6⟩
 have C14 : Cl3 l.prog w K mg base "_law_sign" _ _ _ := ⟨_, _, ok_sign F14 C11, m14, k14, b14⟩
 have C15 : Cl3 l.prog w K mg base "_law_number" _ _ _ := ⟨_, _, ok_number F15 C11, m15, k15, b15⟩
 have C16 : Cl3 l.prog w K mg base "_law_many" _ _ _ := ⟨_, _, ok_many F16 C11, m16, k16, b16⟩
 have C19 : Cl3 l.prog w K mg base "_law_kind_at" _ _ _ := ⟨_, _, ok_kind_at F19 z_isinstance z_str, m19, k19, b19⟩
 have C21 : Cl3 l.prog w K mg base "_law_beside" _ _ _ := ⟨_, _, ok_beside F21 C11 C19 z_len, m21, k21, b21⟩
 have C22 : Cl3 l.prog w K mg base "_law_part" _ _ _ := ⟨_, _, ok_part F22 z_isinstance z_str z_len, m22, k22, b22⟩
 have C20 : Cl3 l.prog w K mg base "_law_bent" _ _ _ := ⟨_, _, ok_bent F20 C11 z_isinstance z_str z_list z_min z_len, m20, k20, b20⟩
 have C23 : Cl3 l.prog w K mg base "_law_same" _ _ _ := ⟨_, _, ok_same F23 z_isinstance z_tuple z_str z_int z_bool z_len z_list z_zip, m23, k23, b23⟩
 have C24 : Cl3 l.prog w K mg base "_law_whole" _ _ _ := ⟨_, _, ok_whole F24 z_isinstance z_int z_bool, m24, k24, b24⟩
 have C5 : Clx l.prog w K mg base "part_of" _ _ _ := ⟨_, _, ok_part_of F5 C6 C3, m5, k5, b5⟩
 have C2 : Clx l.prog w K mg base "part_kind" _ _ _ := ⟨_, _, ok_part_kind F2 C3, m2, k2, b2⟩
 have C29 : Cl3 l.prog w K mg base "_law_which" _ _ _ := ⟨_, _, ok_which F29 m_NoPart m_Full m_NoBlock m_NoDoor m_NoPicture m_NoProgram m_NoRoom m_NoText m_NoThing m_NoWord m_NoWorths m_WrongHand ex ka kb kn kv ko fex fka fkb fkn fkv fko z_isinstance z_ValueError, m29, k29, b29⟩
 have C12 := br_name D12
 have C9 : Cl3 l.prog w K mg base "_law_cell_at" _ _ _ := ⟨_, _, ok_cell3 F9 z_len, m9, k9, b9⟩
 have C10 := br_flow D10
 have D13 := kind_all (P := l.prog) (w := w) (base := base) F13 m13 k13 b13 D11 D12 z_range z_tuple 10
 have C17 := leaves_all (P := l.prog) (w := w) (base := base) F17 m17 k17 b17 z_sum 13
 have C18 := worth_all (P := l.prog) (w := w) (base := base) F18 m18 k18 b18 C11 C15 C16 C14 C17 z_min z_max z_range z_tuple z_len 13
 have C7 := with_all (P := l.prog) (w := w) (base := base) F7 m7 k7 b7 C3 C6 6
 have C25 := isw_all (P := l.prog) (w := w) (base := base) F25 m25 k25 b25 C24 z_isinstance z_str z_len z_all z_tuple z_zip 6
 have C26 := holds_all (P := l.prog) (w := w) (base := base) F26 m26 k26 b26 z_len z_range 6
 have C13 := br_kind D13
 have C27 : Cl3 l.prog w K mg base "_law_beyond" _ _ _ := ⟨_, _, ok_beyond F27 C26 z_len, m27, k27, b27⟩
 have C8 : Clx l.prog w K mg base "with_more" _ _ _ := ⟨_, _, ok_with_more F8 C5 C2 (C7.mono (by decide)) m_NoPart xNoPart m_Full xFull m_MOST_ITEMS (gl_int q1) z_len, m8, k8, b8⟩
 have C30 : Cl3 l.prog w K mg base "_law_grown" _ _ _ := ⟨_, _, ok_grown F30 C8 C22 (C19.mono (by decide)) C29 C25 C23 C27 m_GateError xm fxm z_len, m30, k30, b30⟩
 have C28 : Cl3 l.prog w K mg base "_law_within" _ _ _ := ⟨_, _, ok_within F28 C11 C18 C12 C13 z_min z_range z_tuple, m28, k28, b28⟩
 have C31 : Cl3 l.prog w K mg base "_law_right" _ _ _ := ⟨_, _, ok_right F31 C11 C13 C18 C28 C21 C20 (C19.mono (by decide)) C30 z_range, m31, k31, b31⟩
 exact (ok_law3 F32 C31 C10 C9 z_range z_max z_min z_len).imp law_dn
theorem walk {l : PySem.W.OpenLaw} {q : Program} {loose : List Str} {XP : (Str → Option Value) → Heap → Prop} {YP : World → Heap → Prop} {d : DefRec} {K : Params → PySem.W.Frag} (hn : l.most = some 63) (hdf : d.params.defaults = [])
  (hY : ∀ (w : World) (h : Heap), YP w h → (K w.params).In h)
  (F : ∀ (w : World) (mg : Str → Option Value) (fa : Addr) (h : Heap), (K w.params).In h → h.Ns mainGlobals mg → mg d.name = some (.ref fa) →
   ∃ fd : FuncData, (∀ (s : Shared) (u : Value), BindsTo s fd ⟨[u], []⟩ [("script", u)]) ∧ ∀ base : Heap, (K w.params).In base → base.Ns mainGlobals mg → FnOk l.prog w (K w.params) mg base CX0 33 fa fd ["script"] (spLaw (K w.params))) :
  PySem.W.WalkO q loose XP YP l.row.toRowW d [] (fun f vs => PySem.call f vs) :=
 L2.walk_of (n := 63) (k := 33) (x := "script") (CX := fun _ => CX0) (sp := fun w => spLaw (K w.params)) hn (by decide) hdf ⟨rfl, by decide, by decide⟩ hY F (fun _ _ a ns hl hO hS => ⟨a, ns, rfl, hO, hS, hl, fun _ => rfl⟩) fun _ _ _ _ _ z => z
end Tg
open PySem PySem.W PyProof.Rows
def PySem.W.Fast.tw18148099149677245728 : Unit := ()
def PySem.W.Fast.tw8152123978276925505 : Unit := ()
def PySem.W.Fast.tw8511069728488440513 : Unit := ()
def PySem.W.Fast.tw9161480190017882884 : Unit := ()
def PySem.W.Fast.tw3704662028362444101 : Unit := ()
def PySem.W.Fast.tw9252856348685060709 : Unit := ()
def PySem.W.Fast.tw17484236504397115110 : Unit := ()
def PySem.W.Fast.tw10645218924890364742 : Unit := ()
def PySem.W.Fast.tw9676270869185998726 : Unit := ()
def PySem.W.Fast.tw5318754528988806727 : Unit := ()
def PySem.W.Fast.tw9542619956721786088 : Unit := ()
def PySem.W.Fast.tw1941510025669968681 : Unit := ()
def PySem.W.Fast.tw13812036151319977130 : Unit := ()
def PySem.W.Fast.tw17278310385690591563 : Unit := ()
def PySem.W.Fast.tw13104512076728514572 : Unit := ()
def PySem.W.Fast.tw17457377354810124396 : Unit := ()
def PySem.W.Fast.tw16585403076956456940 : Unit := ()
def PySem.W.Fast.tw4881781447779085586 : Unit := ()
def PySem.W.Fast.tw11105449023904119218 : Unit := ()
def PySem.W.Fast.tw9341522859196979891 : Unit := ()
def PySem.W.Fast.tw1178939757570992883 : Unit := ()
def PySem.W.Fast.tw13966270398760406836 : Unit := ()
def PySem.W.Fast.tw16457471581910919702 : Unit := ()
def PySem.W.Fast.tw2678019095668381847 : Unit := ()
def PySem.W.Fast.tw2342737729343008343 : Unit := ()
def PySem.W.Fast.tw15877661994612480312 : Unit := ()
def PySem.W.Fast.tw744060337844475449 : Unit := ()
def PySem.W.Fast.tw9619131570982812347 : Unit := ()
def PySem.W.Fast.tw11506576665806033052 : Unit := ()
def PySem.W.Fast.tw1502431143072451677 : Unit := ()
def PySem.W.Fast.tw1275944955729994941 : Unit := ()
def PySem.W.Fast.tw17187511712763098589 : Unit := ()
def PySem.W.Fast.tw15355590377368303229 : Unit := ()
def PySem.W.Fast.tw13284230037241555102 : Unit := ()
def PySem.W.Fast.tw11105097187396095550 : Unit := ()
def PySem.W.Fast.tw9426245870127808350 : Unit := ()
def PySem.W.Fast.tw7613314732704598559 : Unit := ()
def PySem.W.Fast.tw15698848907832190266 : Unit := ()
set_option maxRecDepth 100000 in
set_option maxHeartbeats 0 in
theorem PySem.Challenge.cw_tonguegate_k07_one_more_and_full_holds : PySem.Challenge.rw_tonguegate_k07_one_more_and_full.Holds := by
 w_on; o_law; k_head; (case hw => w_witness2)
 k_fill
 refine Tg.walk (l := PySem.Challenge.rw_tonguegate_k07_one_more_and_full) rfl rfl (fun w h Y => PySem.W.kIn_of Y) ?F
 case F =>
  intro w mg fa h KX G hmg
  refine' Tg.all_mk KX G hmg ?a1 ?l1 ?c1 ?k1 ?a2 ?l2 ?c2 ?k2 ?a3 ?l3 ?c3 ?k3 ?a4 ?l4 ?c4 ?k4 ?a5 ?l5 ?c5 ?k5 ?a6 ?l6 ?c6 ?k6 ?a7 ?l7 ?c7 ?k7 ?a8 ?l8 ?c8 ?k8 ?a9 ?l9 ?c9 ?k9 ?a10 ?l10 ?c10 ?k10 ?a11 ?l11 ?c11 ?k11 ?a12 ?l12 ?c12 ?k12 ?a13 ?l13 ?c13 ?k13 ?a14 ?l14 ?c14 ?k14 ?a15 ?l15 ?c15 ?k15 ?a16 ?l16 ?c16 ?k16 ?a17 ?l17 ?c17 ?k17 ?a18 ?l18 ?c18 ?k18 ?a19 ?l19 ?c19 ?k19 ?a20 ?l20 ?c20 ?k20 ?a21 ?l21 ?c21 ?k21 ?a22 ?l22 ?c22 ?k22 ?a23 ?l23 ?c23 ?k23 ?a24 ?l24 ?c24 ?k24 ?a25 ?l25 ?c25 ?k25 ?a26 ?l26 ?c26 ?k26 ?a27 ?l27 ?c27 ?k27 ?a28 ?l28 ?c28 ?k28 ?a29 ?l29 ?c29 ?k29 ?a30 ?l30 ?c30 ?k30 ?a31 ?l31 ?c31 ?k31 ?a32 ?l32 ?c32 ?k32 ?y1 ?y2 ?y3 ?y4 ?y5 ?y6 ?y7 ?y8 ?y9 ?y10 ?y11 ?y12 ?y13 ?y14 ?y15 ?g1 ?q1 ?gcGateError ?gcNoPart ?gcFull ?gcNoBlock ?gcNoDoor ?gcNoPicture ?gcNoProgram ?gcNoRoom ?gcNoText ?gcNoThing ?gcNoWord ?gcNoWorths ?gcWrongHand ?xNoPart ?xm ?ka ?kb ?kn ?kv ?e1 ?e2 ?e3 ?e4 ?e5 ?e6 ?e7 ?ko ?xFull ?fxm ?fka ?fkb ?fkn ?fkv ?fe1 ?fe2 ?fe3 ?fe4 ?fe5 ?fe6 ?fe7 ?fko
  (case a1 => k_is); (case l1 => k_is); (case c1 => k_is); (case k1 => k_is)
  (case a2 => k_is); (case l2 => k_is); (case c2 => k_is); (case k2 => k_is)
  (case a3 => k_is); (case l3 => k_is); (case c3 => k_is); (case k3 => k_is)
  (case a4 => k_is); (case l4 => k_is); (case c4 => k_is); (case k4 => k_is)
  (case a5 => k_is); (case l5 => k_is); (case c5 => k_is); (case k5 => k_is)
  (case a6 => k_is); (case l6 => k_is); (case c6 => k_is); (case k6 => k_is)
  (case a7 => k_is); (case l7 => k_is); (case c7 => k_is); (case k7 => k_is)
  (case a8 => k_is); (case l8 => k_is); (case c8 => k_is); (case k8 => k_is)
  (case a9 => k_is); (case l9 => k_is); (case c9 => k_is); (case k9 => k_is)
  (case a10 => k_is); (case l10 => k_is); (case c10 => k_is); (case k10 => k_is)
  (case a11 => k_is); (case l11 => k_is); (case c11 => k_is); (case k11 => k_is)
  (case a12 => k_is); (case l12 => k_is); (case c12 => k_is); (case k12 => k_is)
  (case a13 => k_is); (case l13 => k_is); (case c13 => k_is); (case k13 => k_is)
  (case a14 => k_is); (case l14 => k_is); (case c14 => k_is); (case k14 => k_is)
  (case a15 => k_is); (case l15 => k_is); (case c15 => k_is); (case k15 => k_is)
  (case a16 => k_is); (case l16 => k_is); (case c16 => k_is); (case k16 => k_is)
  (case a17 => k_is); (case l17 => k_is); (case c17 => k_is); (case k17 => k_is)
  (case a18 => k_is); (case l18 => k_is); (case c18 => k_is); (case k18 => k_is)
  (case a19 => k_is); (case l19 => k_is); (case c19 => k_is); (case k19 => k_is)
  (case a20 => k_is); (case l20 => k_is); (case c20 => k_is); (case k20 => k_is)
  (case a21 => k_is); (case l21 => k_is); (case c21 => k_is); (case k21 => k_is)
  (case a22 => k_is); (case l22 => k_is); (case c22 => k_is); (case k22 => k_is)
  (case a23 => k_is); (case l23 => k_is); (case c23 => k_is); (case k23 => k_is)
  (case a24 => k_is); (case l24 => k_is); (case c24 => k_is); (case k24 => k_is)
  (case a25 => k_is); (case l25 => k_is); (case c25 => k_is); (case k25 => k_is)
  (case a26 => k_is); (case l26 => k_is); (case c26 => k_is); (case k26 => k_is)
  (case a27 => k_is); (case l27 => k_is); (case c27 => k_is); (case k27 => k_is)
  (case a28 => k_is); (case l28 => k_is); (case c28 => k_is); (case k28 => k_is)
  (case a29 => k_is); (case l29 => k_is); (case c29 => k_is); (case k29 => k_is)
  (case a30 => k_is); (case l30 => k_is); (case c30 => k_is); (case k30 => k_is)
  (case a31 => k_is); (case l31 => k_is); (case c31 => k_is); (case k31 => k_is)
  (case a32 => k_is); (case l32 => k_is); (case c32 => k_is); (case k32 => k_is)
  (case y1 => k_is)
  (case y2 => k_is)
  (case y3 => k_is)
  (case y4 => k_is)
  (case y5 => k_is)
  (case y6 => k_is)
  (case y7 => k_is)
  (case y8 => k_is)
  (case y9 => k_is)
  (case y10 => k_is)
  (case y11 => k_is)
  (case y12 => k_is)
  (case y13 => k_is)
  (case y14 => k_is)
  (case y15 => k_is)
  (case g1 => k_is); (case q1 => exact ⟨_, rfl⟩)
  (case gcGateError => k_is)
  (case gcNoPart => k_is)
  (case gcFull => k_is)
  (case gcNoBlock => k_is)
  (case gcNoDoor => k_is)
  (case gcNoPicture => k_is)
  (case gcNoProgram => k_is)
  (case gcNoRoom => k_is)
  (case gcNoText => k_is)
  (case gcNoThing => k_is)
  (case gcNoWord => k_is)
  (case gcNoWorths => k_is)
  (case gcWrongHand => k_is)
  (case xNoPart => k_exc)
  (case xm => kts_exm)
  (case ka => kit_is)
  (case kb => kit_is)
  (case kn => kit_is)
  (case kv => kit_is)
  (case e1 => k_is)
  (case e2 => k_is)
  (case e3 => k_is)
  (case e4 => k_is)
  (case e5 => k_is)
  (case e6 => k_is)
  (case e7 => k_is)
  (case ko => kit_is)
  (case xFull => k_exc)
  (case fxm => kts_exm)
  (case fka => kit_is)
  (case fkb => kit_is)
  (case fkn => kit_is)
  (case fkv => kit_is)
  (case fe1 => k_is)
  (case fe2 => k_is)
  (case fe3 => k_is)
  (case fe4 => k_is)
  (case fe5 => k_is)
  (case fe6 => k_is)
  (case fe7 => k_is)
  (case fko => kit_is)

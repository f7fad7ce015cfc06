import PyProof.Rows.All
import Wide.All
import OpenK.AllK
import Wide.FinOn
import Lean
import PyProof.EqAt
import PyProof.EqKinds
import PyProof.TupleCall
import PySem.Challenge.RW_tonguegate_k29_papers_told
set_option Elab.async false
set_option linter.all false
set_option maxRecDepth 100000
namespace L2
open PySem PySem.Spec PyProof.Rows
abbrev Key := Sum Int Str
def keyIs : Key → Value → Bool
 | .inl k, v => Value.isInt k v
 | .inr x, v => Value.isStrOf x v
def keyH (w : World) : Key → Int
 | .inl k => hashInt k
 | .inr x => hashStr w x
theorem keyIs_shape : ∀ {k : Key} {v : Value}, keyIs k v = true → (∃ i t, k = Sum.inl i ∧ v = Value.int i t) ∨ (∃ x t, k = Sum.inr x ∧ v = Value.str x t)
 | .inl i, v, h => by
  obtain ⟨t, e⟩ := Value.isInt_shape (k := i) (v := v) h
  exact .inl ⟨i, t, rfl, e⟩
 | .inr x, v, h => by
  obtain ⟨t, e⟩ := Value.isStrOf_shape (x := x) (v := v) h
  exact .inr ⟨x, t, rfl, e⟩
theorem key_ll (a b : Int) : decide ((Sum.inl a : Key) = Sum.inl b) = (a == b) := by
 by_cases e : a = b
 ·subst e; simp
 ·have h : ¬ (Sum.inl a : Key) = Sum.inl b := fun q => e (Sum.inl.inj q)
  rw [decide_eq_false h]
  exact (beq_eq_false_iff_ne.mpr e).symm
theorem key_rr (a b : Str) : decide ((Sum.inr a : Key) = Sum.inr b) = decide (a = b) := by
 by_cases e : a = b
 ·subst e; simp
 ·have h : ¬ (Sum.inr a : Key) = Sum.inr b := fun q => e (Sum.inr.inj q)
  rw [decide_eq_false h, decide_eq_false e]
theorem key_lr (a : Int) (b : Str) : decide ((Sum.inl a : Key) = Sum.inr b) = false := decide_eq_false (fun q => nomatch q)
theorem key_rl (a : Str) (b : Int) : decide ((Sum.inr a : Key) = Sum.inl b) = false := decide_eq_false (fun q => nomatch q)
def mixKind (prog : Program) (w : World) : PySem.KeyKind prog w Key where
 is := keyIs
 hash := keyH w
 inj := fun v a b ha hb => by
  rcases keyIs_shape ha with ⟨i, t, rfl, rfl⟩ | ⟨x, t, rfl, rfl⟩
  ·rcases keyIs_shape hb with ⟨j, u, rfl, e⟩ | ⟨y, u, rfl, e⟩
   ·injection e with e1 _; rw [e1]
   ·exact nomatch e
  ·rcases keyIs_shape hb with ⟨j, u, rfl, e⟩ | ⟨y, u, rfl, e⟩
   ·exact nomatch e
   ·injection e with e1 _; rw [e1]
 byValue := fun k v h => by
  rcases keyIs_shape h with ⟨i, t, rfl, rfl⟩ | ⟨x, t, rfl, rfl⟩ <;> rfl
 pyHash := fun hv h => by
  rcases keyIs_shape hv with ⟨i, t, rfl, rfl⟩ | ⟨x, t, rfl, rfl⟩
  ·exact wpAny_pyHash_int h
  ·exact wpAny_pyHash_str h
 eqBool := fun hu hv h => by
  rcases keyIs_shape hu with ⟨i, t, rfl, rfl⟩ | ⟨x, t, rfl, rfl⟩
  ·rcases keyIs_shape hv with ⟨j, u, rfl, rfl⟩ | ⟨y, u, rfl, rfl⟩
   ·rw [key_ll] at h; exact wpAny_eqBool_int h
   ·rw [key_lr] at h; exact SeqAt.EqAt.int_str i t y u _ _ _ _ h
  ·rcases keyIs_shape hv with ⟨j, u, rfl, rfl⟩ | ⟨y, u, rfl, rfl⟩
   ·rw [key_rl] at h; exact SeqAt.EqAt.str_int x t j u _ _ _ _ h
   ·rw [key_rr] at h; exact wpAny_eqBool_str h
 «strs» := fun k x t v h => by
  rcases keyIs_shape h with ⟨i, u, rfl, e⟩ | ⟨y, u, rfl, e⟩
  ·exact nomatch e
  ·injection e with e1 _
   subst e1
   cases v <;> rfl
end L2
namespace L2
open PySem PySem.Spec PyProof.Rows
inductive V where
 | non | bl (b : Bool) | int (i : Int) | str (x : Str) | byt (b : Array UInt8) | flt (b : UInt64) | ref (a : Addr) | ty (n : String)
 deriving DecidableEq
def RelV : V → Value → Prop
 | .non, u => u = Value.none
 | .bl b, u => u = Value.bool b
 | .int i, u => ∃ t, u = Value.int i t
 | .str x, u => ∃ t, u = Value.str x t
 | .byt b, u => ∃ t, u = Value.bytes b t
 | .flt b, u => ∃ t, u = Value.float b t
 | .ref a, u => u = Value.ref a
 | .ty n, u => u = Value.type n
abbrev Vals : List V → List Value → Prop := Paired RelV
theorem Vals.length {xs : List V} {us : List Value} (r : Vals xs us) : xs.length = us.length := Paired.length r
theorem Vals.get : ∀ {xs : List V} {us : List Value} {i : Nat} {x : V}, Vals xs us → xs[i]? = some x → ∃ u, us[i]? = some u ∧ RelV x u
 | _, _, _, _, .nil, e => by simp at e
 | _, _, 0, _, .cons r _, e => by simp at e; subst e; exact ⟨_, rfl, r⟩
 | _, _, i + 1, x, .cons _ t, e => by
  obtain ⟨u, h1, h2⟩ := Vals.get (i := i) (x := x) t (by simpa using e)
  exact ⟨u, by simpa using h1, h2⟩
theorem Vals.set {x : V} {u : Value} (r : RelV x u) : ∀ {xs : List V} {us : List Value} (i : Nat), Vals xs us → Vals (xs.set i x) (us.set i u)
 | _, _, _, .nil => .nil
 | _, _, 0, .cons _ t => .cons r t
 | _, _, i + 1, .cons q t => .cons q (Vals.set r i t)
theorem Vals.append : ∀ {xs ys : List V} {us ws : List Value}, Vals xs us → Vals ys ws → Vals (xs ++ ys) (us ++ ws)
 | _, _, _, _, .nil, s => s
 | _, _, _, _, .cons r t, s => .cons r (Vals.append t s)
theorem Vals.take : ∀ {xs : List V} {us : List Value} (n : Nat), Vals xs us → Vals (xs.take n) (us.take n)
 | _, _, 0, _ => .nil
 | _, _, _ + 1, .nil => .nil
 | _, _, n + 1, .cons r t => .cons r (Vals.take n t)
theorem Vals.drop : ∀ {xs : List V} {us : List Value} (n : Nat), Vals xs us → Vals (xs.drop n) (us.drop n)
 | _, _, 0, r => r
 | _, _, _ + 1, .nil => .nil
 | _, _, n + 1, .cons _ t => Vals.drop n t
def RelO : Option V → Option Value → Prop
 | some v, some u => RelV v u
 | none, none => True
 | _, _ => False
def KV {κ : Type} : List (κ × V) → List (κ × Value) → Prop := Paired fun (p : κ × V) (q : κ × Value) => p.1 = q.1 ∧ RelV p.2 q.2
def kV : Key → V
 | .inl i => .int i
 | .inr x => .str x
inductive HO where
 /-- a list -/
 | lst (xs : List V)
 /-- a tuple (never changes) -/
 | tup (xs : List V)
 /-- a dict whose keys are ints and texts; one whose keys are tuples of ints and texts (the empty one is both) -/
 | dK (kvs : List (Key × V)) | dT (kvs : List (List Key × V))
 /-- a set of ints: its members, its size -/
 | set (S : Int → Bool) (n : Nat)
 /-- an instance of the class at C, its dict at dx, its attributes -/
 | ins (C dx : Addr) (fs : List (Str × V))
 /-- the dict of the instance at x -/
 | own (x : Addr)
 /-- the dict of an exception -/
 | xd (fs : List (Str × V))
 /-- a bound method, f of x -/
 | met (f x : Addr)
 /-- a range object lo, lo + 1, .. below hi -/
 | rng (lo hi : Int)
 /-- a thing that is known to the object (the script; a dict while a loop walks it): read, never written while it is so -/
 | frz (o : Obj) (u : HO)
 /-- a code object's table -/
 | tbl (ps : Array Value)
 /-- any other thing, by what is true of its one object (a def of one's own: SetO a S n := HO.ext fun h => ..) -/
 | ext (φ : Heap → Prop)
abbrev Hp := Addr → Option HO
def upd (H : Hp) (a : Addr) (o : HO) : Hp := fun b => if b = a then some o else H b
theorem upd_same {H : Hp} {a : Addr} {o : HO} : upd H a o a = some o := by unfold upd; rw [if_pos rfl]
theorem upd_ne {H : Hp} {a b : Addr} {o : HO} (h : b ≠ a) : upd H a o b = H b := by unfold upd; rw [if_neg h]
theorem ne_of {H : Hp} {a b : Addr} {o u : HO} (h : H a = some o) (h' : H b = some u) (d : o ≠ u) : a ≠ b := by
 intro e; subst e; rw [h] at h'; exact d (Option.some.inj h')
theorem ne_of_none {H : Hp} {a b : Addr} {o : HO} (h : H a = some o) (h' : H b = none) : a ≠ b := by
 intro e; subst e; rw [h] at h'; cases h'
section
variable (P : Program) (w : World)
def ObjOk (H : Hp) (h : Heap) (a : Addr) : HO → Prop
 | .lst xs => xs.length ≤ sizeLine ∧ ∃ (its : List Value) (n : Nat), Vals xs its ∧ h.get? a = some { cls := .type "list", data := .seq its.toArray n }
 | .tup xs => xs.length ≤ sizeLine ∧ ∃ its : List Value, Vals xs its ∧ IsTup h a its.toArray
 | .dK kvs => kvs.length ≤ sizeLine ∧ (a == sysModules) = false ∧ ∃ vs, KV kvs vs ∧ h.DictOf (mixKind P w) a vs
 | .dT kvs => kvs.length ≤ sizeLine ∧ (a == sysModules) = false ∧ ∃ xs : List (List Key × Addr × Value),
   Paired (fun (p : List Key × V) (q : List Key × Addr × Value) => p.1 = q.1 ∧ H q.2.1 = some (.tup (p.1.map kV)) ∧ RelV p.2 q.2.2) kvs xs ∧
   ∃ o es ep, h.get? a = some o ∧ o.ExactDict ∧ o.data = .dict es ep ∧ es.toList = xs.map (entryOfKey (tupleKind (mixKind P w))) ∧ (xs.map (·.1)).Nodup
 | .set S n => h.SetOf (intKind P w) a S n
 | .ins C dx fs => H dx = some (.own a) ∧ fs.length ≤ 1000 ∧ dx ≠ a ∧ h.get? a = some (PySem.W.instObj C dx) ∧
   ∃ mA, h.Ns1 dx mA ∧ (∀ f, RelO (fs.lookup f) (mA f)) ∧ PySem.Within mA (fs.map (·.1))
 | .own _ => ∃ o, h.get? a = some o
 | .xd fs => ∃ mA, h.Ns1 a mA ∧ ∀ f, RelO (fs.lookup f) (mA f)
 | .rng lo hi => ∃ t u v, h.get? a = some { cls := .type "range", data := .fields #[.int lo t, .int hi u, .int 1 v] }
 | .frz o u => h.get? a = some o ∧ ObjOk H h a u
 | .tbl ps => h.get? a = some { cls := .none, data := .fields ps }
 | .met f x => h.get? a = some (PySem.W.methodObj (.ref f) (.ref x))
 | .ext φ => φ h ∧ (∃ o, h.get? a = some o) ∧ ∀ h1 h2 : Heap, φ h1 → (∀ o, h1.get? a = some o → h2.get? a = some o) → φ h2
def HOk (H : Hp) (h : Heap) : Prop := ∀ a o, H a = some o → ObjOk P w H h a o
end
section
variable {P : Program} {w : World} {H H' : Hp} {h h' : Heap} {a : Addr} {o : HO}
theorem ObjOk.lt (x : ObjOk P w H h a o) : a < h.objs.size := by
 cases o with
 | lst xs => obtain ⟨_, _, _, _, e⟩ := x; exact Heap.lt_size e
 | tup xs => obtain ⟨_, _, _, p⟩ := x; exact p.lt
 | dK kvs => obtain ⟨_, _, _, _, o, _, _, e, _⟩ := x; exact Heap.lt_size e
 | dT kvs => obtain ⟨_, _, _, _, o, _, _, e, _⟩ := x; exact Heap.lt_size e
 | set S n => obtain ⟨o, _, _, _, e, _⟩ := x; exact Heap.lt_size e
 | ins C dx fs => obtain ⟨_, _, _, e, _⟩ := x; exact Heap.lt_size e
 | own y => obtain ⟨_, e⟩ := x; exact Heap.lt_size e
 | xd fs => obtain ⟨_, ⟨_, _, _, e, _⟩, _⟩ := x; exact Heap.lt_size e
 | rng lo hi => obtain ⟨_, _, _, e⟩ := x; exact Heap.lt_size e
 | frz ob u => obtain ⟨e, _⟩ := x; exact Heap.lt_size e
 | tbl ps => exact Heap.lt_size (show h.get? a = some _ from x)
 | met f y => exact Heap.lt_size (show h.get? a = some _ from x)
 | ext φ => obtain ⟨_, ⟨_, e⟩, _⟩ := x; exact Heap.lt_size e
theorem Paired.mapP {α β : Type} {F G : α → β → Prop} : ∀ {l₁ : List α} {l₂ : List β}, Paired F l₁ l₂ → (∀ a b, F a b → G a b) → Paired G l₁ l₂
 | _, _, .nil, _ => .nil
 | _, _, .cons r t, f => .cons (f _ _ r) (Paired.mapP t f)
theorem ObjOk.stay (x : ObjOk P w H h a o) (k : ∀ b u, (b = a ∨ H b = some (.own a)) → h.get? b = some u → h'.get? b = some u)
  (ho : ∀ b, H b = some (.own a) → H' b = some (.own a)) (ht : ∀ b xs, H b = some (.tup xs) → H' b = some (.tup xs)) : ObjOk P w H' h' a o := by
 induction o with
 | lst xs => obtain ⟨z, its, n, r, e⟩ := x; exact ⟨z, its, n, r, k _ _ (.inl rfl) e⟩
 | tup xs => obtain ⟨z, its, r, ob, e, c⟩ := x; exact ⟨z, its, r, ob, k _ _ (.inl rfl) e, c⟩
 | dK kvs => obtain ⟨z, y, vs, r, ob, es, ep, e, c⟩ := x; exact ⟨z, y, vs, r, ob, es, ep, k _ _ (.inl rfl) e, c⟩
 | dT kvs =>
  obtain ⟨z, y, xs, r, ob, es, ep, e, c⟩ := x
  exact ⟨z, y, xs, Paired.mapP r fun p q z => ⟨z.1, ht _ _ z.2.1, z.2.2⟩, ob, es, ep, k _ _ (.inl rfl) e, c⟩
 | set S n => obtain ⟨ob, es, ep, t, e, c⟩ := x; exact ⟨ob, es, ep, t, k _ _ (.inl rfl) e, c⟩
 | ins C dx fs =>
  obtain ⟨d, z, ne, e, mA, ⟨od, es, ep, e2, c⟩, r⟩ := x
  exact ⟨ho _ d, z, ne, k _ _ (.inl rfl) e, mA, ⟨od, es, ep, k _ _ (.inr d) e2, c⟩, r⟩
 | own y => obtain ⟨ob, e⟩ := x; exact ⟨ob, k _ _ (.inl rfl) e⟩
 | xd fs => obtain ⟨mA, ⟨od, es, ep, e, c⟩, r⟩ := x; exact ⟨mA, ⟨od, es, ep, k _ _ (.inl rfl) e, c⟩, r⟩
 | rng lo hi => obtain ⟨t, u, v, e⟩ := x; exact ⟨t, u, v, k _ _ (.inl rfl) e⟩
 | frz ob u ih => obtain ⟨e, q⟩ := x; exact ⟨k _ _ (.inl rfl) e, ih q⟩
 | tbl ps =>
  have e : h.get? a = some { cls := .none, data := .fields ps } := x
  show h'.get? a = some { cls := .none, data := .fields ps }
  exact k a _ (.inl rfl) e
 | met f y =>
  have e : h.get? a = some (PySem.W.methodObj (.ref f) (.ref y)) := x
  show h'.get? a = some (PySem.W.methodObj (.ref f) (.ref y))
  exact k a _ (.inl rfl) e
 | ext φ => obtain ⟨p, ⟨o, e⟩, st⟩ := x; exact ⟨st _ _ p fun o q => k _ _ (.inl rfl) q, ⟨o, k _ _ (.inl rfl) e⟩, st⟩
theorem HOk.lt (x : HOk P w H h) (e : H a = some o) : a < h.objs.size := (x a o e).lt
theorem HOk.fresh (x : HOk P w H h) (e : h.objs.size ≤ a) : H a = none := by
 cases q : H a with
 | none => rfl
 | some u => exact absurd (Nat.lt_of_lt_of_le (x.lt q) e) (Nat.lt_irrefl _)
theorem HOk.kept (x : HOk P w H h) (k : ∀ b u, h.get? b = some u → h'.get? b = some u) : HOk P w H h' := fun a o e =>
 (x a o e).stay (fun b u _ q => k b u q) (fun _ q => q) fun _ _ q => q
theorem HOk.laid (x : HOk P w H h) (k : ∀ b u, h.get? b = some u → h'.get? b = some u) (hp : h.objs.size ≤ a) (new : ObjOk P w (upd H a o) h' a o) : HOk P w (upd H a o) h' := fun b u e => by
 have hn := x.fresh hp
 by_cases hb : b = a
 ·subst hb; rw [upd_same] at e; cases e; exact new
 ·rw [upd_ne hb] at e
  exact (x b u e).stay (fun c v _ q => k c v q) (fun c q => by rw [upd_ne (ne_of_none q hn)]; exact q) fun c xs q => by rw [upd_ne (ne_of_none q hn)]; exact q
end
def Rd (H : Hp) (a : Addr) (u : HO) : Prop := H a = some u ∨ ∃ o, H a = some (.frz o u)
theorem Rd.of {H : Hp} {a : Addr} {u : HO} (h : H a = some u) : Rd H a u := .inl h
theorem Rd.ok {P : Program} {w : World} {H : Hp} {h : Heap} {a : Addr} {u : HO} (r : Rd H a u) (x : HOk P w H h) : ObjOk P w H h a u := by
 rcases r with r | ⟨o, r⟩
 ·exact x a u r
 ·obtain ⟨_, q⟩ := x a _ r
  exact q
def Mut : Option HO → Prop
 | some (.lst _) => True
 | some (.dK _) => True
 | some (.dT _) => True
 | some (.set _ _) => True
 | some (.ins _ _ _) => True
 | some (.ext _) => True
 | _ => False
section
variable {P : Program} {w : World} {H : Hp} {h h' : Heap} {x e : Addr} {o' : HO}
theorem HOk.write (ok : HOk P w H h) (mu : Mut (H x)) (he : e = x ∨ H e = some (.own x)) (k : ∀ b u, b ≠ e → h.get? b = some u → h'.get? b = some u) (heo : ∃ u, h'.get? e = some u)
  (new : ObjOk P w (upd H x o') h' x o') : HOk P w (upd H x o') h' := fun b u q => by
 have nown : ∀ c y, H c = some (.own y) → c ≠ x := fun c y r z => by subst z; rw [r] at mu; exact mu
 have ntup : ∀ c xs, H c = some (.tup xs) → c ≠ x := fun c xs r z => by subst z; rw [r] at mu; exact mu
 by_cases hb : b = x
 ·subst hb; rw [upd_same] at q; cases q; exact new
 ·rw [upd_ne hb] at q
  by_cases hbe : b = e
  ·have q' : H b = some (.own x) := by
    rcases he with z | z
    ·exact absurd (hbe.trans z) hb
    ·rw [hbe]; exact z
   rw [q] at q'; cases q'
   obtain ⟨v, hv⟩ := heo
   exact ⟨v, by rw [hbe]; exact hv⟩
  ·refine (ok b u q).stay (fun c v hc r => k c v ?_ r) (fun c r => by rw [upd_ne (nown c b r)]; exact r) fun c xs r => by rw [upd_ne (ntup c xs r)]; exact r
   rcases hc with rfl | hc
   ·exact hbe
   ·rintro rfl
    rcases he with z | z
    ·exact nown c b hc z
    ·rw [hc] at z; cases z; exact hb rfl
end
structure Un (fs ex : List Addr) (H H' : Hp) (h h' : Heap) : Prop where
 keep : ∀ b o, h.get? b = some o → H b = none → b ∉ fs → b ∉ ex → h'.get? b = some o
 slot : ∀ b o, h.get? b = some o → H b = none → b ∈ fs → b ∉ ex → ∃ sl, h'.get? b = some { o with slots := sl }
 free : ∀ b o, h.get? b = some o → H b = none → b ∉ ex → H' b = none
 there : ∀ b o, h.get? b = some o → b ∉ ex → ∃ o', h'.get? b = some o'
 tups : ∀ b xs, H b = some (.tup xs) → H' b = some (.tup xs)
 frzs : ∀ b o u, H b = some (.frz o u) → H' b = some (.frz o u)
 tbls : ∀ b ps, H b = some (.tbl ps) → ∃ more, H' b = some (.tbl (ps ++ more))
section
variable {fs fs' ex ex' : List Addr} {H H1 H2 : Hp} {h h1 h2 h' : Heap} {a x e : Addr} {o : HO}
theorem Un.any (u : Un fs ex H H1 h h1) {b : Addr} {ob : Obj} (q : h.get? b = some ob) (n : H b = none) (hx : b ∉ ex) : ∃ sl, h1.get? b = some { ob with slots := sl } := by
 by_cases hb : b ∈ fs
 ·exact u.slot b ob q n hb hx
 ·exact ⟨ob.slots, u.keep b ob q n hb hx⟩
theorem Un.trans (a : Un fs ex H H1 h h1) (b : Un fs ex H1 H2 h1 h2) : Un fs ex H H2 h h2 where
 keep := fun c ob q n hc hx => b.keep c ob (a.keep c ob q n hc hx) (a.free c ob q n hx) hc hx
 slot := fun c ob q n hc hx => by
  obtain ⟨sl, e1⟩ := a.slot c ob q n hc hx
  obtain ⟨sl', e2⟩ := b.slot c _ e1 (a.free c ob q n hx) hc hx
  exact ⟨sl', e2⟩
 free := fun c ob q n hx => by
  obtain ⟨o', e1⟩ := a.there c ob q hx
  exact b.free c o' e1 (a.free c ob q n hx) hx
 there := fun c ob q hx => by
  obtain ⟨o', e1⟩ := a.there c ob q hx
  exact b.there c o' e1 hx
 tups := fun c xs q => b.tups c xs (a.tups c xs q)
 frzs := fun c ob xs q => b.frzs c ob xs (a.frzs c ob xs q)
 tbls := fun c ps q => by
  obtain ⟨m1, e1⟩ := a.tbls c ps q
  obtain ⟨m2, e2⟩ := b.tbls c _ e1
  exact ⟨m1 ++ m2, by rw [e2, Array.append_assoc]⟩
theorem Un.kept (k : ∀ b u, h.get? b = some u → h'.get? b = some u) : Un fs ex H H h h' :=
 ⟨fun b ob q _ _ _ => k b ob q, fun b ob q _ _ _ => ⟨ob.slots, k b ob q⟩, fun _ _ _ n _ => n, fun b ob q _ => ⟨ob, k b ob q⟩, fun _ _ q => q, fun _ _ _ q => q, fun _ ps q => ⟨#[], by rw [q]; simp⟩⟩
theorem Un.refl : Un fs ex H H h h := Un.kept fun _ _ q => q
theorem Un.laid (k : ∀ b u, h.get? b = some u → h'.get? b = some u) (hp : h.objs.size ≤ a) (hn : H a = none) : Un fs ex H (upd H a o) h h' where
 keep := fun b u q _ _ _ => k b u q
 slot := fun b u q _ _ _ => ⟨u.slots, k b u q⟩
 free := fun b u q n _ => by rw [upd_ne (Nat.ne_of_lt (Nat.lt_of_lt_of_le (Heap.lt_size q) hp))]; exact n
 there := fun b u q _ => ⟨u, k b u q⟩
 tups := fun b xs q => by rw [upd_ne (ne_of_none q hn)]; exact q
 frzs := fun b u xs q => by rw [upd_ne (ne_of_none q hn)]; exact q
 tbls := fun b ps q => ⟨#[], by rw [upd_ne (ne_of_none q hn), q]; simp⟩
theorem Un.write (mu : Mut (H x)) (he : e = x ∨ H e = some (.own x)) (k : ∀ b u, b ≠ e → h.get? b = some u → h'.get? b = some u) (heo : ∃ u, h'.get? e = some u) : Un fs ex H (upd H x o) h h' := by
 have hx : ∀ b, H b = none → b ≠ x := fun b n z => by subst z; rw [n] at mu; exact mu
 have hb : ∀ b, H b = none → b ≠ e := fun b n z => by
  subst z
  rcases he with r | r
  ·exact hx b n r
  ·rw [n] at r; cases r
 have hm : ∀ b u, H b = some u → ¬ Mut (some u) → b ≠ x := fun b u q nm z => by subst z; rw [q] at mu; exact nm mu
 refine ⟨fun b u q n _ _ => k b u (hb b n) q, fun b u q n _ _ => ⟨u.slots, k b u (hb b n) q⟩, fun b u q n _ => by rw [upd_ne (hx b n)]; exact n, fun b u q _ => ?_,
  fun b xs q => by rw [upd_ne (hm b _ q fun z => z)]; exact q, fun b u xs q => by rw [upd_ne (hm b _ q fun z => z)]; exact q, fun b ps q => ⟨#[], by rw [upd_ne (hm b _ q fun z => z), q]; simp⟩⟩
 by_cases hbe : b = e
 ·subst hbe; exact heo
 ·exact ⟨u, k b u hbe q⟩
theorem Un.mono (u : Un fs ex H H1 h h1) (hs : ∀ b ∈ fs, b ∈ fs') (hx : ∀ b ∈ ex, b ∈ ex') : Un fs' ex' H H1 h h1 :=
 ⟨fun b ob q n hb he => u.keep b ob q n (fun z => hb (hs b z)) fun z => he (hx b z), fun _ _ q n _ he => u.any q n fun z => he (hx _ z), fun b ob q n he => u.free b ob q n fun z => he (hx b z), fun b ob q he => u.there b ob q fun z => he (hx b z), u.tups, u.frzs, u.tbls⟩
end
def trk (h : Heap) (H : Hp) : List Addr := (List.range h.objs.size).filter fun a => (H a).isSome
def hidT (h : Heap) (H : Hp) : Heap := PySem.W.hideAll h (trk h H)
theorem hidT_size (h : Heap) (H : Hp) : (hidT h H).objs.size = h.objs.size := PySem.W.hideAll_size _ _
theorem hidT_get {h : Heap} {H : Hp} {b : Addr} {o : Obj} (e : h.get? b = some o) (n : H b = none) : (hidT h H).get? b = some o :=
 PySem.W.hideAll_get _ e fun hm => by
  have q : (H b).isSome = true := (List.mem_filter.mp hm).2
  rw [n] at q; simp at q
theorem of_hidT {h : Heap} {H : Hp} {b : Addr} {o : Obj} (e : (hidT h H).get? b = some o) : h.get? b = some o ∧ H b = none := by
 have e' : h.get? b = some o := PySem.W.of_hideAll (trk h H) e
 refine ⟨e', ?_⟩
 cases q : H b with
 | none => rfl
 | some x =>
  have hm : b ∈ trk h H := List.mem_filter.mpr ⟨List.mem_range.mpr (Heap.lt_size e'), by simp [q]⟩
  have z : (hidT h H).get? b = none := PySem.W.hideAll_none (trk h H) hm
  rw [z] at e; cases e
def allNews (g h : Heap) (L : Addr) : List (Addr × Obj) := (List.range h.objs.size).filterMap fun a => if a = L ∨ (g.get? a).isSome = true then none else (h.get? a).map fun o => (a, o)
def rest (g h : Heap) (L d : Addr) : List (Addr × Obj) := (allNews g h L).filter fun p => decide (p.1 ≠ d)
end L2
namespace L2
open PySem PySem.Spec PyProof.Rows
structure Mod (K : PySem.W.Frag) (mg : Str → Option Value) (base : Heap) : Prop where
 kin : K.In base
 glob : base.Ns mainGlobals mg
 blt : ∃ mb, base.Ns builtinsNs mb ∧ ∀ x : Str, x ≠ "__name__" → mb x = bootBuiltins x
 nolimit : base.NoLimit
structure Cx where
 prog : Program
 w : World
 K : PySem.W.Frag
 mg : Str → Option Value
 base : Heap
 A : Around
 N : List Str
 s₀ : Shared
 H₀ : Hp
 env : Env
 outer : List Env
 stack : List Env
 ex : List Addr
 fn : Str → Bool
 calm : Bool
 pn : List (Addr × Obj)
 xe : Value → Shared → Prop
def frs (l : List Env) : List Addr := l.filterMap (·.frame)
abbrev Cx.fs (X : Cx) : List Addr := frs X.outer
def Vis (sc : Scope) (x : Str) : Prop := sc.names.lookup x = some .local ∨ sc.names.lookup x = some .cell ∨ sc.names.lookup x = some .free
def Loc (sc : Scope) (x : Str) : Prop := sc.names.lookup x = some .local ∨ sc.names.lookup x = some .cell
def Look (env : Env) (h : Heap) (m : Str → Option Value) (x : Str) (u : Value) : Prop :=
 (env.kindOf x = some .local ∧ m x = some u) ∨ ((env.kindOf x = some .cell ∨ env.kindOf x = some .free) ∧ ∃ c, env.cells.lookup x = some c ∧ h.IsCell c (some u))
structure Cx.Ok (X : Cx) : Prop where
 mod : Mod X.K X.mg X.base
 kind : X.env.scope.kind = .function
 glob : X.env.globals = mainGlobals
 blt : X.env.builtins = builtinsNs
 above : X.s₀.heap.objs.size ≤ X.env.locals
 inj : ∀ x y c, X.env.cells.lookup x = some c → X.env.cells.lookup y = some c → x = y
 has : ∀ x, (X.env.kindOf x = some .cell ∨ X.env.kindOf x = some .free) → ∃ c, X.env.cells.lookup x = some c
 cab : ∀ x c, X.fn x = true → X.env.cells.lookup x = some c → X.s₀.heap.objs.size ≤ c
 hd : X.calm = true → X.A.handled = none
 frames : X.A.frames = some X.stack
 stk : X.stack = X.outer ∨ (X.stack = X.env :: X.outer ∧ X.env.frame = some X.env.locals)
 exf : ∀ b ∈ X.ex, b ≠ X.env.locals ∧ ∀ x c, X.env.cells.lookup x = some c → c ≠ b
 bs : ∀ b o, X.base.get? b = some o → X.s₀.heap.get? b = some o ∧ X.H₀ b = none
 bsz : X.base.objs.size ≤ X.s₀.heap.objs.size
 noex : ∀ b o, X.base.get? b = some o → b ∉ X.ex
 exfs : ∀ b ∈ X.ex, b ∉ X.fs
 funs : X.s₀.heap.FunFrames X.base X.outer
 frf : ∀ b ∈ X.fs, X.H₀ b = none
structure Inv (X : Cx) (pins : List (Addr × Obj)) (σ : List (Option V)) (H : Hp) (s : Shared) : Prop where
 ok : X.Ok
 os : s.os = X.s₀.os
 bare : AllBare s.gens
 base : Un X.fs X.ex X.H₀ H X.s₀.heap s.heap
 loc : ∃ m, s.heap.Ns X.env.locals m ∧ ∀ (i : Nat) (x : Str) (v : V), X.N[i]? = some x → σ[i]? = some (some v) → Vis X.env.scope x → ∃ u, RelV v u ∧ Look X.env s.heap m x u
 cell : ∀ x c, X.env.cells.lookup x = some c → ∃ v, s.heap.IsCell c v
 free : H X.env.locals = none
 freeC : ∀ x c, X.env.cells.lookup x = some c → H c = none
 pin : ∀ p ∈ X.pn ++ pins, s.heap.get? p.1 = some p.2 ∧ H p.1 = none ∧ p.1 ≠ X.env.locals ∧ p.1 ∉ X.fs ∧ ∀ v, p.2.data ≠ .cell v
 hok : HOk X.prog X.w H s.heap
 len : σ.length = X.N.length
section
variable {X : Cx} {pins : List (Addr × Obj)} {σ : List (Option V)} {H H' : Hp} {s : Shared} {h' : Heap}
theorem Cx.Ok.nofr (ok : X.Ok) {b : Addr} {o : Obj} (e : X.base.get? b = some o) : b ∉ X.fs := fun hb => by
 have := (ok.funs.mem hb).1
 rw [e] at this; cases this
theorem Inv.bs (I : Inv X pins σ H s) : ∀ b o, X.base.get? b = some o → s.heap.get? b = some o ∧ H b = none := fun b o e =>
 ⟨I.base.keep b o (I.ok.bs b o e).1 (I.ok.bs b o e).2 (I.ok.nofr e) (I.ok.noex b o e), I.base.free b o (I.ok.bs b o e).1 (I.ok.bs b o e).2 (I.ok.noex b o e)⟩
theorem Inv.bk (I : Inv X pins σ H s) : ∀ b o, X.base.get? b = some o → s.heap.get? b = some o := fun b o e => (I.bs b o e).1
theorem Inv.mod (I : Inv X pins σ H s) : Mod X.K X.mg X.base := I.ok.mod
theorem Inv.kIn (I : Inv X pins σ H s) : X.K.In s.heap := I.ok.mod.kin.keeps I.bk
theorem Inv.nolimit (I : Inv X pins σ H s) : s.heap.NoLimit := I.ok.mod.nolimit.keeps I.bk
theorem Inv.fr (I : Inv X pins σ H s) : ∃ m, Fr X.base X.env.locals s.heap m :=
 let ⟨m, hn, _⟩ := I.loc
 ⟨m, hn, I.bk, Nat.le_trans I.ok.bsz I.ok.above⟩
theorem Inv.lt (I : Inv X pins σ H s) : X.env.locals < s.heap.objs.size := let ⟨_, hn, _⟩ := I.loc; hn.lt
theorem Inv.sz (I : Inv X pins σ H s) : X.s₀.heap.objs.size ≤ s.heap.objs.size := Nat.le_trans I.ok.above (Nat.le_of_lt I.lt)
theorem Inv.nofs (I : Inv X pins σ H s) {a : Addr} (h : s.heap.objs.size ≤ a) : a ∉ X.fs := fun hb => by
 obtain ⟨_, o, ho, _⟩ := I.ok.funs.mem hb
 exact absurd (Nat.lt_of_lt_of_le (Heap.lt_size ho) (Nat.le_trans I.sz h)) (Nat.lt_irrefl _)
theorem Inv.cne (I : Inv X pins σ H s) : ∀ x c, X.env.cells.lookup x = some c → c ≠ X.env.locals := fun x c e z => by
 obtain ⟨v, o, ho, hd⟩ := I.cell x c e
 obtain ⟨m, ⟨o', es, ep, ho', hd', _⟩, _⟩ := I.loc
 rw [z, ho'] at ho; cases ho; rw [hd'] at hd; cases hd
theorem Inv.funs (I : Inv X pins σ H s) : s.heap.FunFrames X.base X.outer := by
 have all : ∀ (l : List Env), (∀ b ∈ frs l, b ∈ X.fs) → X.s₀.heap.FunFrames X.base l → s.heap.FunFrames X.base l := by
  intro l
  induction l with
  | nil => intro _ _; trivial
  | cons env r ih =>
   intro hs hl
   obtain ⟨hk, ⟨L, o, hf, hn, ho, hd⟩, hr⟩ := hl
   have hL : L ∈ X.fs := hs L (by unfold frs; rw [List.filterMap_cons, hf]; exact List.mem_cons_self)
   obtain ⟨sl, e⟩ := I.base.slot L o ho (I.ok.frf L hL) hL fun z => I.ok.exfs L z hL
   exact ⟨hk, ⟨L, _, hf, hn, e, hd⟩, ih (fun b hb => hs b (by unfold frs; rw [List.filterMap_cons, hf]; exact List.mem_cons_of_mem _ hb)) hr⟩
 exact all X.outer (fun _ hb => hb) I.ok.funs
theorem Inv.stack (I : Inv X pins σ H s) : s.heap.FunFrames X.base X.stack := by
 rcases I.ok.stk with e | ⟨e, hf⟩
 ·rw [e]; exact I.funs
 ·rw [e]
  obtain ⟨m, hn, _⟩ := I.loc
  refine .cons (by rw [I.ok.kind]; decide) hf hn ?_ I.funs
  exact Heap.get?_none_of_le (Nat.le_trans I.ok.bsz I.ok.above)
theorem Inv.stkSub (I : Inv X pins σ H s) : ∀ b ∈ frs X.stack, b ∈ X.env.locals :: X.fs := fun b hb => by
 rcases I.ok.stk with e | ⟨e, hf⟩
 ·rw [e] at hb; exact List.mem_cons_of_mem _ hb
 ·rw [e] at hb
  unfold frs at hb
  rw [List.filterMap_cons, hf] at hb
  exact hb
theorem Inv.stkFree (I : Inv X pins σ H s) : ∀ b ∈ frs X.stack, H b = none := fun b hb => by
 rcases List.mem_cons.mp (I.stkSub b hb) with e | hb
 ·rw [e]; exact I.free
 ·obtain ⟨_, o, ho, _⟩ := I.ok.funs.mem hb
  exact I.base.free b o ho (I.ok.frf b hb) fun z => I.ok.exfs b z hb
theorem Inv.step {g' : Array GenState} {t' : Nat} {d' : Drawn} {ch : List Addr} (I : Inv X pins σ H s)
  (hch : ∀ b ∈ ch, (b ∈ X.ex ∨ X.s₀.heap.objs.size ≤ b) ∧ b ≠ X.env.locals ∧ (∀ x c, X.env.cells.lookup x = some c → c ≠ b) ∧ ∀ p ∈ X.pn ++ pins, p.1 ≠ b)
  (keep : ∀ b o, b ≠ X.env.locals → b ∉ X.fs → b ∉ ch → s.heap.get? b = some o → H b = none → h'.get? b = some o)
  (slot : ∀ b o, b ≠ X.env.locals → b ∈ X.fs → b ∉ ch → s.heap.get? b = some o → H b = none → ∃ sl, h'.get? b = some { o with slots := sl }) (free : ∀ b o, b ∉ ch → s.heap.get? b = some o → H b = none → H' b = none)
  (there : ∀ b o, b ∉ ch → s.heap.get? b = some o → ∃ o', h'.get? b = some o')
  (tups : ∀ b xs, H b = some (.tup xs) → H' b = some (.tup xs)) (frzs : ∀ b o u, H b = some (.frz o u) → H' b = some (.frz o u)) (tbls : ∀ b ps, H b = some (.tbl ps) → ∃ more, H' b = some (.tbl (ps ++ more)))
  (ns : ∀ m, s.heap.Ns X.env.locals m → h'.Ns X.env.locals m) (hok : HOk X.prog X.w H' h') (hg : AllBare g') :
  Inv X pins σ H' { s with heap := h', gens := g', drawn := d', toks := t' } := by
 have neL : ∀ b o, X.s₀.heap.get? b = some o → b ≠ X.env.locals := fun b o e => Nat.ne_of_lt (Nat.lt_of_lt_of_le (Heap.lt_size e) I.ok.above)
 have neC : ∀ b o, X.s₀.heap.get? b = some o → b ∉ X.ex → b ∉ ch := fun b o e hx hb => by
  rcases (hch b hb).1 with z | z
  ·exact hx z
  ·exact absurd (Nat.lt_of_lt_of_le (Heap.lt_size e) z) (Nat.lt_irrefl _)
 have cellK : ∀ x c, X.env.cells.lookup x = some c → ∀ v, s.heap.IsCell c v → h'.IsCell c v := fun x c e v ⟨o, ho, hd⟩ => by
  have nch : c ∉ ch := fun z => (hch c z).2.2.1 x c e rfl
  by_cases hc : c ∈ X.fs
  ·obtain ⟨sl, q⟩ := slot c o (I.cne x c e) hc nch ho (I.freeC x c e)
   exact ⟨_, q, hd⟩
  ·exact ⟨o, keep c o (I.cne x c e) hc nch ho (I.freeC x c e), hd⟩
 refine ⟨I.ok, I.os, hg, ⟨fun b o e n hb hx => ?_, fun b o e n hb hx => ?_, fun b o e n hx => ?_, fun b o e hx => ?_, fun b xs e => tups b xs (I.base.tups b xs e), fun b o xs e => frzs b o xs (I.base.frzs b o xs e), fun b ps e => ?_⟩, ?_, fun x c e => ?_, ?_, fun x c e => ?_, fun p hp => ?_, hok, I.len⟩
 ·exact keep b o (neL b o e) hb (neC b o e hx) (I.base.keep b o e n hb hx) (I.base.free b o e n hx)
 ·obtain ⟨sl, e1⟩ := I.base.slot b o e n hb hx
  obtain ⟨sl', e2⟩ := slot b _ (neL b o e) hb (neC b o e hx) e1 (I.base.free b o e n hx)
  exact ⟨sl', e2⟩
 ·obtain ⟨o', e1⟩ := I.base.there b o e hx
  exact free b o' (neC b o e hx) e1 (I.base.free b o e n hx)
 ·obtain ⟨o', e1⟩ := I.base.there b o e hx
  exact there b o' (neC b o e hx) e1
 ·obtain ⟨m1, e1⟩ := I.base.tbls b ps e
  obtain ⟨m2, e2⟩ := tbls b _ e1
  exact ⟨m1 ++ m2, by rw [e2, Array.append_assoc]⟩
 ·obtain ⟨m, hn, hl⟩ := I.loc
  refine ⟨m, ns m hn, fun i x v e1 e2 e3 => ?_⟩
  obtain ⟨u, r, l⟩ := hl i x v e1 e2 e3
  refine ⟨u, r, ?_⟩
  rcases l with l | ⟨k, c, e, z⟩
  ·exact .inl l
  ·exact .inr ⟨k, c, e, cellK x c e _ z⟩
 ·obtain ⟨v, z⟩ := I.cell x c e
  exact ⟨v, cellK x c e v z⟩
 ·obtain ⟨m, ⟨o, _, _, ho, _⟩, _⟩ := I.loc
  exact free _ o (fun z => (hch _ z).2.1 rfl) ho I.free
 ·obtain ⟨v, o, ho, hd⟩ := I.cell x c e
  exact free c o (fun z => (hch c z).2.2.1 x c e rfl) ho (I.freeC x c e)
 ·obtain ⟨e, n, ne, nf, d⟩ := I.pin p hp
  have nch : p.1 ∉ ch := fun z => (hch p.1 z).2.2.2 p hp rfl
  exact ⟨keep p.1 p.2 ne nf nch e n, free p.1 p.2 nch e n, ne, nf, d⟩
theorem Inv.un {t' : Nat} (I : Inv X pins σ H s) (u : Un X.fs [] H H' s.heap h') (hok : HOk X.prog X.w H' h') : Inv X pins σ H' { s with heap := h', toks := t' } := by
 obtain ⟨m, ⟨o, es, ep, ho, r⟩, _⟩ := id I.loc
 obtain ⟨sl, hL⟩ := u.any ho I.free (by simp)
 exact I.step (g' := s.gens) (d' := s.drawn) (ch := []) (fun _ z => nomatch z) (fun b o _ hb _ e n => u.keep b o e n hb (by simp)) (fun b o _ hb _ e n => u.slot b o e n hb (by simp)) (fun b o _ e n => u.free b o e n (by simp)) (fun b o _ e => u.there b o e (by simp)) u.tups u.frzs u.tbls (fun m' hm => by
  obtain ⟨o', es', ep', ho', r'⟩ := hm
  rw [ho] at ho'; cases ho'
  exact ⟨_, es', ep', hL, r'⟩) hok I.bare
theorem Inv.call {g' : Array GenState} {t' : Nat} {d' : Drawn} {ch : List Addr} (I : Inv X pins σ H s) (u : Un (frs X.stack) ch H H' s.heap h') (hok : HOk X.prog X.w H' h') (hg : AllBare g')
  (hch : ∀ b ∈ ch, (b ∈ X.ex ∨ X.s₀.heap.objs.size ≤ b) ∧ b ≠ X.env.locals ∧ (∀ x c, X.env.cells.lookup x = some c → c ≠ b) ∧ ∀ p ∈ X.pn ++ pins, p.1 ≠ b) :
  Inv X pins σ H' { s with heap := h', gens := g', drawn := d', toks := t' } := by
 obtain ⟨m, ⟨o, es, ep, ho, r⟩, _⟩ := id I.loc
 obtain ⟨sl, hL⟩ := u.any ho I.free fun z => (hch _ z).2.1 rfl
 exact I.step (ch := ch) hch (fun b o hL hb hc e n => u.keep b o e n (fun z => (List.mem_cons.mp (I.stkSub b z)).elim hL hb) hc) (fun b o _ _ hc e n => u.any e n hc) (fun b o hc e n => u.free b o e n hc) (fun b o hc e => u.there b o e hc) u.tups u.frzs u.tbls (fun m' hm => by
  obtain ⟨o', es', ep', ho', r'⟩ := hm
  rw [ho] at ho'; cases ho'
  exact ⟨_, es', ep', hL, r'⟩) hok hg
theorem Inv.turned {t' : Nat} {it : Addr} (I : Inv X pins σ H s) (k : ∀ b o, b ≠ it → s.heap.get? b = some o → h'.get? b = some o) (hn : H it = none) (hL : it ≠ X.env.locals)
  (h1 : it ∈ X.ex ∨ X.s₀.heap.objs.size ≤ it) (h2 : ∀ x c, X.env.cells.lookup x = some c → c ≠ it) (h3 : ∀ p ∈ X.pn ++ pins, p.1 ≠ it) : Inv X pins σ H { s with heap := h', toks := t' } := by
 have nit : ∀ b u, H b = some u → b ≠ it := fun b u e z => by rw [z, hn] at e; cases e
 refine I.step (g' := s.gens) (d' := s.drawn) (ch := [it]) (fun b hb => ?_) (fun b o _ _ hc e _ => k b o (fun z => hc (by simp [z])) e) (fun b o _ _ hc e _ => ⟨o.slots, k b o (fun z => hc (by simp [z])) e⟩) (fun _ _ _ _ n => n)
  (fun b o hc e => ⟨o, k b o (fun z => hc (by simp [z])) e⟩) (fun _ _ e => e) (fun _ _ _ e => e) (fun b ps e => ⟨#[], by rw [e]; simp⟩) (fun m hm => ?_) (fun b u e => ?_) I.bare
 ·have e : b = it := by simpa using hb
  subst e
  exact ⟨h1, hL, h2, h3⟩
 ·obtain ⟨o, es, ep, ho, r⟩ := hm
  exact ⟨o, es, ep, k _ o (Ne.symm hL) ho, r⟩
 ·refine (I.hok b u e).stay (fun c v hc q => k c v ?_ q) (fun _ q => q) fun _ _ q => q
  rcases hc with z | z
  ·rw [z]; exact nit b u e
  ·exact nit c _ z
theorem Inv.tok (I : Inv X pins σ H s) (t : Nat) : Inv X pins σ H { s with toks := t } := I.un (h' := s.heap) (t' := t) Un.refl I.hok
theorem Inv.kept {t' : Nat} (I : Inv X pins σ H s) (k : ∀ b u, s.heap.get? b = some u → h'.get? b = some u) : Inv X pins σ H { s with heap := h', toks := t' } := I.un (Un.kept k) (I.hok.kept k)
theorem Inv.laid {a : Addr} {o : HO} {t' : Nat} (I : Inv X pins σ H s) (k : ∀ b u, s.heap.get? b = some u → h'.get? b = some u) (hp : s.heap.objs.size ≤ a) (new : ObjOk X.prog X.w (upd H a o) h' a o) :
  Inv X pins σ (upd H a o) { s with heap := h', toks := t' } := I.un (Un.laid k hp (I.hok.fresh hp)) (I.hok.laid k hp new)
theorem Inv.write {x e : Addr} {o : HO} {t' : Nat} (I : Inv X pins σ H s) (mu : Mut (H x)) (he : e = x ∨ H e = some (.own x)) (k : ∀ b u, b ≠ e → s.heap.get? b = some u → h'.get? b = some u) (heo : ∃ u, h'.get? e = some u)
  (new : ObjOk X.prog X.w (upd H x o) h' x o) : Inv X pins σ (upd H x o) { s with heap := h', toks := t' } := I.un (Un.write mu he k heo) (I.hok.write mu he k heo new)
theorem Inv.pins_of {pins' : List (Addr × Obj)} (I : Inv X pins σ H s) (h : ∀ p ∈ pins', s.heap.get? p.1 = some p.2 ∧ H p.1 = none ∧ p.1 ≠ X.env.locals ∧ p.1 ∉ X.fs ∧ ∀ v, p.2.data ≠ .cell v) : Inv X pins' σ H s :=
 ⟨I.ok, I.os, I.bare, I.base, I.loc, I.cell, I.free, I.freeC, fun p hp => (List.mem_append.mp hp).elim (fun z => I.pin p (List.mem_append_left _ z)) (h p), I.hok, I.len⟩
theorem nodup_ix {N : List Str} (hN : N.Nodup) {i j : Nat} {x : Str} (a : N[i]? = some x) (b : N[j]? = some x) : i = j := by
 obtain ⟨h1, e1⟩ := List.getElem?_eq_some_iff.mp a
 obtain ⟨h2, e2⟩ := List.getElem?_eq_some_iff.mp b
 exact (List.getElem_inj hN).mp (e1.trans e2.symm)
theorem store_ok2 {M : Model} {A : Around} {E : Value → Shared → Prop} {i : Nat} {x : Str} {v : V} {u : Value} {Q : Unit → Shared → Prop} (I : Inv X pins σ H s) (hN : X.N.Nodup) (hi : X.N[i]? = some x) (hx : Loc X.env.scope x) (r : RelV v u)
  (h : ∀ s', Inv X pins (σ.set i (some v)) H s' → (∃ a, Heap.SameBut a s.heap s'.heap ∧ (a = X.env.locals ∨ X.env.cells.lookup x = some a)) → Q () s') (hf : X.fn x = true ∨ X.env.scope.names.lookup x = some .local := by first | exact .inl rfl | exact .inr rfl | assumption) : wpAny M A (storeName X.env x u) Q E s := by
 obtain ⟨m, hn, hl⟩ := id I.loc
 have hcls : (X.env.scope.kind == .class || (X.env.scope.kind == .module && X.env.locals != X.env.globals)) = false := by rw [I.ok.kind]; rfl
 have hiσ : i < σ.length := by rw [I.len]; exact (List.getElem?_eq_some_iff.mp hi).1
 have cne := I.cne
 have tracked : ∀ {a : Addr} {h' : Heap}, (∃ o, s.heap.get? a = some o ∧ H a = none) → Heap.SameBut a s.heap h' → HOk X.prog X.w H h' := fun {a h'} ha hs b ob e => by
  obtain ⟨_, _, hfree⟩ := ha
  refine (I.hok b ob e).stay (fun c w' hc q => (hs.2 c ?_).trans q) (fun _ q => q) fun _ _ q => q
  rintro rfl
  rcases hc with rfl | hc
  ·rw [hfree] at e; cases e
  ·rw [hfree] at hc; cases hc
 rcases hx with hk | hk
 ·refine wpAny_storeName_local hk hn (fun h' hn' hs => ?_) hcls
  obtain ⟨oL, _, _, hoL, _⟩ := id hn
  refine h _ ⟨I.ok, I.os, I.bare, ⟨fun b o e n hb hx => ?_, fun b o e n hb hx => ?_, I.base.free, fun b o e hx => ?_, I.base.tups, I.base.frzs, I.base.tbls⟩, ⟨_, hn', fun j y v' e1 e2 e3 => ?_⟩, fun y c e => ?_, I.free, I.freeC, fun p hp => ?_, tracked ⟨oL, hoL, I.free⟩ hs, by simpa using I.len⟩ ⟨_, hs, .inl rfl⟩
  ·exact (hs.2 b (Nat.ne_of_lt (Nat.lt_of_lt_of_le (Heap.lt_size e) I.ok.above))).trans (I.base.keep b o e n hb hx)
  ·obtain ⟨sl, e1⟩ := I.base.slot b o e n hb hx
   exact ⟨sl, (hs.2 b (Nat.ne_of_lt (Nat.lt_of_lt_of_le (Heap.lt_size e) I.ok.above))).trans e1⟩
  ·obtain ⟨o', e1⟩ := I.base.there b o e hx
   exact ⟨o', (hs.2 b (Nat.ne_of_lt (Nat.lt_of_lt_of_le (Heap.lt_size e) I.ok.above))).trans e1⟩
  ·by_cases hj : j = i
   ·subst hj
    rw [hi] at e1; cases e1
    rw [List.getElem?_set_self hiσ] at e2
    cases e2
    exact ⟨u, r, .inl ⟨hk, by simp⟩⟩
   ·rw [List.getElem?_set_ne (Ne.symm hj)] at e2
    obtain ⟨u', r', q⟩ := hl j y v' e1 e2 e3
    refine ⟨u', r', ?_⟩
    rcases q with ⟨k, e⟩ | ⟨k, c, e, z⟩
    ·refine .inl ⟨k, ?_⟩
     have : y ≠ x := fun e => hj (nodup_ix hN e1 (e ▸ hi))
     simp [this, e]
    ·exact .inr ⟨k, c, e, z.sameBut hs (cne y c e)⟩
  ·obtain ⟨w', z⟩ := I.cell y c e
   exact ⟨w', z.sameBut hs (cne y c e)⟩
  ·obtain ⟨e, n, ne, nf, d⟩ := I.pin p hp
   exact ⟨(hs.2 p.1 ne).trans e, n, ne, nf, d⟩
 ·have hfn : X.fn x = true := by
   rcases hf with z | z
   ·exact z
   ·rw [z] at hk; cases hk
  obtain ⟨c, hc⟩ := I.ok.has x (.inl hk)
  obtain ⟨w', z⟩ := I.cell x c hc
  refine wpAny_storeName_cell I.ok.kind hk hc z (fun h' hc' hs => ?_)
  obtain ⟨oc, hoc, hocd⟩ := id z
  refine h { s with heap := h' } ⟨I.ok, I.os, I.bare, ⟨fun b o e n hb hx => ?_, fun b o e n hb hx => ?_, I.base.free, fun b o e hx => ?_, I.base.tups, I.base.frzs, I.base.tbls⟩, ⟨m, hn.sameBut hs (Ne.symm (cne x c hc)), fun j y v' e1 e2 e3 => ?_⟩, fun y c' e => ?_, I.free, I.freeC, fun p hp => ?_, tracked ⟨oc, hoc, I.freeC x c hc⟩ hs, by simpa using I.len⟩ ⟨c, hs, .inr hc⟩
  ·exact (hs.2 b (Nat.ne_of_lt (Nat.lt_of_lt_of_le (Heap.lt_size e) (I.ok.cab x c hfn hc)))).trans (I.base.keep b o e n hb hx)
  ·obtain ⟨sl, e1⟩ := I.base.slot b o e n hb hx
   exact ⟨sl, (hs.2 b (Nat.ne_of_lt (Nat.lt_of_lt_of_le (Heap.lt_size e) (I.ok.cab x c hfn hc)))).trans e1⟩
  ·obtain ⟨o', e1⟩ := I.base.there b o e hx
   exact ⟨o', (hs.2 b (Nat.ne_of_lt (Nat.lt_of_lt_of_le (Heap.lt_size e) (I.ok.cab x c hfn hc)))).trans e1⟩
  ·by_cases hj : j = i
   ·subst hj
    rw [hi] at e1; cases e1
    rw [List.getElem?_set_self hiσ] at e2
    cases e2
    exact ⟨u, r, .inr ⟨.inl hk, c, hc, hc'⟩⟩
   ·rw [List.getElem?_set_ne (Ne.symm hj)] at e2
    obtain ⟨u', r', q⟩ := hl j y v' e1 e2 e3
    refine ⟨u', r', ?_⟩
    rcases q with q | ⟨k, c', e, z'⟩
    ·exact .inl q
    ·refine .inr ⟨k, c', e, z'.sameBut hs ?_⟩
     rintro rfl
     exact hj (nodup_ix hN e1 (I.ok.inj _ _ _ e hc ▸ hi))
  ·by_cases hcc : c' = c
   ·subst hcc; exact ⟨_, hc'⟩
   ·obtain ⟨w2, z2⟩ := I.cell y c' e
    exact ⟨w2, z2.sameBut hs hcc⟩
  ·obtain ⟨e, n, ne, nf, d⟩ := I.pin p hp
   refine ⟨(hs.2 p.1 ?_).trans e, n, ne, nf, d⟩
   intro q
   rw [q, hoc] at e
   have q' : oc = p.2 := Option.some.inj e
   exact d w' (by rw [← q']; exact hocd)
theorem store_ok {M : Model} {A : Around} {E : Value → Shared → Prop} {i : Nat} {x : Str} {v : V} {u : Value} {Q : Unit → Shared → Prop} (I : Inv X pins σ H s) (hN : X.N.Nodup) (hi : X.N[i]? = some x) (hx : Loc X.env.scope x) (r : RelV v u)
  (h : ∀ s', Inv X pins (σ.set i (some v)) H s' → Q () s') (hf : X.fn x = true ∨ X.env.scope.names.lookup x = some .local := by first | exact .inl rfl | exact .inr rfl | assumption) : wpAny M A (storeName X.env x u) Q E s :=
 store_ok2 I hN hi hx r (fun s' I' _ => h s' I') hf
theorem Inv.call' {s' : Shared} {ch : List Addr} (I : Inv X pins σ H s) (ho : s'.os = s.os) (u : Un (frs X.stack) ch H H' s.heap s'.heap) (hok : HOk X.prog X.w H' s'.heap) (hg : AllBare s'.gens)
  (hch : ∀ b ∈ ch, (b ∈ X.ex ∨ X.s₀.heap.objs.size ≤ b) ∧ b ≠ X.env.locals ∧ (∀ x c, X.env.cells.lookup x = some c → c ≠ b) ∧ ∀ p ∈ X.pn ++ pins, p.1 ≠ b) : Inv X pins σ H' s' := by
 obtain ⟨h', g', d', t', o'⟩ := s'
 have e : o' = s.os := ho
 subst e
 exact I.call (g' := g') (t' := t') (d' := d') u hok hg hch
end
abbrev XK := Value → Option Addr → Hp → Prop
abbrev St := List (Option V)
abbrev VK := V → Hp → Prop
abbrev TE := St → Hp → VK → Prop
abbrev TT := St → Hp → (Bool → Hp → Prop) → Prop
abbrev TA := St → Hp → (List V → Hp → Prop) → Prop
structure Ends where
 nx : St → Hp → Prop
 rt : VK
 bk : St → Hp → Prop := fun _ _ => False
 ct : St → Hp → Prop := fun _ _ => False
abbrev TS := Ends → St → Hp → Prop
def EP (X : Cx) (pins : List (Addr × Obj)) (σ : St) (Q : VK) (u : Value) (s' : Shared) : Prop := ∃ v H', Inv X pins σ H' s' ∧ RelV v u ∧ Q v H'
def TP (X : Cx) (pins : List (Addr × Obj)) (σ : St) (Q : Bool → Hp → Prop) (b : Bool) (s' : Shared) : Prop := ∃ H', Inv X pins σ H' s' ∧ Q b H'
def AP (X : Cx) (pins : List (Addr × Obj)) (σ : St) (Q : List V → Hp → Prop) (us : List Value) (s' : Shared) : Prop := ∃ vs H', Inv X pins σ H' s' ∧ Vals vs us ∧ Q vs H'
def SP (X : Cx) (pins : List (Addr × Obj)) (D : Ends) (f : Flow) (s' : Shared) : Prop :=
 match f with
 | .next => ∃ σ' H', Inv X pins σ' H' s' ∧ D.nx σ' H'
 | .brk => ∃ σ' H', Inv X pins σ' H' s' ∧ D.bk σ' H'
 | .cont => ∃ σ' H', Inv X pins σ' H' s' ∧ D.ct σ' H'
 | .ret u => ∃ v σ' H', Inv X pins σ' H' s' ∧ RelV v u ∧ D.rt v H'
structure PE (X : Cx) (e : Expr) (t : TE) : Prop where
 run : ∀ (pins : List (Addr × Obj)) (s : Shared) (σ : St) (H : Hp) (Q : VK), Inv X pins σ H s → t σ H Q → wpAny (model X.prog X.w) X.A (eval e X.env) (EP X pins σ Q) X.xe s
instance {X : Cx} {e : Expr} {t : TE} : CoeFun (PE X e t) fun _ => ∀ (pins : List (Addr × Obj)) (s : Shared) (σ : St) (H : Hp) (Q : VK), Inv X pins σ H s → t σ H Q → wpAny (model X.prog X.w) X.A (eval e X.env) (EP X pins σ Q) X.xe s := ⟨PE.run⟩
structure PT (X : Cx) (e : Expr) (t : TT) : Prop where
 run : ∀ (pins : List (Addr × Obj)) (s : Shared) (σ : St) (H : Hp) (Q : Bool → Hp → Prop), Inv X pins σ H s → t σ H Q → wpAny (model X.prog X.w) X.A (isTrue e X.env (eval e X.env)) (TP X pins σ Q) X.xe s
instance {X : Cx} {e : Expr} {t : TT} : CoeFun (PT X e t) fun _ => ∀ (pins : List (Addr × Obj)) (s : Shared) (σ : St) (H : Hp) (Q : Bool → Hp → Prop), Inv X pins σ H s → t σ H Q → wpAny (model X.prog X.w) X.A (isTrue e X.env (eval e X.env)) (TP X pins σ Q) X.xe s := ⟨PT.run⟩
structure PW (X : Cx) (e : Expr) (t : TT) : Prop where
 run : ∀ (whole : Sem Value) (pins : List (Addr × Obj)) (s : Shared) (σ : St) (H : Hp) (Q : Bool → Hp → Prop), Inv X pins σ H s → t σ H Q → wpAny (model X.prog X.w) X.A (isTrue e X.env whole) (TP X pins σ Q) X.xe s
instance {X : Cx} {e : Expr} {t : TT} : CoeFun (PW X e t) fun _ => ∀ (whole : Sem Value) (pins : List (Addr × Obj)) (s : Shared) (σ : St) (H : Hp) (Q : Bool → Hp → Prop), Inv X pins σ H s → t σ H Q → wpAny (model X.prog X.w) X.A (isTrue e X.env whole) (TP X pins σ Q) X.xe s := ⟨PW.run⟩
theorem PW.pt {X : Cx} {e : Expr} {t : TT} (h : PW X e t) : PT X e t := ⟨h.run _⟩
structure PA (X : Cx) (es : List Expr) (t : TA) : Prop where
 run : ∀ (pos : Pos) (pins : List (Addr × Obj)) (s : Shared) (σ : St) (H : Hp) (Q : List V → Hp → Prop), Inv X pins σ H s → t σ H Q → wpAny (model X.prog X.w) X.A (spliced (backTo pos (starEach es X.env))) (AP X pins σ Q) X.xe s
instance {X : Cx} {es : List Expr} {t : TA} : CoeFun (PA X es t) fun _ => ∀ (pos : Pos) (pins : List (Addr × Obj)) (s : Shared) (σ : St) (H : Hp) (Q : List V → Hp → Prop), Inv X pins σ H s → t σ H Q → wpAny (model X.prog X.w) X.A (spliced (backTo pos (starEach es X.env))) (AP X pins σ Q) X.xe s := ⟨PA.run⟩
structure PS (X : Cx) (st : Stmt) (t : TS) : Prop where
 run : ∀ (pins : List (Addr × Obj)) (s : Shared) (σ : St) (H : Hp) (D : Ends), Inv X pins σ H s → t D σ H → wpAny (model X.prog X.w) X.A (exec st X.env) (SP X pins D) X.xe s
instance {X : Cx} {st : Stmt} {t : TS} : CoeFun (PS X st t) fun _ => ∀ (pins : List (Addr × Obj)) (s : Shared) (σ : St) (H : Hp) (D : Ends), Inv X pins σ H s → t D σ H → wpAny (model X.prog X.w) X.A (exec st X.env) (SP X pins D) X.xe s := ⟨PS.run⟩
structure PSs (X : Cx) (st : List Stmt) (t : TS) : Prop where
 run : ∀ (pins : List (Addr × Obj)) (s : Shared) (σ : St) (H : Hp) (D : Ends), Inv X pins σ H s → t D σ H → wpAny (model X.prog X.w) X.A (execs st X.env) (SP X pins D) X.xe s
instance {X : Cx} {st : List Stmt} {t : TS} : CoeFun (PSs X st t) fun _ => ∀ (pins : List (Addr × Obj)) (s : Shared) (σ : St) (H : Hp) (D : Ends), Inv X pins σ H s → t D σ H → wpAny (model X.prog X.w) X.A (execs st X.env) (SP X pins D) X.xe s := ⟨PSs.run⟩
theorem thn {α : Type} {t : Sem α} {Q Q' : α → Shared → Prop} {M : Model} {A : Around} {E : Value → Shared → Prop} {s : Shared} (h : wpAny M A t Q E s) (hQ : ∀ a s, Q a s → Q' a s) : wpAny M A t Q' E s := wpAny_mono h hQ fun _ _ x => x
end L2
namespace L2
open PySem PySem.Spec PyProof.Rows
section
variable {X : Cx}
def tVar (i : Nat) : TE := fun σ H Q => ∃ v, σ[i]? = some (some v) ∧ Q v H
def tC (v : V) : TE := fun _ H Q => Q v H
theorem pe_var {i : Nat} {x : Str} {pos : Pos} (hN : X.N[i]? = some x) (hv : Vis X.env.scope x) (hd : (x == ("__debug__" : Str)) = false := by decide) (hcd : (x == ("__classdict__" : Str)) = false := by decide) : PE X (.Name x pos) (tVar i) := by
 refine .mk ?_
 intro pins s σ H Q I h
 obtain ⟨v, e, h⟩ := h
 obtain ⟨m, hn, hl⟩ := I.loc
 obtain ⟨u, r, l⟩ := hl i x v hN e hv
 have fin : EP X pins σ Q u s := ⟨v, H, I, r, h⟩
 rcases l with ⟨hk, hm⟩ | ⟨hk, c, hc, hcell⟩
 ·exact wpAny_Name (wpAny_loadName_local I.ok.kind hk hn hm fin) hd
 ·rcases hk with hk | hk
  ·exact wpAny_Name (wpAny_loadName_cell I.ok.kind hk hc hcell fin) hd
  ·exact wpAny_Name (wpAny_loadName_free I.ok.kind hk hc hcell fin hcd) hd
theorem pe_int {i j pos} : PE X (.Constant (.int i) j pos) (tC (.int i)) := .mk fun _ _ _ H _ I h => wpAny_Constant_int ⟨.int i, H, I.tok _, ⟨_, rfl⟩, h⟩
theorem pe_bl {b j pos} : PE X (.Constant (.bool b) j pos) (tC (.bl b)) := .mk fun _ _ _ H _ I h => Constant_bool ⟨.bl b, H, I, rfl, h⟩
theorem pe_non {j pos} : PE X (.Constant .none j pos) (tC .non) := .mk fun _ _ _ H _ I h => Constant_none ⟨.non, H, I, rfl, h⟩
theorem pe_str {x j pos} : PE X (.Constant (.str x) j pos) (tC (.str x)) := .mk fun _ _ _ H _ I h => Calls.Constant_str ⟨.str x, H, I.tok _, ⟨_, rfl⟩, h⟩
def Gl (X : Cx) (x : Str) : Prop := X.env.kindOf x = some .globalImplicit
theorem ld_glob {E : Value → Shared → Prop} {pins : List (Addr × Obj)} {s : Shared} {σ : St} {H : Hp} {x : Str} {u : Value} {pos : Pos} {Q : Value → Shared → Prop} (I : Inv X pins σ H s) (hg : Gl X x) (hm : X.mg x = some u) (h : Q u s)
  (hd : (x == ("__debug__" : Str)) = false := by decide) : wpAny (model X.prog X.w) X.A (eval (.Name x pos) X.env) Q E s :=
 Calls.Name_function_global I.ok.kind hg (Calls.loadGlobal_global (by rw [I.ok.glob]; exact I.mod.glob.keeps I.bk) hm h) hd
theorem ld_blt {E : Value → Shared → Prop} {pins : List (Addr × Obj)} {s : Shared} {σ : St} {H : Hp} {x : Str} {u : Value} {pos : Pos} {Q : Value → Shared → Prop} (I : Inv X pins σ H s) (hg : Gl X x) (hm : X.mg x = none) (hv : bootBuiltins x = some u) (h : Q u s)
  (hn : x ≠ "__name__" := by decide) (hd : (x == ("__debug__" : Str)) = false := by decide) : wpAny (model X.prog X.w) X.A (eval (.Name x pos) X.env) Q E s := by
 obtain ⟨mb, h1, h2⟩ := I.mod.blt
 exact Calls.Name_function_global I.ok.kind hg (Calls.loadGlobal_builtin (by rw [I.ok.glob]; exact I.mod.glob.keeps I.bk) hm (by rw [I.ok.blt]; exact h1.keeps I.bk) ((h2 x hn).trans hv) h) hd
theorem pe_glob {x : Str} {v : V} {u : Value} {pos : Pos} (hg : Gl X x) (hm : X.mg x = some u) (r : RelV v u) (hd : (x == ("__debug__" : Str)) = false := by decide) : PE X (.Name x pos) (tC v) :=
 .mk fun _ _ _ H _ I h => ld_glob I hg hm ⟨v, H, I, r, h⟩ hd
theorem pe_bltn {x : Str} {v : V} {u : Value} {pos : Pos} (hg : Gl X x) (hm : X.mg x = none) (hv : bootBuiltins x = some u) (r : RelV v u) (hn : x ≠ "__name__" := by decide) (hd : (x == ("__debug__" : Str)) = false := by decide) : PE X (.Name x pos) (tC v) :=
 .mk fun _ _ _ H _ I h => ld_blt I hg hm hv ⟨v, H, I, r, h⟩ hn hd
variable {a b : Expr} {ta tb : TE} {pos : Pos}
structure PC (X : Cx) (op : CmpOp) (a b : Expr) (t : TE) : Prop where
 run : ∀ (pins : List (Addr × Obj)) (s : Shared) (σ : St) (H : Hp) (Q : VK), Inv X pins σ H s → t σ H Q →
  wpAny (model X.prog X.w) X.A (eval a X.env) (fun v s₁ => wpAny (model X.prog X.w) X.A (eval b X.env) (fun u s₂ => wpAny (model X.prog X.w) X.A (compareOp op v u) (EP X pins σ Q) X.xe s₂) X.xe s₁) X.xe s
instance {X : Cx} {op : CmpOp} {a b : Expr} {t : TE} : CoeFun (PC X op a b t) fun _ => ∀ (pins : List (Addr × Obj)) (s : Shared) (σ : St) (H : Hp) (Q : VK), Inv X pins σ H s → t σ H Q → wpAny (model X.prog X.w) X.A (eval a X.env) (fun v s₁ => wpAny (model X.prog X.w) X.A (eval b X.env) (fun u s₂ => wpAny (model X.prog X.w) X.A (compareOp op v u) (EP X pins σ Q) X.xe s₂) X.xe s₁) X.xe s := ⟨PC.run⟩
def tB (t : TE) : TT := fun σ H Q => t σ H fun x H1 => ∃ c, x = .bl c ∧ Q c H1
theorem pt_val {e : Expr} {t : TE} (h : PE X e t) (he : ∀ whole, isTrue e X.env whole = (do let v ← whole; standAt e.pos; holding [v] (truthy v)) := by intro _; rfl) : PT X e (tB t) := by
 refine .mk ?_
 intro pins s σ H Q I hw
 refine isTrue_plain (thn (h pins s σ H _ I hw) fun v s1 ⟨x, H1, I1, r1, q1⟩ => ?_) (he _)
 obtain ⟨d, rfl, q⟩ := q1
 cases r1
 exact wpAny_truthy_bool ⟨H1, I1, q⟩
variable {tA tB' : TT} {rest : List Expr}
def tAnd (t u : TT) : TT := fun σ H Q => t σ H fun c H1 => if c = true then u σ H1 Q else Q false H1
def tOr (t u : TT) : TT := fun σ H Q => t σ H fun c H1 => if c = true then Q true H1 else u σ H1 Q
def tNot (t : TT) : TT := fun σ H Q => t σ H fun c H1 => Q (!c) H1
theorem pw_and1 (ha : PT X a tA) : PW X (.BoolOp .And [a] pos) tA := by
 refine .mk ?_
 intro wh pins s σ H Q I h
 refine isTrue_and (thn (ha pins s σ H Q I h) fun c s1 e => ?_)
 cases c with
 | true => exact isTrue_and_nil e
 | false => exact e
theorem pw_or1 (ha : PT X a tA) : PW X (.BoolOp .Or [a] pos) tA := by
 refine .mk ?_
 intro wh pins s σ H Q I h
 refine isTrue_or (thn (ha pins s σ H Q I h) fun c s1 e => ?_)
 cases c with
 | false => exact isTrue_or_nil e
 | true => exact e
theorem pw_and (ha : PT X a tA) (hb : PW X (.BoolOp .And (b :: rest) pos) tB') : PW X (.BoolOp .And (a :: b :: rest) pos) (tAnd tA tB') := by
 refine .mk ?_
 intro wh pins s σ H Q I h
 refine isTrue_and (thn (ha pins s σ H _ I h) fun c s1 ⟨H1, I1, q1⟩ => ?_)
 cases c with
 | true => exact hb wh pins s1 σ H1 Q I1 q1
 | false => exact ⟨H1, I1, q1⟩
theorem pw_or (ha : PT X a tA) (hb : PW X (.BoolOp .Or (b :: rest) pos) tB') : PW X (.BoolOp .Or (a :: b :: rest) pos) (tOr tA tB') := by
 refine .mk ?_
 intro wh pins s σ H Q I h
 refine isTrue_or (thn (ha pins s σ H _ I h) fun c s1 ⟨H1, I1, q1⟩ => ?_)
 cases c with
 | true => exact ⟨H1, I1, q1⟩
 | false => exact hb wh pins s1 σ H1 Q I1 q1
theorem pt_not (ha : PT X a tA) : PT X (.UnaryOp .Not a pos) (tNot tA) := by
 refine .mk ?_
 intro pins s σ H Q I h
 exact isTrue_not (ha pins s σ H (fun c H1 => Q (!c) H1) I h)
def tAndV (ta tb : TE) : TE := fun σ H Q => ta σ H fun x H1 => ∃ c, x = .bl c ∧ if c = true then tb σ H1 Q else Q (.bl false) H1
def tOrV (ta tb : TE) : TE := fun σ H Q => ta σ H fun x H1 => ∃ c, x = .bl c ∧ if c = true then Q (.bl true) H1 else tb σ H1 Q
def tNotV (ta : TE) : TE := fun σ H Q => ta σ H fun x H1 => ∃ c, x = .bl c ∧ Q (.bl (!c)) H1
theorem pe_one {op} {t : TE} (h : PE X a t) : PE X (.BoolOp op [a] pos) t := .mk fun pins s σ H Q I hw => BoolOp_one (h pins s σ H Q I hw)
theorem pe_and (ha : PE X a ta) (hb : PE X (.BoolOp .And (b :: rest) pos) tb) : PE X (.BoolOp .And (a :: b :: rest) pos) (tAndV ta tb) := by
 refine .mk ?_
 intro pins s σ H Q I h
 refine BoolOp_and (thn (ha pins s σ H _ I h) fun v s1 ⟨x, H1, I1, r1, q1⟩ => ?_)
 obtain ⟨c, rfl, q1⟩ := q1
 cases r1
 refine wpAny_truthy_bool ?_
 cases c with
 | true => exact hb pins s1 σ H1 Q I1 q1
 | false => exact ⟨.bl false, H1, I1, rfl, q1⟩
theorem pe_or (ha : PE X a ta) (hb : PE X (.BoolOp .Or (b :: rest) pos) tb) : PE X (.BoolOp .Or (a :: b :: rest) pos) (tOrV ta tb) := by
 refine .mk ?_
 intro pins s σ H Q I h
 refine BoolOp_or (thn (ha pins s σ H _ I h) fun v s1 ⟨x, H1, I1, r1, q1⟩ => ?_)
 obtain ⟨c, rfl, q1⟩ := q1
 cases r1
 refine wpAny_truthy_bool ?_
 cases c with
 | false => exact hb pins s1 σ H1 Q I1 q1
 | true => exact ⟨.bl true, H1, I1, rfl, q1⟩
theorem pe_not (ha : PE X a ta) : PE X (.UnaryOp .Not a pos) (tNotV ta) := by
 refine .mk ?_
 intro pins s σ H Q I h
 refine UnaryOp_ (thn (ha pins s σ H _ I h) fun v s1 ⟨x, H1, I1, r1, q1⟩ => ?_)
 obtain ⟨c, rfl, q1⟩ := q1
 cases r1
 exact not_of (wpAny_truthy_bool ⟨.bl (!c), H1, I1, rfl, q1⟩)
end
end L2
namespace L2
open PySem PySem.Spec PyProof.Rows
def SqL (K : PySem.W.Frag) (H : Hp) (a : Addr) (xs : List V) : Prop :=
 Rd H a (.lst xs) ∨
  ∃ (o : Obj) (its : Array Value) (n : Nat), K.lookup a = some o ∧ o.cls = .type "list" ∧ o.dict = none ∧ o.data = .seq its n ∧ its.size ≤ sizeLine ∧ Vals xs its.toList
def SqT (K : PySem.W.Frag) (H : Hp) (a : Addr) (xs : List V) : Prop :=
 Rd H a (.tup xs) ∨
  ∃ (o : Obj) (its : Array Value) (n : Nat), K.lookup a = some o ∧ o.cls = .type "tuple" ∧ o.data = .seq its n ∧ its.size ≤ sizeLine ∧ Vals xs its.toList
def absV : Value → Option V
 | .none => some .non
 | .bool b => some (.bl b)
 | .int i _ => some (.int i)
 | .str x _ => some (.str x)
 | .bytes b _ => some (.byt b)
 | .float b _ => some (.flt b)
 | .ref a => some (.ref a)
 | .type n => some (.ty n)
 | _ => none
theorem RelV.abs {x : V} {u : Value} (r : RelV x u) : absV u = some x := by
 cases x with
 | non => cases r; rfl
 | bl _ => cases r; rfl
 | int _ => obtain ⟨t, rfl⟩ := r; rfl
 | str _ => obtain ⟨t, rfl⟩ := r; rfl
 | byt _ => obtain ⟨t, rfl⟩ := r; rfl
 | flt _ => obtain ⟨t, rfl⟩ := r; rfl
 | ref _ => cases r; rfl
 | ty _ => cases r; rfl
theorem RelV.inj {x y : V} {u : Value} (r : RelV x u) (q : RelV y u) : x = y := Option.some.inj (r.abs.symm.trans q.abs)
theorem Vals.inj : ∀ {xs ys : List V} {us : List Value}, Vals xs us → Vals ys us → xs = ys
 | _, _, _, .nil, .nil => rfl
 | _, _, _, .cons r t, .cons r' t' => by rw [r.inj r', Vals.inj t t']
section
variable {X : Cx} {pins : List (Addr × Obj)} {σ : St} {H : Hp} {s : Shared} {a : Addr} {xs ys : List V}
theorem SqL.of {K : PySem.W.Frag} (h : H a = some (.lst xs)) : SqL K H a xs := .inl (.inl h)
theorem SqT.of {K : PySem.W.Frag} (h : H a = some (.tup xs)) : SqT K H a xs := .inl (.inl h)
theorem Inv.list (I : Inv X pins σ H s) (h : SqL X.K H a xs) : ∃ its : List Value, Vals xs its ∧ PlainL s.heap a its.toArray ∧ xs.length ≤ sizeLine := by
 rcases h with h | ⟨o, its, n, hk, hc, hd, hs, hz, r⟩
 ·obtain ⟨z, its, n, r, e⟩ := h.ok I.hok
  exact ⟨its, r, ⟨_, n, e, rfl, rfl, rfl⟩, z⟩
 ·refine ⟨its.toList, r, ⟨o, n, I.kIn a o hk, hc, hd, by simpa using hs⟩, ?_⟩
  have e := r.length
  simp only [Array.length_toList] at e
  omega
theorem Inv.tuple (I : Inv X pins σ H s) (h : SqT X.K H a xs) : ∃ its : List Value, Vals xs its ∧ IsTup s.heap a its.toArray ∧ xs.length ≤ sizeLine := by
 rcases h with h | ⟨o, its, n, hk, hc, hs, hz, r⟩
 ·obtain ⟨z, its, r, p⟩ := h.ok I.hok
  exact ⟨its, r, p, z⟩
 ·refine ⟨its.toList, r, ⟨o, I.kIn a o hk, hc, n, by simpa using hs⟩, ?_⟩
  have e := r.length
  simp only [Array.length_toList] at e
  omega
theorem Inv.list_inj (I : Inv X pins σ H s) (h : SqL X.K H a xs) (h' : SqL X.K H a ys) : xs = ys := by
 obtain ⟨its, r, ⟨o, n, e, _, _, d⟩, _⟩ := I.list h
 obtain ⟨its', r', ⟨o', n', e', _, _, d'⟩, _⟩ := I.list h'
 rw [e] at e'; cases e'
 rw [d] at d'
 injection d' with d1 _
 have : its = its' := by simpa using congrArg Array.toList d1
 subst this
 exact r.inj r'
theorem Inv.tuple_inj (I : Inv X pins σ H s) (h : SqT X.K H a xs) (h' : SqT X.K H a ys) : xs = ys := by
 obtain ⟨its, r, ⟨o, e, _, n, d⟩, _⟩ := I.tuple h
 obtain ⟨its', r', ⟨o', e', _, n', d'⟩, _⟩ := I.tuple h'
 rw [e] at e'; cases e'
 rw [d] at d'
 injection d' with d1 _
 have : its = its' := by simpa using congrArg Array.toList d1
 subst this
 exact r.inj r'
end
abbrev Cx.wish (X : Cx) (E : Value → Shared → Prop) : Cx := { X with xe := E }
abbrev Cx.nox (X : Cx) : Cx := X.wish fun _ _ => False
theorem Cx.Ok.wish {X : Cx} (ok : X.Ok) (E : Value → Shared → Prop) : (X.wish E).Ok :=
 ⟨ok.mod, ok.kind, ok.glob, ok.blt, ok.above, ok.inj, ok.has, ok.cab, ok.hd, ok.frames, ok.stk, ok.exf, ok.bs, ok.bsz, ok.noex, ok.exfs, ok.funs, ok.frf⟩
theorem Cx.Ok.unwish {X : Cx} {E : Value → Shared → Prop} (ok : (X.wish E).Ok) : X.Ok :=
 ⟨ok.mod, ok.kind, ok.glob, ok.blt, ok.above, ok.inj, ok.has, ok.cab, ok.hd, ok.frames, ok.stk, ok.exf, ok.bs, ok.bsz, ok.noex, ok.exfs, ok.funs, ok.frf⟩
section
variable {X : Cx} {pins : List (Addr × Obj)} {σ : St} {H : Hp} {s : Shared} {E : Value → Shared → Prop}
theorem Inv.wish (I : Inv X pins σ H s) (E : Value → Shared → Prop) : Inv (X.wish E) pins σ H s := ⟨I.ok.wish E, I.os, I.bare, I.base, I.loc, I.cell, I.free, I.freeC, I.pin, I.hok, I.len⟩
theorem Inv.unwish (I : Inv (X.wish E) pins σ H s) : Inv X pins σ H s := ⟨I.ok.unwish, I.os, I.bare, I.base, I.loc, I.cell, I.free, I.freeC, I.pin, I.hok, I.len⟩
theorem SP.unwish {D : Ends} {f : Flow} {s' : Shared} (h : SP (X.wish E) pins D f s') : SP X pins D f s' := by
 cases f with
 | next => obtain ⟨σ', H', I, q⟩ := h; exact ⟨σ', H', I.unwish, q⟩
 | brk => obtain ⟨σ', H', I, q⟩ := h; exact ⟨σ', H', I.unwish, q⟩
 | cont => obtain ⟨σ', H', I, q⟩ := h; exact ⟨σ', H', I.unwish, q⟩
 | ret u => obtain ⟨v, σ', H', I, r, q⟩ := h; exact ⟨v, σ', H', I.unwish, r, q⟩
theorem PE.nox {e : Expr} {t : TE} (h : PE X.nox e t) : PE X e t := .mk fun pins s σ H Q I hw =>
 wpAny_mono (h pins s σ H Q (I.wish _) hw) (fun _ _ ⟨v, H', I', r, q⟩ => ⟨v, H', I'.unwish, r, q⟩) fun _ _ z => False.elim z
theorem PT.nox {e : Expr} {t : TT} (h : PT X.nox e t) : PT X e t := .mk fun pins s σ H Q I hw =>
 wpAny_mono (h pins s σ H Q (I.wish _) hw) (fun _ _ ⟨H', I', q⟩ => ⟨H', I'.unwish, q⟩) fun _ _ z => False.elim z
theorem PSs.nox {st : List Stmt} {t : TS} (h : PSs X.nox st t) : PSs X st t := .mk fun pins s σ H D I hw =>
 wpAny_mono (h pins s σ H D (I.wish _) hw) (fun _ _ q => q.unwish) fun _ _ z => False.elim z
end
section
variable {X : Cx} {st : Stmt} {rest : List Stmt} {t u : TS} {e : Expr} {te : TE} {pos : Pos}
def tNext : TS := fun D σ H => D.nx σ H
def tSeq (t u : TS) : TS := fun D σ H => t { D with nx := u D } σ H
theorem pss_nil : PSs X [] tNext := .mk fun _ _ σ H _ I h => wpAny_execs_nil ⟨σ, H, I, h⟩
theorem pss_cons (h1 : PS X st t) (h2 : PSs X rest u) : PSs X (st :: rest) (tSeq t u) := by
 refine .mk ?_
 intro pins s σ H D I h
 refine wpAny_execs_cons (thn (h1 pins s σ H { D with nx := u D } I h) fun f s1 q => ?_)
 cases f with
 | next =>
  obtain ⟨σ', H', I', q⟩ := q
  exact h2 pins s1 σ' H' D I' q
 | ret v => exact q
 | brk => exact q
 | cont => exact q
theorem Inv.quiet {pins : List (Addr × Obj)} {σ : St} {H : Hp} {s : Shared} (I : Inv X pins σ H s) : interactive X.env = false := by simp [interactive, I.ok.kind]
def tDrop (te : TE) : TS := fun D σ H => te σ H fun _ H1 => D.nx σ H1
theorem ps_expr (he : PE X e te) (hs : swapsWith e none pos.line X.env = pure false := by rfl) : PS X (.Expr e pos) (tDrop te) := by
 refine .mk ?_
 intro pins s σ H D I h
 exact wpAny_Expr_any (thn (he pins s σ H _ I h) fun v s1 ⟨x, H1, I1, r1, q1⟩ => ⟨σ, H1, I1, q1⟩) I.quiet hs
def tRet (te : TE) : TS := fun D σ H => te σ H D.rt
theorem ps_ret (he : PE X e te) : PS X (.Return (some e) pos) (tRet te) := by
 refine .mk ?_
 intro pins s σ H D I h
 exact wpAny_Return_some (thn (he pins s σ H _ I h) fun v s1 ⟨x, H1, I1, r1, q1⟩ => ⟨x, σ, H1, I1, r1, q1⟩)
def tIfS (c : TT) (t u : TS) : TS := fun D σ H => c σ H fun b H1 => if b = true then t D σ H1 else u D σ H1
theorem ps_if {c : Expr} {a b : List Stmt} {tc : TT} (hc : PT X c tc) (ha : PSs X a t) (hb : PSs X b u) : PS X (.If c a b pos) (tIfS tc t u) := by
 refine .mk ?_
 intro pins s σ H D I h
 refine wpAny_If (thn (hc pins s σ H _ I h) fun d s1 ⟨H1, I1, q1⟩ => ?_)
 cases d with
 | true => exact ha pins s1 σ H1 D I1 q1
 | false => exact hb pins s1 σ H1 D I1 q1
end
abbrev TG := V → St → Hp → (St → Hp → Prop) → Prop
abbrev TGs := List V → St → Hp → (St → Hp → Prop) → Prop
structure PG (X : Cx) (target : Expr) (t : TG) : Prop where
 run : ∀ (pins : List (Addr × Obj)) (s : Shared) (σ : St) (H : Hp) (v : V) (u : Value) (Q : St → Hp → Prop), Inv X pins σ H s → RelV v u → t v σ H Q →
  wpAny (model X.prog X.w) X.A (assign target X.env u) (fun _ s' => ∃ σ' H', Inv X pins σ' H' s' ∧ Q σ' H') X.xe s
instance {X : Cx} {target : Expr} {t : TG} : CoeFun (PG X target t) fun _ => ∀ (pins : List (Addr × Obj)) (s : Shared) (σ : St) (H : Hp) (v : V) (u : Value) (Q : St → Hp → Prop), Inv X pins σ H s → RelV v u → t v σ H Q → wpAny (model X.prog X.w) X.A (assign target X.env u) (fun _ s' => ∃ σ' H', Inv X pins σ' H' s' ∧ Q σ' H') X.xe s := ⟨PG.run⟩
structure PGs (X : Cx) (ts : List Expr) (t : TGs) : Prop where
 run : ∀ (pins : List (Addr × Obj)) (s : Shared) (σ : St) (H : Hp) (vs : List V) (us : List Value) (Q : St → Hp → Prop), Inv X pins σ H s → Vals vs us → t vs σ H Q →
  wpAny (model X.prog X.w) X.A (assignInOrder ((assignEach ts X.env).map (·.2)) us) (fun _ s' => ∃ σ' H', Inv X pins σ' H' s' ∧ Q σ' H') X.xe s
instance {X : Cx} {ts : List Expr} {t : TGs} : CoeFun (PGs X ts t) fun _ => ∀ (pins : List (Addr × Obj)) (s : Shared) (σ : St) (H : Hp) (vs : List V) (us : List Value) (Q : St → Hp → Prop), Inv X pins σ H s → Vals vs us → t vs σ H Q → wpAny (model X.prog X.w) X.A (assignInOrder ((assignEach ts X.env).map (·.2)) us) (fun _ s' => ∃ σ' H', Inv X pins σ' H' s' ∧ Q σ' H') X.xe s := ⟨PGs.run⟩
section
variable {X : Cx} {pos : Pos}
def gName (i : Nat) : TG := fun v σ H Q => Q (σ.set i (some v)) H
theorem pg_name {i : Nat} {x : Str} (hN : X.N.Nodup) (hi : X.N[i]? = some x) (hx : Loc X.env.scope x) (hf : X.fn x = true ∨ X.env.scope.names.lookup x = some .local := by first | exact .inl rfl | exact .inr rfl | assumption) : PG X (.Name x pos) (gName i) := by
 refine .mk ?_
 intro pins s σ H v u Q I r h
 exact wpAny_assign_Name (store_ok I hN hi hx r (fun s' I' => ⟨_, H, I', h⟩) hf)
def gNil : TGs := fun vs σ H Q => vs = [] ∧ Q σ H
def gCons (t : TG) (u : TGs) : TGs := fun vs σ H Q => ∃ v r, vs = v :: r ∧ t v σ H fun σ' H' => u r σ' H' Q
theorem pgs_nil : PGs X [] gNil := by
 refine .mk ?_
 intro pins s σ H vs us Q I r h
 obtain ⟨e, h⟩ := h
 subst e
 cases r
 exact assignInOrder_nil ⟨σ, H, I, h⟩
theorem pgs_cons {e : Expr} {es : List Expr} {t : TG} {u : TGs} (h1 : PG X e t) (h2 : PGs X es u)
  (hs : (assignEach (e :: es) X.env).map (·.2) = assign e X.env :: (assignEach es X.env).map (·.2) := by rfl) : PGs X (e :: es) (gCons t u) := by
 refine .mk ?_
 intro pins s σ H vs us Q I r h
 obtain ⟨v, vr, e1, h⟩ := h
 subst e1
 cases r with
 | cons r rr =>
  rw [hs]
  refine assignInOrder_cons (thn (h1 pins s σ H _ _ _ I r h) fun _ s1 ⟨σ1, H1, I1, q1⟩ => ?_)
  exact h2 pins s1 σ1 H1 _ _ Q I1 rr q1
def gTup (K : PySem.W.Frag) (n : Nat) (t : TGs) : TG := fun v σ H Q => ∃ a xs, v = .ref a ∧ SqT K H a xs ∧ xs.length = n ∧ t xs σ H Q
theorem pg_tup {es : List Expr} {k : Nat} {t : TGs} {n : Nat} (hc : X.calm = true) (h : PGs X es t)
  (hn : (assignEach es X.env).length = n := by rfl) (hst : (assignEach es X.env).findIdx? (·.1) = none := by rfl) : PG X (.Tuple es k pos) (gTup X.K n t) := by
 refine .mk ?_
 intro pins s σ H v u Q I r hw
 obtain ⟨a, xs, e1, hq, hl, hw⟩ := hw
 subst e1
 cases r
 obtain ⟨its, rv, ht, hz⟩ := I.tuple hq
 refine assign_Tuple_tuple (I.ok.hd hc) ht (by simp [hn, ← hl, rv.length]) hst fun h' hx => ?_
 have I1 : Inv X pins σ H { s with heap := h' } := I.kept (t' := s.toks) fun b o e => hx b o (Nat.ne_of_lt (Heap.lt_size e)) e
 exact h pins _ σ H xs _ Q I1 (by simpa using rv) hw
def tAsg (te : TE) (g : TG) : TS := fun D σ H => te σ H fun x H1 => g x σ H1 D.nx
theorem ps_asg {tg e : Expr} {te : TE} {g : TG} (he : PE X e te) (hg : PG X tg g) (hs : swapsWithSole [tg] e pos.line X.env = pure false := by rfl) (hw : swappedStores [tg] e X.env = pure none := by rfl)
  (h1 : (assignEach [tg] X.env).map (·.2) = [assign tg X.env] := by rfl) : PS X (.Assign [tg] e pos) (tAsg te g) := by
 refine .mk ?_
 intro pins s σ H D I h
 refine wpAny_Assign_stores (thn (he pins s σ H _ I h) fun v s1 ⟨x, H1, I1, r1, q1⟩ => ?_) hs hw
 rw [h1]
 exact thn (hg pins s1 σ H1 x v _ I1 r1 q1) fun _ s2 q => q
theorem ps_set {i : Nat} {x : Str} {e : Expr} {te : TE} {pos' : Pos} (hN : X.N.Nodup) (hi : X.N[i]? = some x) (hx : Loc X.env.scope x) (he : PE X e te) (hs : swapsWith e (some (.Name x pos')) pos.line X.env = pure false := by rfl) (hf : X.fn x = true ∨ X.env.scope.names.lookup x = some .local := by first | exact .inl rfl | exact .inr rfl | assumption) :
  PS X (.Assign [.Name x pos'] e pos) (tAsg te (gName i)) := by
 refine .mk ?_
 intro pins s σ H D I h
 refine wpAny_Assign_Name (thn (he pins s σ H _ I h) fun v s1 ⟨y, H1, I1, r1, q1⟩ => ?_) hs
 exact store_ok I1 hN hi hx r1 (fun s2 I2 => ⟨_, H1, I2, q1⟩) hf
end
section
variable {X : Cx} {pos : Pos}
def tWhile (c : TT) (tb : TS) : TS := fun D σ H => ∃ W : Nat → St → Hp → Prop, (∃ m, W m σ H) ∧ ∀ m σ H, W m σ H →
 c σ H fun b H1 => if b = true then ∃ N : St → Hp → Prop, (∀ σ' H', N σ' H' → ∃ m', m' < m ∧ W m' σ' H') ∧ tb { D with nx := N, ct := N, bk := D.nx } σ H1 else D.nx σ H1
theorem ps_while {c : Expr} {body : List Stmt} {tc : TT} {tb : TS} (hp : PassesOwn (model X.prog X.w) X.A X.env X.xe) (hc : PT X c tc) (hb : PSs X body tb) : PS X (.While c body [] pos) (tWhile tc tb) := by
 refine .mk ?_
 intro pins s σ H D I h
 obtain ⟨W, ⟨m0, w0⟩, turn⟩ := h
 refine wpAny_While (codeAny_whileLoop (fun n s' => ∃ σ' H', Inv X pins σ' H' s' ∧ W n σ' H') ?_ m0 ⟨σ, H, I, w0⟩)
 rintro n s1 ⟨σ1, H1, I1, w1⟩
 refine wpAny_passesOwn hp (thn (hc pins s1 σ1 H1 _ I1 (turn n σ1 H1 w1)) fun b s2 ⟨H2, I2, q2⟩ => ?_)
 cases b with
 | true =>
  obtain ⟨N, hN, q2⟩ := q2
  rw [if_pos rfl]
  refine wpAny_passesOwn hp (thn (hb pins s2 σ1 H2 _ I2 q2) fun f s3 q3 => ?_)
  cases f with
  | next =>
   obtain ⟨σ3, H3, I3, n3⟩ := q3
   obtain ⟨m', hm, w3⟩ := hN σ3 H3 n3
   exact ⟨m', hm, σ3, H3, I3, w3⟩
  | cont =>
   obtain ⟨σ3, H3, I3, n3⟩ := q3
   obtain ⟨m', hm, w3⟩ := hN σ3 H3 n3
   exact ⟨m', hm, σ3, H3, I3, w3⟩
  | brk => exact q3
  | ret v => exact q3
 | false =>
  rw [if_neg Bool.false_ne_true]
  exact wpAny_execs_nil ⟨σ1, H2, I2, q2⟩
end
structure It where
 go : Nat → Hp → Prop
 yld : Nat → Hp → V → Hp → Prop
 stop : Nat → Hp → Prop
def FpOk (X : Cx) (pins : List (Addr × Obj)) (H : Hp) (b : Addr) : Prop :=
 H b = none ∧ b ≠ X.env.locals ∧ b ∉ X.fs ∧ (b ∈ X.ex ∨ X.s₀.heap.objs.size ≤ b) ∧ (∀ x c, X.env.cells.lookup x = some c → c ≠ b) ∧ ∀ p ∈ X.pn ++ pins, p.1 ≠ b
theorem Inv.fpOk {X : Cx} {pins : List (Addr × Obj)} {σ : St} {H H' : Hp} {s : Shared} {b : Addr} (I : Inv X pins σ H s) (hb : s.heap.objs.size ≤ b) (hn : H' b = none) : FpOk X pins H' b := by
 refine ⟨hn, Nat.ne_of_gt (Nat.lt_of_lt_of_le I.lt hb), I.nofs hb, .inr (Nat.le_trans I.sz hb), fun x c e z => ?_, fun p hp z => ?_⟩
 ·obtain ⟨v, q⟩ := I.cell x c e
  exact absurd (Nat.lt_of_lt_of_le q.lt (by rw [z]; exact hb)) (Nat.lt_irrefl _)
 ·exact absurd (Nat.lt_of_lt_of_le (Heap.lt_size (I.pin p hp).1) (by rw [z]; exact hb)) (Nat.lt_irrefl _)
structure Turn (P : Program) (w : World) (K : PySem.W.Frag) (tg : Expr) (J : It) (fp : List Addr) (it : Addr) (tn : Nat → Heap → Prop) : Prop where
 mem : it ∈ fp
 obj : ∀ i h, tn i h → ∀ b ∈ fp, ∃ o, h.get? b = some o ∧ ∀ v, o.data ≠ .cell v
 keep : ∀ i h h', tn i h → (∀ b ∈ fp, ∀ o, h.get? b = some o → h'.get? b = some o) → tn i h'
 item : ∀ (X : Cx), X.prog = P → X.w = w → X.K = K → X.calm = true → ∀ (i : Nat) (pins : List (Addr × Obj)) (s : Shared) (σ : St) (H : Hp) (E : Value → Shared → Prop), Inv X pins σ H s → (∀ b ∈ fp, FpOk X pins H b) → tn i s.heap → J.go i H →
  wpAny (model P w) X.A (pyNext (.ref it)) (fun r s1 => ∃ u, r = some u ∧
   wpAny (model P w) X.A (letOwnedTupleGo tg (.ref it) u) (fun _ s2 => ∃ x H', Inv X pins σ H' s2 ∧ RelV x u ∧ J.yld i H x H' ∧ tn (i + 1) s2.heap ∧ ∀ b ∈ fp, H' b = none) E s1) E s
 done : ∀ (X : Cx), X.prog = P → X.w = w → X.K = K → X.calm = true → ∀ (i : Nat) (pins : List (Addr × Obj)) (s : Shared) (σ : St) (H : Hp) (E : Value → Shared → Prop), Inv X pins σ H s → (∀ b ∈ fp, FpOk X pins H b) → tn i s.heap → J.stop i H →
  wpAny (model P w) X.A (pyNext (.ref it)) (fun r s1 => r = none ∧ Inv X pins σ H s1) E s
 self : ∀ (A : Around) (i : Nat) (s : Shared) (Q : Value → Shared → Prop) (E : Value → Shared → Prop), tn i s.heap → Q (.ref it) s → wpAny (model P w) A (pyIter (.ref it)) Q E s
abbrev TI := St → Hp → (It → Hp → Prop) → Prop
def PIE (X : Cx) (pins : List (Addr × Obj)) (σ : St) (tg : Expr) (R : It → Hp → Prop) (itv : Value) (s2 : Shared) : Prop :=
 ∃ (it : Addr) (fp : List Addr) (tn : Nat → Heap → Prop) (J : It) (H' : Hp), itv = .ref it ∧ Inv X pins σ H' s2 ∧ Turn X.prog X.w X.K tg J fp it tn ∧ tn 0 s2.heap ∧ (∀ b ∈ fp, FpOk X pins H' b) ∧ R J H'
structure PI (X : Cx) (tg iter : Expr) (wi : TI) : Prop where
 run : ∀ (pins : List (Addr × Obj)) (s : Shared) (σ : St) (H : Hp) (R : It → Hp → Prop), Inv X pins σ H s → wi σ H R →
  wpAny (model X.prog X.w) X.A (eval iter X.env) (fun v s1 => wpAny (model X.prog X.w) X.A (pyIter v) (PIE X pins σ tg R) X.xe s1) X.xe s
instance {X : Cx} {tg iter : Expr} {wi : TI} : CoeFun (PI X tg iter wi) fun _ => ∀ (pins : List (Addr × Obj)) (s : Shared) (σ : St) (H : Hp) (R : It → Hp → Prop), Inv X pins σ H s → wi σ H R → wpAny (model X.prog X.w) X.A (eval iter X.env) (fun v s1 => wpAny (model X.prog X.w) X.A (pyIter v) (PIE X pins σ tg R) X.xe s1) X.xe s := ⟨PI.run⟩
theorem go_of {M : Model} {A : Around} {E : Value → Shared → Prop} {s : Shared} {tg : Expr} {it : Addr} {u : Value} {o : Obj} {n : String} {vs : Array Value} {Q : Unit → Shared → Prop} (ho : s.heap.get? it = some o) (hc : o.cls = .type n) (hd : o.data = .fields vs)
    (hn : ["enumerate", "zip", "dict_itemiterator", "dict_reverseitemiterator", "odict_iterator", "itertools.zip_longest", "itertools.pairwise"].contains n = false) (hQ : Q () s) : wpAny M A (letOwnedTupleGo tg (.ref it) u) Q E s := by
  unfold letOwnedTupleGo
  cases tg <;> first
    | exact wpAny_pure hQ
    | (cases u <;> first
        | exact wpAny_pure hQ
        | (refine wpAny_bind (wpAny_load ho ?_)
           rw [hc, hd]
           show wpAny M A (if (["enumerate", "zip", "dict_itemiterator", "dict_reverseitemiterator", "odict_iterator", "itertools.zip_longest", "itertools.pairwise"].contains n && vs[0]? == some (rawInt _)) = true then _ else _) Q E s
           rw [if_neg (by intro h; rw [hn, Bool.false_and] at h; cases h)]
           exact wpAny_pure hQ))
def Itl (K : PySem.W.Frag) (a : Addr) : It :=
 ⟨fun i H => ∃ xs x, SqL K H a xs ∧ xs[i]? = some x, fun i H x H' => H' = H ∧ ∀ xs, SqL K H a xs → xs[i]? = some x, fun i H => ∃ xs, SqL K H a xs ∧ xs.length ≤ i⟩
def Itt (K : PySem.W.Frag) (a : Addr) : It :=
 ⟨fun i H => ∃ xs x, SqT K H a xs ∧ xs[i]? = some x, fun i H x H' => H' = H ∧ ∀ xs, SqT K H a xs → xs[i]? = some x, fun i H => ∃ xs, SqT K H a xs ∧ xs.length ≤ i⟩
def Itr (lo : Int) (n : Nat) : It := ⟨fun i _ => i < n, fun i H x H' => H' = H ∧ x = .int (lo + i), fun i _ => n ≤ i⟩
theorem turn_list {P : Program} {w : World} {K : PySem.W.Frag} {tg : Expr} (a it : Addr) : Turn P w K tg (Itl K a) [it] it (fun i h => h.IsListIter it a i) where
 mem := by simp
 obj := fun i h st b hb => by
  have e : b = it := by simpa using hb
  subst e
  obtain ⟨o, e, c, d⟩ := st
  exact ⟨o, e, fun v z => by rw [d] at z; cases z⟩
 keep := fun i h h' st k => st.at fun o e => k it (by simp) o e
 item := by
  intro X hP hw hK hc i pins s σ H E I hf st hg
  subst hP hw hK
  obtain ⟨xs, x, hq, hx⟩ := hg
  obtain ⟨its, rv, p, hz⟩ := I.list hq
  obtain ⟨u, hu, ru⟩ := rv.get hx
  obtain ⟨f0, f1, f2, f3, f4, f5⟩ := hf it (by simp)
  refine wpAny_pyNext_list_item st p.isList (x := u) (by simpa using hu) fun h' st' sb => ?_
  have I1 : Inv X pins σ H { s with heap := h' } := I.turned (t' := s.toks) (fun b o hb e => (sb.2 b hb).trans e) f0 f1 f3 f4 f5
  obtain ⟨o, e, c, d⟩ := id st'
  exact ⟨u, rfl, go_of (s := { s with heap := h' }) e c d (by decide) ⟨x, H, I1, ru, ⟨rfl, fun ys hy => by rw [I.list_inj hy hq]; exact hx⟩, st', fun b hb => (hf b hb).1⟩⟩
 done := by
  intro X hP hw hK hc i pins s σ H E I hf st hg
  subst hP hw hK
  obtain ⟨xs, hq, hx⟩ := hg
  obtain ⟨its, rv, p, hz⟩ := I.list hq
  obtain ⟨f0, f1, f2, f3, f4, f5⟩ := hf it (by simp)
  have hl := rv.length
  exact wpAny_pyNext_list_end (I.ok.hd hc) st p.isList (by simp; omega) fun h' eb => ⟨rfl, I.turned (t' := s.toks) (fun b o hb e => eb b o hb e) f0 f1 f3 f4 f5⟩
 self := fun _ _ _ _ _ st h => wpAny_pyIter_listiter st h
theorem turn_tuple {P : Program} {w : World} {K : PySem.W.Frag} {tg : Expr} (a it : Addr) : Turn P w K tg (Itt K a) [it] it (fun i h => h.IsTupleIter it a i) where
 mem := by simp
 obj := fun i h st b hb => by
  have e : b = it := by simpa using hb
  subst e
  obtain ⟨o, e, c, d⟩ := st
  exact ⟨o, e, fun v z => by rw [d] at z; cases z⟩
 keep := fun i h h' st k => st.at fun o e => k it (by simp) o e
 item := by
  intro X hP hw hK hc i pins s σ H E I hf st hg
  subst hP hw hK
  obtain ⟨xs, x, hq, hx⟩ := hg
  obtain ⟨its, rv, p, hz⟩ := I.tuple hq
  obtain ⟨u, hu, ru⟩ := rv.get hx
  obtain ⟨f0, f1, f2, f3, f4, f5⟩ := hf it (by simp)
  refine wpAny_pyNext_tuple_item st (show s.heap.IsTuple a its.toArray from p) (x := u) (by simpa using hu) fun h' st' sb => ?_
  have I1 : Inv X pins σ H { s with heap := h' } := I.turned (t' := s.toks) (fun b o hb e => (sb.2 b hb).trans e) f0 f1 f3 f4 f5
  obtain ⟨o, e, c, d⟩ := id st'
  exact ⟨u, rfl, go_of (s := { s with heap := h' }) e c d (by decide) ⟨x, H, I1, ru, ⟨rfl, fun ys hy => by rw [I.tuple_inj hy hq]; exact hx⟩, st', fun b hb => (hf b hb).1⟩⟩
 done := by
  intro X hP hw hK hc i pins s σ H E I hf st hg
  subst hP hw hK
  obtain ⟨xs, hq, hx⟩ := hg
  obtain ⟨its, rv, p, hz⟩ := I.tuple hq
  obtain ⟨f0, f1, f2, f3, f4, f5⟩ := hf it (by simp)
  have hl := rv.length
  exact wpAny_pyNext_tuple_end (I.ok.hd hc) st (show s.heap.IsTuple a its.toArray from p) (by simp; omega) fun h' eb => ⟨rfl, I.turned (t' := s.toks) (fun b o hb e => eb b o hb e) f0 f1 f3 f4 f5⟩
 self := fun _ _ _ _ _ st h => wpAny_pyIter_tupleiter st h
theorem turn_range {P : Program} {w : World} {K : PySem.W.Frag} {tg : Expr} (it : Addr) (lo : Int) (n : Nat) : Turn P w K tg (Itr lo n) [it] it (fun i h => IsRangeIter h it (lo + (i : Nat) * 1) ((n : Int) - (i : Nat)) 1) where
 mem := by simp
 obj := fun i h st b hb => by
  have e : b = it := by simpa using hb
  subst e
  exact ⟨_, st, fun v z => by
   have z' : Data.fields _ = Data.cell v := z
   cases z'⟩
 keep := fun i h h' st k => k it (by simp) _ st
 item := by
  intro X hP hw hK hc i pins s σ H E I hf st hg
  subst hP hw hK
  obtain ⟨f0, f1, f2, f3, f4, f5⟩ := hf it (by simp)
  have W := Walks.range (prog := X.prog) (w := X.w) (I.ok.hd hc) it lo 1 n
  refine W.item i s _ _ hg st fun v h' tk hv st' kk => ?_
  obtain ⟨t, rfl⟩ := hv
  have I1 : Inv X pins σ H { s with heap := h', toks := tk } := I.turned (fun b o hb e => kk b o (by simpa using hb) e) f0 f1 f3 f4 f5
  refine ⟨_, rfl, go_of (s := { s with heap := h', toks := tk }) (n := "range_iterator") st' rfl rfl (by decide) ⟨.int (lo + i), H, I1, ⟨t, ?_⟩, ⟨rfl, rfl⟩, st', fun b hb => (hf b hb).1⟩⟩
  rw [Int.mul_one]
 done := by
  intro X hP hw hK hc i pins s σ H E I hf st hg
  subst hP hw hK
  obtain ⟨f0, f1, f2, f3, f4, f5⟩ := hf it (by simp)
  exact wpAny_pyNext_range_end (I.ok.hd hc) st (by have : n ≤ i := hg; omega) fun h' eb => ⟨rfl, I.turned (t' := s.toks) (fun b o hb e => eb b o hb e) f0 f1 f3 f4 f5⟩
 self := fun _ _ _ _ _ st h => wpAny_pyIter_rangeiter st h
end L2
namespace L2
open PySem PySem.Spec PyProof.Rows
section
variable {X : Cx} {tg : Expr}
def iList (K : PySem.W.Frag) (tl : TE) : TI := fun σ H R => tl σ H fun x H1 => ∃ a, x = .ref a ∧ (∃ xs, SqL K H1 a xs) ∧ R (Itl K a) H1
def iTup (K : PySem.W.Frag) (tl : TE) : TI := fun σ H R => tl σ H fun x H1 => ∃ a, x = .ref a ∧ (∃ xs, SqT K H1 a xs) ∧ R (Itt K a) H1
theorem pi_list {l : Expr} {tl : TE} (hl : PE X l tl) : PI X tg l (iList X.K tl) := by
 refine .mk ?_
 intro pins s σ H R I h
 refine thn (hl pins s σ H _ I h) fun v s1 ⟨x, H1, I1, r1, q1⟩ => ?_
 obtain ⟨a, e, ⟨xs, hq⟩, q⟩ := q1
 subst e
 cases r1
 obtain ⟨its, rv, p, hz⟩ := I1.list hq
 refine wpAny_pyIter_list p.isList ?_
 refine ⟨s1.heap.objs.size, [s1.heap.objs.size], _, _, H1, rfl, I1.kept (t' := s1.toks) fun b o e => Heap.get?_push_of_some _ e, turn_list a _, ⟨_, Heap.get?_push_size _ rfl, rfl, rfl⟩, fun b hb => ?_, q⟩
 have e : b = s1.heap.objs.size := by simpa using hb
 subst e
 exact I1.fpOk (Nat.le_refl _) (I1.hok.fresh (Nat.le_refl _))
theorem pi_tup {l : Expr} {tl : TE} (hl : PE X l tl) : PI X tg l (iTup X.K tl) := by
 refine .mk ?_
 intro pins s σ H R I h
 refine thn (hl pins s σ H _ I h) fun v s1 ⟨x, H1, I1, r1, q1⟩ => ?_
 obtain ⟨a, e, ⟨xs, hq⟩, q⟩ := q1
 subst e
 cases r1
 obtain ⟨its, rv, p, hz⟩ := I1.tuple hq
 refine wpAny_pyIter_tuple (show s1.heap.IsTuple a its.toArray from p) ?_
 refine ⟨s1.heap.objs.size, [s1.heap.objs.size], _, _, H1, rfl, I1.kept (t' := s1.toks) fun b o e => Heap.get?_push_of_some _ e, turn_tuple a _, ⟨_, Heap.get?_push_size _ rfl, rfl, rfl⟩, fun b hb => ?_, q⟩
 have e : b = s1.heap.objs.size := by simpa using hb
 subst e
 exact I1.fpOk (Nat.le_refl _) (I1.hok.fresh (Nat.le_refl _))
theorem range_it {pins : List (Addr × Obj)} {σ : St} {H : Hp} {s : Shared} {R : It → Hp → Prop} {E : Value → Shared → Prop} {lo hi : Int} {t u v : Tok} {tk : Nat} (I : Inv X pins σ H s) (h1 : -(2 ^ 62) ≤ lo) (h2 : lo < 2 ^ 62) (h3 : -(2 ^ 62) ≤ hi) (h4 : hi < 2 ^ 62)
  (q : R (Itr lo (hi - lo).toNat) H) : wpAny (model X.prog X.w) X.A (pyIter (.ref s.heap.objs.size)) (PIE X pins σ tg R) E { s with heap := s.heap.push { cls := .type "range", data := .fields #[.int lo t, .int hi u, .int 1 v] }, toks := tk } := by
 refine wpAny_pyIter_range (IsRange.new ..) (small_one h1 h2 h3 h4) ?_
 have I1 : Inv X pins σ H { s with heap := s.heap.push { cls := .type "range", data := .fields #[.int lo t, .int hi u, .int 1 v] }, toks := tk } := I.kept fun b o e => Heap.get?_push_of_some _ e
 refine ⟨(s.heap.push { cls := .type "range", data := .fields #[.int lo t, .int hi u, .int 1 v] }).objs.size, [(s.heap.push { cls := .type "range", data := .fields #[.int lo t, .int hi u, .int 1 v] }).objs.size], _, _, H, rfl,
  I1.kept (t' := tk) fun b o e => Heap.get?_push_of_some _ e, turn_range _ lo (hi - lo).toNat, ?_, fun b hb => ?_, q⟩
 ·have e1 : lo + ((0 : Nat) : Int) * 1 = lo := by simp
  have e2 : (((hi - lo).toNat : Nat) : Int) - ((0 : Nat) : Int) = Builtin.Range.rangeSize lo hi 1 := by rw [rangeSize_one]; split <;> omega
  show IsRangeIter _ _ (lo + ((0 : Nat) : Int) * 1) ((((hi - lo).toNat : Nat) : Int) - ((0 : Nat) : Int)) 1
  rw [e1, e2]
  exact Heap.get?_push_size _ rfl
 ·have e : b = (s.heap.push { cls := .type "range", data := .fields #[.int lo t, .int hi u, .int 1 v] }).objs.size := by simpa using hb
  subst e
  exact I1.fpOk (Nat.le_refl _) (I1.hok.fresh (Nat.le_refl _))
def iRng1 (ta : TA) : TI := fun σ H R => ta σ H fun vs H1 => ∃ j : Int, vs = [.int j] ∧ -(2 ^ 62) ≤ j ∧ j < 2 ^ 62 ∧ R (Itr 0 j.toNat) H1
theorem pi_range1 {a : Expr} {ta : TA} {p pos : Pos} (hg : Gl X "range") (hm : X.mg "range" = none) (ha : PA X [a] ta) (hs : starEach [a] X.env = [(false, eval a X.env)] := by rfl) : PI X tg (.Call (.Name "range" p) [a] [] pos) (iRng1 ta) := by
 refine .mk ?_
 intro pins s σ H R I h
 refine Call_ (ld_blt I hg hm boot_range (PyProof.Rows.callWith_type1 (thn (ha pos pins s σ H _ I h) fun us s1 ⟨vs, H1, I1, r1, q1⟩ => ?_) hs rfl))
 obtain ⟨j, e, q1, q2, q⟩ := q1
 subst e
 cases r1 with
 | cons r rr =>
  cases rr
  obtain ⟨t, rfl⟩ := r
  exact call_range_1 (range_it I1 (by omega) (by omega) q1 q2 (by simpa using q))
def tFor (wi : TI) (g : TG) (tb : TS) : TS := fun D σ H => wi σ H fun J H1 => ∃ W : Nat → Nat → St → Hp → Prop, (∃ m, W 0 m σ H1) ∧ ∀ i m σ H, W i m σ H →
 (J.stop i H ∧ D.nx σ H) ∨ (J.go i H ∧ ∃ N : St → Hp → Prop, (∀ σ' H', N σ' H' → ∃ m', m' < m ∧ W (i + 1) m' σ' H') ∧ ∀ x H', J.yld i H x H' → g x σ H' fun σ2 H2 => tb { D with nx := N, ct := N, bk := D.nx } σ2 H2)
def pinsAt (fp : List Addr) (h : Heap) : List (Addr × Obj) := fp.filterMap fun b => (h.get? b).map fun o => (b, o)
theorem mem_pinsAt {fp : List Addr} {h : Heap} {b : Addr} {o : Obj} (hb : b ∈ fp) (e : h.get? b = some o) : (b, o) ∈ pinsAt fp h := List.mem_filterMap.mpr ⟨b, hb, by rw [e]; rfl⟩
theorem of_pinsAt {fp : List Addr} {h : Heap} {p : Addr × Obj} (hp : p ∈ pinsAt fp h) : p.1 ∈ fp ∧ h.get? p.1 = some p.2 := by
 obtain ⟨b, hb, e⟩ := List.mem_filterMap.mp hp
 cases q : h.get? b with
 | none => rw [q] at e; cases e
 | some o =>
  rw [q] at e
  have e' : (b, o) = p := Option.some.inj e
  subst e'
  exact ⟨hb, q⟩
theorem Inv.pinned {pins : List (Addr × Obj)} {σ : St} {H : Hp} {s : Shared} {fp : List Addr} (I : Inv X pins σ H s) (hf : ∀ b ∈ fp, FpOk X pins H b) (ho : ∀ b ∈ fp, ∃ o, s.heap.get? b = some o ∧ ∀ v, o.data ≠ .cell v) : Inv X (pins ++ pinsAt fp s.heap) σ H s :=
 I.pins_of fun p hp => (List.mem_append.mp hp).elim (fun z => I.pin p (List.mem_append_right _ z)) fun z => by
  obtain ⟨hb, e⟩ := of_pinsAt z
  obtain ⟨f0, f1, f2, _⟩ := hf p.1 hb
  obtain ⟨o, e', d⟩ := ho p.1 hb
  rw [e] at e'; cases e'
  exact ⟨e, f0, f1, f2, d⟩
theorem Inv.unpinned {pins pl : List (Addr × Obj)} {σ : St} {H : Hp} {s : Shared} (I : Inv X (pins ++ pl) σ H s) : Inv X pins σ H s := I.pins_of fun p hp => I.pin p (List.mem_append_right _ (List.mem_append_left _ hp))
theorem ps_for {iter : Expr} {body : List Stmt} {wi : TI} {g : TG} {tb : TS} {pos : Pos} (hp : PassesOwn (model X.prog X.w) X.A X.env X.xe) (hc : X.calm = true) (hi : PI X tg iter wi) (hg : PG X tg g) (hb : PSs X body tb)
  (hs : ∀ x, foldedSetIterable iter X.env x = pure x := by intro _; rfl) : PS X (.For tg iter body [] pos) (tFor wi g tb) := by
 refine .mk ?_
 intro pins s σ H D I h
 refine wpAny_For (thn (hi pins s σ H _ I h) fun v s1 h1 => thn h1 fun itv s2 h2 => ?_) hs
 obtain ⟨it, fp, tn, J, H2, e, I2, T, st2, f2, W, ⟨m0, w0⟩, turn⟩ := h2
 subst e
 -- what stays true of the iterator's objects through the loop
 have stat : ∀ {H' : Hp}, (∀ b ∈ fp, H' b = none) → ∀ b ∈ fp, FpOk X pins H' b := fun hn b hb => ⟨hn b hb, (f2 b hb).2⟩
 refine codeAny_forLoop_any (fun n s' => ∃ i σ' H', Inv X pins σ' H' s' ∧ tn i s'.heap ∧ (∀ b ∈ fp, H' b = none) ∧ W i n σ' H') ?_ m0 ⟨0, σ, H2, I2, st2, fun b hb => (f2 b hb).1, w0⟩
 rintro n s3 ⟨i, σ3, H3, I3, st3, fr3, w3⟩
 rcases turn i n σ3 H3 w3 with ⟨stop, qn⟩ | ⟨go, N, hN, step⟩
 ·refine wpAny_passesOwn hp (thn (T.done X rfl rfl rfl hc i pins s3 σ3 H3 X.xe I3 (stat fr3) st3 stop) fun r s4 ⟨hr, I4⟩ => ?_)
  subst hr
  exact wpAny_execs_nil ⟨σ3, H3, I4, qn⟩
 ·refine wpAny_passesOwn hp (thn (T.item X rfl rfl rfl hc i pins s3 σ3 H3 X.xe I3 (stat fr3) st3 go) fun r s4 ⟨u, hr, h4⟩ => ?_)
  subst hr
  refine wpAny_passesOwn hp (thn h4 fun _ s5 ⟨x, H5, I5, r5, y5, st5, fr5⟩ => ?_)
  have I5' := I5.pinned (stat fr5) (T.obj _ _ st5)
  refine wpAny_passesOwn hp (thn (hg _ s5 σ3 H5 x u _ I5' r5 (step x H5 y5)) fun _ s6 ⟨σ6, H6, I6, q6⟩ => ?_)
  refine wpAny_passesOwn hp (thn (hb _ s6 σ6 H6 _ I6 q6) fun f s7 q7 => ?_)
  have again : ∀ {σ7 : St} {H7 : Hp}, Inv X (pins ++ pinsAt fp s5.heap) σ7 H7 s7 → N σ7 H7 → ∃ m, m < n ∧ ∃ i σ' H', Inv X pins σ' H' s7 ∧ tn i s7.heap ∧ (∀ b ∈ fp, H' b = none) ∧ W i m σ' H' := fun {σ7 H7} I7 n7 => by
   obtain ⟨m', hm, w7⟩ := hN σ7 H7 n7
   refine ⟨m', hm, i + 1, σ7, H7, I7.unpinned, T.keep _ _ _ st5 fun b hb o e => (I7.pin (b, o) (List.mem_append_right _ (List.mem_append_right _ (mem_pinsAt hb e)))).1, fun b hb => ?_, w7⟩
   obtain ⟨o, e, d⟩ := T.obj _ _ st5 b hb
   exact (I7.pin (b, o) (List.mem_append_right _ (List.mem_append_right _ (mem_pinsAt hb e)))).2.1
  cases f with
  | next => obtain ⟨σ7, H7, I7, n7⟩ := q7; exact again I7 n7
  | cont => obtain ⟨σ7, H7, I7, n7⟩ := q7; exact again I7 n7
  | brk => obtain ⟨σ7, H7, I7, q7⟩ := q7; exact ⟨σ7, H7, I7.unpinned, q7⟩
  | ret v => obtain ⟨x7, σ7, H7, I7, r7, q7⟩ := q7; exact ⟨x7, σ7, H7, I7.unpinned, r7, q7⟩
end
end L2
namespace L2
open PySem PySem.Spec PyProof.Rows
abbrev R2 := V → V → Hp → VK → Prop
def OpR (X : Cx) (f : Value → Value → Sem Value) (r : R2) : Prop :=
 ∀ (pins : List (Addr × Obj)) (s : Shared) (σ : St) (H : Hp) (x y : V) (v u : Value) (Q : VK), Inv X pins σ H s → RelV x v → RelV y u → r x y H Q →
  wpAny (model X.prog X.w) X.A (f v u) (EP X pins σ Q) X.xe s
def UnR (X : Cx) (f : Value → Sem Value) (r : V → Hp → VK → Prop) : Prop :=
 ∀ (pins : List (Addr × Obj)) (s : Shared) (σ : St) (H : Hp) (x : V) (v : Value) (Q : VK), Inv X pins σ H s → RelV x v → r x H Q →
  wpAny (model X.prog X.w) X.A (f v) (EP X pins σ Q) X.xe s
def CallR (X : Cx) (f : Value) (r : List V → Hp → VK → Prop) : Prop :=
 ∀ (pins : List (Addr × Obj)) (s : Shared) (σ : St) (H : Hp) (xs : List V) (us : List Value) (Q : VK), Inv X pins σ H s → Vals xs us → r xs H Q →
  wpAny (model X.prog X.w) X.A (call f us) (EP X pins σ Q) X.xe s
def tOp (r : R2) (ta tb : TE) : TE := fun σ H Q => ta σ H fun x H1 => tb σ H1 fun y H2 => r x y H2 Q
def tUn (r : V → Hp → VK → Prop) (ta : TE) : TE := fun σ H Q => ta σ H fun x H1 => r x H1 Q
def rI (C : Int → Int → Prop) (g : Int → Int → V) : R2 := fun x y H Q => ∃ i j, x = .int i ∧ y = .int j ∧ C i j ∧ Q (g i j) H
def rI0 (g : Int → Int → V) : R2 := fun x y H Q => ∃ i j, x = .int i ∧ y = .int j ∧ Q (g i j) H
def rU (g : Int → V) : V → Hp → VK → Prop := fun x H Q => ∃ i, x = .int i ∧ Q (g i) H
section
variable {X : Cx} {a b c : Expr} {ta tb tc : TE} {pos : Pos}
theorem binT (ha : PE X a ta) (hb : PE X b tb) {pins : List (Addr × Obj)} {s : Shared} {σ : St} {H : Hp} {R : V → V → Hp → Prop} (I : Inv X pins σ H s)
  (h : ta σ H fun x H1 => tb σ H1 fun y H2 => R x y H2) {Q : Value → Shared → Prop} {f : Value → Value → Sem Value}
  (hf : ∀ v u s2 x y H2, Inv X pins σ H2 s2 → RelV x v → RelV y u → R x y H2 → wpAny (model X.prog X.w) X.A (f v u) Q X.xe s2) :
  wpAny (model X.prog X.w) X.A (eval a X.env) (fun v s₁ => wpAny (model X.prog X.w) X.A (eval b X.env) (fun u s₂ => wpAny (model X.prog X.w) X.A (f v u) Q X.xe s₂) X.xe s₁) X.xe s := by
 refine thn (ha pins s σ H _ I h) fun v s1 ⟨x, H1, I1, r1, q1⟩ => ?_
 refine thn (hb pins s1 σ H1 _ I1 q1) fun u s2 ⟨y, H2, I2, r2, q2⟩ => ?_
 exact hf v u s2 x y H2 I2 r1 r2 q2
theorem pe_op {op : Operator} {r : R2} (ho : OpR X (binaryOp op) r) (ha : PE X a ta) (hb : PE X b tb) : PE X (.BinOp a op b pos) (tOp r ta tb) := by
 refine .mk ?_
 intro pins s σ H Q I h
 exact wpAny_BinOp (binT ha hb I h fun v u s2 x y H2 I2 rx ry q => ho pins s2 σ H2 x y v u Q I2 rx ry q)
theorem pe_un {op : UnaryOp} {r : V → Hp → VK → Prop} (ho : UnR X (unaryOp op) r) (ha : PE X a ta) : PE X (.UnaryOp op a pos) (tUn r ta) := by
 refine .mk ?_
 intro pins s σ H Q I h
 exact UnaryOp_ (thn (ha pins s σ H _ I h) fun v s1 ⟨x, H1, I1, r1, q1⟩ => ho pins s1 σ H1 x v Q I1 r1 q1)
theorem opI {f : Value → Value → Sem Value} {C : Int → Int → Prop} {g : Int → Int → Int}
  (rule : ∀ (i j : Int) (t u : Tok) (s : Shared) (Q : Value → Shared → Prop) (E : Value → Shared → Prop), C i j → Q (.int (g i j) s.toks) { s with toks := s.toks + 1 } → wpAny (model X.prog X.w) X.A (f (.int i t) (.int j u)) Q E s) :
  OpR X f (rI C fun i j => .int (g i j)) := by
 intro pins s σ H x y v u Q I rx ry h
 obtain ⟨i, j, rfl, rfl, hc, q⟩ := h
 obtain ⟨t, rfl⟩ := rx
 obtain ⟨t', rfl⟩ := ry
 exact rule i j t t' s _ _ hc ⟨.int (g i j), H, I.tok _, ⟨_, rfl⟩, q⟩
theorem opI0 {f : Value → Value → Sem Value} {g : Int → Int → Int}
  (rule : ∀ (i j : Int) (t u : Tok) (s : Shared) (Q : Value → Shared → Prop) (E : Value → Shared → Prop), Q (.int (g i j) s.toks) { s with toks := s.toks + 1 } → wpAny (model X.prog X.w) X.A (f (.int i t) (.int j u)) Q E s) :
  OpR X f (rI0 fun i j => .int (g i j)) := by
 intro pins s σ H x y v u Q I rx ry h
 obtain ⟨i, j, rfl, rfl, q⟩ := h
 obtain ⟨t, rfl⟩ := rx
 obtain ⟨t', rfl⟩ := ry
 exact rule i j t t' s _ _ ⟨.int (g i j), H, I.tok _, ⟨_, rfl⟩, q⟩
theorem opB0 {f : Value → Value → Sem Value} {g : Int → Int → Bool}
  (rule : ∀ (i j : Int) (t u : Tok) (s : Shared) (Q : Value → Shared → Prop) (E : Value → Shared → Prop), Q (.bool (g i j)) s → wpAny (model X.prog X.w) X.A (f (.int i t) (.int j u)) Q E s) :
  OpR X f (rI0 fun i j => .bl (g i j)) := by
 intro pins s σ H x y v u Q I rx ry h
 obtain ⟨i, j, rfl, rfl, q⟩ := h
 obtain ⟨t, rfl⟩ := rx
 obtain ⟨t', rfl⟩ := ry
 exact rule i j t t' s _ _ ⟨.bl (g i j), H, I, rfl, q⟩
def CPow (i j : Int) : Prop := 0 ≤ j ∧ j ≤ 1000000 ∧ i.natAbs < 2 ^ 64
def CMul (i j : Int) : Prop := (-(2 ^ 64) < i ∧ i < 2 ^ 64) ∨ (-(2 ^ 64) < j ∧ j < 2 ^ 64)
theorem CMul.ok {i j : Int} (h : CMul i j) : IntMulOk i j := by
 rcases h with ⟨h1, h2⟩ | ⟨h1, h2⟩
 ·exact .of_left (intBits_le_64 h1 h2)
 ·exact .of_right (intBits_le_64 h1 h2)
theorem op_add : OpR X (binaryOp .Add) (rI0 fun i j => .int (i + j)) := opI0 fun _ _ _ _ _ _ _ q => add_int q
theorem op_sub : OpR X (binaryOp .Sub) (rI0 fun i j => .int (i - j)) := opI0 fun _ _ _ _ _ _ _ q => sub_int q
theorem op_mul : OpR X (binaryOp .Mult) (rI CMul fun i j => .int (i * j)) := opI fun _ _ _ _ _ _ _ hc q => mul_int q hc.ok
theorem op_mod : OpR X (binaryOp .Mod) (rI (fun _ j => 0 < j) fun i j => .int (i % j)) := opI fun i j _ _ _ _ _ hc q => by
 have h1 : (0 : Int) < j := hc
 exact mod_int' (by omega) (by rw [Int.fmod_eq_emod_of_nonneg i (by omega)]; exact q)
theorem op_pow : OpR X (binaryOp .Pow) (rI CPow fun i j => .int (i ^ j.toNat)) := opI fun _ _ _ _ _ _ _ hc q => pow_int_small hc.1 hc.2.1 hc.2.2 q
theorem unI {f : Value → Sem Value} {g : Int → Int}
  (rule : ∀ (i : Int) (t : Tok) (s : Shared) (Q : Value → Shared → Prop) (E : Value → Shared → Prop), Q (.int (g i) s.toks) { s with toks := s.toks + 1 } → wpAny (model X.prog X.w) X.A (f (.int i t)) Q E s) :
  UnR X f (rU fun i => .int (g i)) := by
 intro pins s σ H x v Q I rx h
 obtain ⟨i, rfl, q⟩ := h
 obtain ⟨t, rfl⟩ := rx
 exact rule i t s _ _ ⟨.int (g i), H, I.tok _, ⟨_, rfl⟩, q⟩
theorem un_neg : UnR X (unaryOp .USub) (rU fun i => .int (-i)) := unI fun _ _ _ _ _ q => neg_int q
end
def scal : V → V → Bool
 | .non, .non => true | .non, .int _ => true | .int _, .non => true | .non, .bl _ => true | .bl _, .non => true | .non, .str _ => true | .str _, .non => true
 | .int _, .int _ => true | .bl _, .bl _ => true | .str _, .str _ => true | .byt _, .byt _ => true
 | .int _, .str _ => true | .str _, .int _ => true | .bl _, .str _ => true | .str _, .bl _ => true
 | _, _ => false
def rEq : R2 := fun x y H Q => scal x y = true ∧ Q (.bl (decide (x = y))) H
def rNe : R2 := fun x y H Q => scal x y = true ∧ Q (.bl (!decide (x = y))) H
theorem dec_int {i j : Int} : decide (V.int i = V.int j) = (i == j) := by
 rw [Bool.eq_iff_iff]
 simp
theorem dec_bl {i j : Bool} : decide (V.bl i = V.bl j) = (i == j) := by
 rw [Bool.eq_iff_iff]
 simp
theorem dec_str {i j : Str} : decide (V.str i = V.str j) = (i == j) := by
 rw [Bool.eq_iff_iff]
 simp
theorem dec_byt {i j : Array UInt8} : decide (V.byt i = V.byt j) = (i.toList == j.toList) := by
 rw [Bool.eq_iff_iff]
 cases i
 cases j
 simp
section
variable {X : Cx} {a b c : Expr} {ta tb tc : TE} {pos : Pos}
theorem fin_bl {pins : List (Addr × Obj)} {σ : St} {H : Hp} {s : Shared} {Q : VK} {k k' : Bool} (I : Inv X pins σ H s) (q : Q (.bl k) H) (e : k = k') : EP X pins σ Q (.bool k') s := by
 subst e
 exact ⟨.bl k, H, I, rfl, q⟩
theorem op_eq : OpR X (compareOp .Eq) rEq := by
 intro pins s σ H x y v u Q I rx ry h
 obtain ⟨hs, q⟩ := h
 cases x with
 | non =>
  cases rx
  cases y with
  | non => cases ry; exact PySem.EqNone.eq_none_none (fin_bl I q (by simp))
  | bl j => cases ry; exact PySem.EqNone.eq_none_bool (fin_bl I q (by simp))
  | int j => obtain ⟨t', rfl⟩ := ry; exact PySem.EqNone.eq_none_int (fin_bl I q (by simp))
  | str j => obtain ⟨t', rfl⟩ := ry; exact PySem.EqNone.eq_none_str (fin_bl I q (by simp))
  | _ => exact absurd (show false = true from hs) Bool.false_ne_true
 | bl i =>
  cases rx
  cases y with
  | non => cases ry; exact PySem.EqNone.eq_bool_none (fin_bl I q (by simp))
  | bl j => cases ry; exact eq_bool (fin_bl I q dec_bl)
  | str j => obtain ⟨t', rfl⟩ := ry; exact PySem.EqMixed.eq_bool_str (fin_bl I q (by simp))
  | _ => exact absurd (show false = true from hs) Bool.false_ne_true
 | int i =>
  obtain ⟨t, rfl⟩ := rx
  cases y with
  | non => cases ry; exact PySem.EqNone.eq_int_none (fin_bl I q (by simp))
  | int j => obtain ⟨t', rfl⟩ := ry; exact eq_int (fin_bl I q dec_int)
  | str j => obtain ⟨t', rfl⟩ := ry; exact PySem.EqMixed.eq_int_str (fin_bl I q (by simp))
  | _ => exact absurd (show false = true from hs) Bool.false_ne_true
 | str i =>
  obtain ⟨t, rfl⟩ := rx
  cases y with
  | non => cases ry; exact PySem.EqNone.eq_str_none (fin_bl I q (by simp))
  | bl j => cases ry; exact PySem.EqMixed.eq_str_bool (fin_bl I q (by simp))
  | int j => obtain ⟨t', rfl⟩ := ry; exact PySem.EqMixed.eq_str_int (fin_bl I q (by simp))
  | str j => obtain ⟨t', rfl⟩ := ry; exact eq_str (fin_bl I q dec_str)
  | _ => exact absurd (show false = true from hs) Bool.false_ne_true
 | byt i =>
  obtain ⟨t, rfl⟩ := rx
  cases y with
  | byt j => obtain ⟨t', rfl⟩ := ry; exact PySem.W.eq_bytes (fin_bl I q dec_byt)
  | _ => exact absurd (show false = true from hs) Bool.false_ne_true
 | _ => cases y <;> exact absurd (show false = true from hs) Bool.false_ne_true
theorem op_ne : OpR X (compareOp .NotEq) rNe := by
 intro pins s σ H x y v u Q I rx ry h
 obtain ⟨hs, q⟩ := h
 cases x with
 | non =>
  cases rx
  cases y with
  | non => cases ry; exact PySem.EqNone.ne_none_none (fin_bl I q (by simp))
  | bl j => cases ry; exact PySem.EqNone.ne_none_bool (fin_bl I q (by simp))
  | int j => obtain ⟨t', rfl⟩ := ry; exact PySem.EqNone.ne_none_int (fin_bl I q (by simp))
  | str j => obtain ⟨t', rfl⟩ := ry; exact PySem.EqNone.ne_none_str (fin_bl I q (by simp))
  | _ => exact absurd (show false = true from hs) Bool.false_ne_true
 | bl i =>
  cases rx
  cases y with
  | non => cases ry; exact PySem.EqNone.ne_bool_none (fin_bl I q (by simp))
  | bl j => cases ry; exact ne_bool (fin_bl I q (congrArg not dec_bl))
  | str j => obtain ⟨t', rfl⟩ := ry; exact PySem.EqMixed.ne_bool_str (fin_bl I q (by simp))
  | _ => exact absurd (show false = true from hs) Bool.false_ne_true
 | int i =>
  obtain ⟨t, rfl⟩ := rx
  cases y with
  | non => cases ry; exact PySem.EqNone.ne_int_none (fin_bl I q (by simp))
  | int j => obtain ⟨t', rfl⟩ := ry; exact ne_int (fin_bl I q (congrArg not dec_int))
  | str j => obtain ⟨t', rfl⟩ := ry; exact PySem.EqMixed.ne_int_str (fin_bl I q (by simp))
  | _ => exact absurd (show false = true from hs) Bool.false_ne_true
 | str i =>
  obtain ⟨t, rfl⟩ := rx
  cases y with
  | non => cases ry; exact PySem.EqNone.ne_str_none (fin_bl I q (by simp))
  | bl j => cases ry; exact PySem.EqMixed.ne_str_bool (fin_bl I q (by simp))
  | int j => obtain ⟨t', rfl⟩ := ry; exact PySem.EqMixed.ne_str_int (fin_bl I q (by simp))
  | str j => obtain ⟨t', rfl⟩ := ry; exact ne_str (fin_bl I q (congrArg not dec_str))
  | _ => exact absurd (show false = true from hs) Bool.false_ne_true
 | byt i =>
  obtain ⟨t, rfl⟩ := rx
  cases y with
  | byt j => obtain ⟨t', rfl⟩ := ry; exact PySem.W.ne_bytes (fin_bl I q (congrArg not dec_byt))
  | _ => exact absurd (show false = true from hs) Bool.false_ne_true
 | _ => cases y <;> exact absurd (show false = true from hs) Bool.false_ne_true
theorem op_lt : OpR X (compareOp .Lt) (rI0 fun i j => .bl (decide (i < j))) := opB0 fun _ _ _ _ _ _ _ q => lt_int q
theorem op_le : OpR X (compareOp .LtE) (rI0 fun i j => .bl (decide (i ≤ j))) := opB0 fun _ _ _ _ _ _ _ q => le_int q
theorem op_gt : OpR X (compareOp .Gt) (rI0 fun i j => .bl (decide (j < i))) := opB0 fun _ _ _ _ _ _ _ q => gt_int q
theorem op_ge : OpR X (compareOp .GtE) (rI0 fun i j => .bl (decide (j ≤ i))) := opB0 fun _ _ _ _ _ _ _ q => ge_int q
theorem op_in_str : OpR X (compareOp .In) (fun x y H Q => ∃ i j, x = .str i ∧ y = .str j ∧ Q (.bl (!(Builtin.Str.occurrences j i 0 j.length 1).isEmpty)) H) := by
 intro pins s σ H x y v u Q I rx ry h
 obtain ⟨i, j, rfl, rfl, q⟩ := h
 obtain ⟨t, rfl⟩ := rx
 obtain ⟨t', rfl⟩ := ry
 exact in_str (fin_bl I q rfl)
theorem op_isN : OpR X (compareOp .Is) (fun x y H Q => y = .non ∧ Q (.bl (decide (x = .non))) H) := by
 intro pins s σ H x y v u Q I rx ry h
 obtain ⟨rfl, q⟩ := h
 cases ry
 refine is_none_gen (fin_bl I q ?_)
 cases x <;> first
  | (cases rx; rfl)
  | (obtain ⟨t, rfl⟩ := rx; rfl)
theorem op_notin_str : OpR X (compareOp .NotIn) (fun x y H Q => ∃ i j, x = .str i ∧ y = .str j ∧ Q (.bl (!(!(Builtin.Str.occurrences j i 0 j.length 1).isEmpty))) H) := by
 intro pins s σ H x y v u Q I rx ry h
 obtain ⟨i, j, rfl, rfl, q⟩ := h
 obtain ⟨t, rfl⟩ := rx
 obtain ⟨t', rfl⟩ := ry
 exact notIn_str (fin_bl I q rfl)
theorem OpR.or {f : Value → Value → Sem Value} {r r' : R2} (h : OpR X f r) (h' : OpR X f r') : OpR X f (fun x y H Q => r x y H Q ∨ r' x y H Q) := by
 intro pins s σ H x y v u Q I rx ry q
 rcases q with q | q
 ·exact h pins s σ H x y v u Q I rx ry q
 ·exact h' pins s σ H x y v u Q I rx ry q
theorem nomark (b : Expr) {op : CmpOp} (h : op ≠ .In := by decide) (h2 : op ≠ .NotIn := by decide) : behindInMarks op b = false := by
 have e1 : (op == CmpOp.In) = false := by cases op <;> first | rfl | exact absurd rfl h
 have e2 : (op == CmpOp.NotIn) = false := by cases op <;> first | rfl | exact absurd rfl h2
 cases b <;> simp [behindInMarks, e1, e2]
theorem pe_cmpR {op : CmpOp} {r : R2} (ho : OpR X (compareOp op) r) (ha : PE X a ta) (hb : PE X b tb) (hm : behindInMarks op b = false) : PE X (.Compare a [op] [b] pos) (tOp r ta tb) := by
 refine .mk ?_
 intro pins s σ H Q I h
 exact wpAny_Compare1 (binT ha hb I h fun v u s2 x y H2 I2 rx ry q => ho pins s2 σ H2 x y v u Q I2 rx ry q) hm
def tTest (t : TE) : TT := fun σ H Q => t σ H fun x H' => ∃ k, x = .bl k ∧ Q k H'
theorem pt_cmpR {op : CmpOp} {r : R2} (ho : OpR X (compareOp op) r) (ha : PE X a ta) (hb : PE X b tb) (hm : behindInMarks op b = false) : PT X (.Compare a [op] [b] pos) (tTest (tOp r ta tb)) := by
 refine .mk ?_
 intro pins s σ H Q I h
 refine wpAny_isTrue_Compare1 (thn (ha pins s σ H _ I h) fun v s1 ⟨x, H1, I1, r1, q1⟩ => thn (hb pins s1 σ H1 _ I1 q1) fun u s2 ⟨y, H2, I2, r2, q2⟩ =>
  thn (ho pins s2 σ H2 x y v u _ I2 r1 r2 q2) fun c s3 ⟨z, H3, I3, r3, k, e, q3⟩ => ?_) hm
 subst e
 cases r3
 exact wpAny_truthy_bool ⟨H3, I3, q3⟩
def tChain (r r' : R2) (ta tb tc : TE) : TE := fun σ H Q => ta σ H fun x H1 => tb σ H1 fun y H2 => r x y H2 fun z H3 => ∃ k, z = .bl k ∧
 (if k = true then tc σ H3 fun w' H4 => r' y w' H4 Q else Q (.bl false) H3)
theorem pe_chain {op op' : CmpOp} {r r' : R2} (ho : OpR X (compareOp op) r) (ho' : OpR X (compareOp op') r') (ha : PE X a ta) (hb : PE X b tb) (hc : PE X c tc)
  (hm : lastMarks [op, op'] [b, c] = false := by with_unfolding_all rfl) : PE X (.Compare a [op, op'] [b, c] pos) (tChain r r' ta tb tc) := by
 refine .mk ?_
 intro pins s σ H Q I h
 refine Compare_chain (thn (ha pins s σ H _ I h) fun v s1 ⟨x, H1, I1, r1, q1⟩ => chain_link (thn (hb pins s1 σ H1 _ I1 q1) fun u s2 ⟨y, H2, I2, r2, q2⟩ =>
  thn (ho pins s2 σ H2 x y v u _ I2 r1 r2 q2) fun d s3 ⟨z, H3, I3, r3, k, e, q3⟩ => ?_)) hm
 subst e
 cases r3
 refine wpAny_truthy_bool ?_
 cases k with
 | false => exact ite_ff ⟨.bl false, H3, I3, rfl, q3⟩
 | true => exact ite_tt (chain_last (thn (hc pins s3 σ H3 _ I3 q3) fun w' s4 ⟨z', H4, I4, r4, q4⟩ => ho' pins s4 σ H4 y z' u w' Q I4 r2 r4 q4))
theorem pt_chain {op op' : CmpOp} {r r' : R2} (ho : OpR X (compareOp op) r) (ho' : OpR X (compareOp op') r') (ha : PE X a ta) (hb : PE X b tb) (hc : PE X c tc)
  (hm : lastMarks [op, op'] [b, c] = false := by with_unfolding_all rfl) : PT X (.Compare a [op, op'] [b, c] pos) (tTest (tChain r r' ta tb tc)) := by
 refine .mk ?_
 intro pins s σ H Q I h
 refine isTrue_chain (thn (ha pins s σ H _ I h) fun v s1 ⟨x, H1, I1, r1, q1⟩ => test_link (thn (hb pins s1 σ H1 _ I1 q1) fun u s2 ⟨y, H2, I2, r2, q2⟩ =>
  thn (ho pins s2 σ H2 x y v u _ I2 r1 r2 q2) fun d s3 ⟨z, H3, I3, r3, k, e, q3⟩ => ?_)) hm
 subst e
 cases r3
 refine wpAny_truthy_bool ?_
 cases k with
 | false =>
  obtain ⟨k', e', q'⟩ := q3
  cases e'
  exact ite_ff ⟨H3, I3, q'⟩
 | true =>
  refine ite_tt (test_last (thn (hc pins s3 σ H3 _ I3 q3) fun w' s4 ⟨z', H4, I4, r4, q4⟩ => thn (ho' pins s4 σ H4 y z' u w' _ I4 r2 r4 q4) fun d' s5 ⟨z2, H5, I5, r5, k2, e2, q5⟩ => ?_))
  subst e2
  cases r5
  exact wpAny_truthy_bool ⟨H5, I5, q5⟩
theorem line63 : (sizeLine : Nat) < 2 ^ 63 := by rw [sizeLine_eq]; decide
theorem op_add_str : OpR X (binaryOp .Add) (fun x y H Q => ∃ i j, x = .str i ∧ y = .str j ∧ i.length + j.length ≤ sizeLine ∧ Q (.str (i ++ j)) H) := by
 intro pins s σ H x y v u Q I rx ry h
 obtain ⟨i, j, rfl, rfl, hz, q⟩ := h
 obtain ⟨t, rfl⟩ := rx
 obtain ⟨t', rfl⟩ := ry
 exact add_str (fun t' tk => ⟨.str (i ++ j), H, I.tok _, ⟨_, rfl⟩, q⟩) hz
theorem vals1 {x : V} {us : List Value} (r : Vals [x] us) : ∃ u, us = [u] ∧ RelV x u := by
 cases r with
 | cons r1 r2 => cases r2; exact ⟨_, rfl, r1⟩
theorem vals2 {x y : V} {us : List Value} (r : Vals [x, y] us) : ∃ u w', us = [u, w'] ∧ RelV x u ∧ RelV y w' := by
 cases r with
 | cons r1 r2 =>
  cases r2 with
  | cons r3 r4 => cases r4; exact ⟨_, _, rfl, r1, r3⟩
theorem call_max2 (hc : X.calm = true) : CallR X (.builtin "max") (fun xs H Q => ∃ i j, xs = [.int i, .int j] ∧ Q (.int (if j > i then j else i)) H) := by
 intro pins s σ H xs us Q I r h
 obtain ⟨i, j, rfl, q⟩ := h
 obtain ⟨u, w', rfl, ⟨t, rfl⟩, ⟨t', rfl⟩⟩ := vals2 r
 refine max_two_ints (I.ok.hd hc) fun h' tk k => ⟨_, H, I.kept k, ?_, q⟩
 by_cases hj : j > i
 ·rw [if_pos hj, if_pos hj]; exact ⟨_, rfl⟩
 ·rw [if_neg hj, if_neg hj]; exact ⟨_, rfl⟩
theorem call_min2 (hc : X.calm = true) : CallR X (.builtin "min") (fun xs H Q => ∃ i j, xs = [.int i, .int j] ∧ Q (.int (if j < i then j else i)) H) := by
 intro pins s σ H xs us Q I r h
 obtain ⟨i, j, rfl, q⟩ := h
 obtain ⟨u, w', rfl, ⟨t, rfl⟩, ⟨t', rfl⟩⟩ := vals2 r
 refine min_two_ints (I.ok.hd hc) fun h' tk k => ⟨_, H, I.kept k, ?_, q⟩
 by_cases hj : j < i
 ·rw [if_pos hj, if_pos hj]; exact ⟨_, rfl⟩
 ·rw [if_neg hj, if_neg hj]; exact ⟨_, rfl⟩
theorem call_str_int : CallR X (.type "str") (fun xs H Q => ∃ i, xs = [.int i] ∧ i.natAbs.log2 < 1920 ∧ Q (.str (toString i)) H) := by
 intro pins s σ H xs us Q I r h
 obtain ⟨i, rfl, hz, q⟩ := h
 obtain ⟨u, rfl, t, rfl⟩ := vals1 r
 exact PySem.P.str_of_int hz ⟨.str _, H, I.tok _, ⟨_, rfl⟩, q⟩
end
end L2
namespace L2
open PySem PySem.Spec PyProof.Rows
structure ObjM (h : Heap) (x dx C : Addr) (mA : Str → Option Value) : Prop where
 obj : h.get? x = some (PySem.W.instObj C dx)
 ns : h.Ns1 dx mA
 ne : dx ≠ x
theorem lookIn_ns {h : Heap} {dx : Addr} {mA : Str → Option Value} (n : h.Ns1 dx mA) : ∃ od, h.get? dx = some od ∧ ∀ name, PySem.W.lookIn name od = some (mA name) := by
 obtain ⟨o, es, ep, ho, hd, hk, _, hm⟩ := n
 refine ⟨o, ho, fun name => ?_⟩
 have e := hm name
 unfold nsFind findBy at e
 rw [← Array.find?_toList] at e
 unfold PySem.W.lookIn
 rw [hd]
 dsimp only
 split
 ·rename_i y q
  rw [q] at e
  exact congrArg some e
 ·rename_i q
  rw [q] at e
  have a : es.toList.any (·.refKey) = false := by
   rw [List.any_eq_false]
   intro y hy
   obtain ⟨z, t, hkey⟩ := hk y (Array.mem_toList_iff.mp hy)
   simp [DictEntry.refKey, hkey]
  have a' : ¬ es.toList.any (·.refKey) = true := by rw [a]; exact Bool.false_ne_true
  rw [if_neg a']
  exact congrArg some e
theorem ObjM.look {h : Heap} {x dx C : Addr} {mA : Str → Option Value} (I : ObjM h x dx C mA) : ∃ od, PySem.W.InstAt h x (PySem.W.instObj C dx) C (some od) ∧ ∀ name, PySem.W.lookIn name od = some (mA name) :=
 let ⟨od, ho, hl⟩ := lookIn_ns I.ns
 ⟨od, ⟨I.obj, rfl, rfl, ho⟩, hl⟩
section
variable {prog : Program} {w : World} {A : Around} {E : Value → Shared → Prop} {s : Shared} {K : PySem.W.Frag} {x dx C f : Addr} {mA : Str → Option Value} {name : Str} {v : Value}
end
section
variable {P : Program} {w : World} {H H' : Hp} {h h' : Heap} {a C dx : Addr} {fs fs' : List (Str × V)}
theorem ins_get (hok : HOk P w H h) (e : H a = some (.ins C dx fs)) : ∃ mA, ObjM h a dx C mA ∧ (∀ f, RelO (fs.lookup f) (mA f)) ∧ PySem.Within mA (fs.map (·.1)) ∧ fs.length ≤ 1000 ∧ H dx = some (.own a) := by
 obtain ⟨d, z, ne, ob, mA, n, r, q⟩ := (show ObjOk P w H h a (.ins C dx fs) from hok a _ e)
 exact ⟨mA, ⟨ob, n, ne⟩, r, q, z, d⟩
end
structure Cls (K : PySem.W.Frag) (C : Addr) : Prop where
 pg : PySem.W.plainGet K C Str.empty = true
 hd : PySem.W.hasDictIn K C = true
 po : PySem.W.plainOver K C = true
 sa : PySem.W.findIn K (.ref C) "__setattr__" = some (some (.builtin "object.__setattr__"))
theorem Cls.get {K : PySem.W.Frag} {C : Addr} (c : Cls K C) (f : Str) : PySem.W.plainGet K C f = true := c.pg
structure Meth (K : PySem.W.Frag) (C : Addr) (m : Str) (f : Addr) : Prop where
 at_ : PySem.W.findIn K (.ref C) m = some (some (.ref f))
 fn : PySem.W.isFn K (.ref f) = true
 kp : PySem.W.keepIn K (.ref f) = true
section
variable {X : Cx} {pins : List (Addr × Obj)} {σ : St} {H : Hp} {s : Shared} {a C dx : Addr} {fs : List (Str × V)} {f : Str} {v : V} {A : Around} {E : Value → Shared → Prop}
theorem Inv.made (I : Inv X pins σ H s) : Inv X pins σ (upd (upd H s.heap.objs.size (.own (s.heap.objs.size + 1))) (s.heap.objs.size + 1) (.ins C s.heap.objs.size []))
  { s with heap := (s.heap.push PySem.W.emptyDict).push (PySem.W.instObj C s.heap.objs.size) } := by
 have e1 : (s.heap.push PySem.W.emptyDict).get? s.heap.objs.size = some PySem.W.emptyDict := Heap.get?_push_size s.heap rfl
 have e2 : ((s.heap.push PySem.W.emptyDict).push (PySem.W.instObj C s.heap.objs.size)).get? (s.heap.objs.size + 1) = some (PySem.W.instObj C s.heap.objs.size) := by
  have := Heap.get?_push_size (s.heap.push PySem.W.emptyDict) (o := PySem.W.instObj C s.heap.objs.size) rfl
  rwa [Heap.size_push] at this
 have e3 : (s.heap.push PySem.W.emptyDict).Ns s.heap.objs.size (fun _ => none) := ⟨PySem.W.emptyDict, #[], _, e1, rfl, (fun e he => absurd he (by simp)), fun _ => rfl⟩
 have I1 := I.laid (a := s.heap.objs.size) (o := .own (s.heap.objs.size + 1)) (h' := s.heap.push PySem.W.emptyDict) (t' := s.toks) (fun b u q => Heap.get?_push_of_some _ q) (Nat.le_refl _) ⟨_, e1⟩
 refine I1.laid (a := s.heap.objs.size + 1) (o := .ins C s.heap.objs.size []) (t' := s.toks) (fun b u q => Heap.get?_push_of_some _ q) (Nat.le_of_eq (Heap.size_push _ _)) ?_
 have ne : s.heap.objs.size ≠ s.heap.objs.size + 1 := Nat.ne_of_lt (Nat.lt_succ_self _)
 refine ⟨by rw [upd_ne ne, upd_same], Nat.zero_le _, ne, e2, fun _ => none, (Heap.Ns1.of_empty e3).at fun o q => Heap.get?_push_of_some _ q, fun _ => True.intro, fun y hy => absurd rfl hy⟩
end
section
variable {X : Cx} {o e value : Expr} {f : Str} {pos pos' tpos : Pos} {ta tv : TE}
end
section
variable {X : Cx} {pins : List (Addr × Obj)} {σ : St} {H : Hp} {s : Shared} {A : Around} {E : Value → Shared → Prop} {Q : Value → Shared → Prop} {c : Value} {b : Bool}
inductive TyOf (K : PySem.W.Frag) (H : Hp) : V → Value → Prop where
 | non : TyOf K H .non (.type "NoneType")
 | bl (x : Bool) : TyOf K H (.bl x) (.type "bool")
 | int (i : Int) : TyOf K H (.int i) (.type "int")
 | str (x : Str) : TyOf K H (.str x) (.type "str")
 | flt (x : UInt64) : TyOf K H (.flt x) (.type "float")
 | lst {a : Addr} {xs : List V} (e : H a = some (.lst xs)) : TyOf K H (.ref a) (.type "list")
 | frz {a : Addr} {o : Obj} {xs : List V} (e : H a = some (.frz o (.lst xs))) : TyOf K H (.ref a) (.type "list")
 | tup {a : Addr} {xs : List V} (e : H a = some (.tup xs)) : TyOf K H (.ref a) (.type "tuple")
 | dK {a : Addr} {kvs : List (Key × V)} (e : H a = some (.dK kvs)) : TyOf K H (.ref a) (.type "dict")
 | dT {a : Addr} {kvs : List (List Key × V)} (e : H a = some (.dT kvs)) : TyOf K H (.ref a) (.type "dict")
 | ins {a C dx : Addr} {fs : List (Str × V)} (e : H a = some (.ins C dx fs)) (cl : Cls K C) (ha : PySem.W.findIn K (.ref C) "__class__" = some (some (.builtin "object.__class__")))
   (hn : PySem.W.specialIn K (.builtin "object.__class__") "__get__" = some (some (.builtin "getset_descriptor.__get__"))) (htk : PySem.W.takesIn K (.builtin "object.__class__") = some true)
   (hm : PySem.W.mroIn K C (.type "object") = some true) : TyOf K H (.ref a) (.ref C)
theorem isinst_ok {x : V} {u t : Value} (I : Inv X pins σ H s) (rx : RelV x u) (ty : TyOf X.K H x t) (e : PySem.W.kitOne X.K t c = some b) (h : ∀ tk, Q (.bool b) { s with toks := tk }) :
  wpAny (model X.prog X.w) A (call (.builtin "isinstance") [u, c]) Q E s := by
 cases ty with
 | non => cases (show u = Value.none from rx); exact PySem.W.kia_one PySem.W.kitx_none I.kIn True.intro e (fun z => nomatch z) h
 | bl y => cases (show u = Value.bool y from rx); exact PySem.W.kia_one PySem.W.kitx_bool I.kIn True.intro e (fun z => nomatch z) h
 | int i => obtain ⟨t, q⟩ := (show ∃ t, u = Value.int i t from rx); cases q; exact PySem.W.kia_one PySem.W.kitx_int I.kIn True.intro e (fun z => nomatch z) h
 | str y => obtain ⟨t, q⟩ := (show ∃ t, u = Value.str y t from rx); cases q; exact PySem.W.kia_one PySem.W.kitx_str I.kIn True.intro e (fun z => nomatch z) h
 | flt y => obtain ⟨t, q⟩ := (show ∃ t, u = Value.float y t from rx); cases q; exact PySem.W.kia_one PySem.W.kitx_float I.kIn True.intro e (fun z => nomatch z) h
 | @lst a xs ea =>
  cases (show u = Value.ref a from rx)
  obtain ⟨_, _, n, _, h1⟩ := (show ObjOk X.prog X.w H s.heap a (.lst xs) from I.hok a _ ea)
  exact PySem.W.kia_one PySem.W.kitx_list I.kIn ⟨_, h1, rfl⟩ e (fun z => nomatch z) h
 | @frz a ob xs ea =>
  cases (show u = Value.ref a from rx)
  obtain ⟨_, _, _, n, _, h1⟩ := (show ObjOk X.prog X.w H s.heap a (.frz ob (.lst xs)) from I.hok a _ ea)
  exact PySem.W.kia_one PySem.W.kitx_list I.kIn ⟨_, h1, rfl⟩ e (fun z => nomatch z) h
 | @tup a xs ea =>
  cases (show u = Value.ref a from rx)
  obtain ⟨_, _, _, p⟩ := (show ObjOk X.prog X.w H s.heap a (.tup xs) from I.hok a _ ea)
  obtain ⟨o, h1, h2, _⟩ := p
  exact PySem.W.kia_one PySem.W.kitx_tuple I.kIn ⟨o, h1, h2⟩ e (fun z => nomatch z) h
 | @dK a kvs ea =>
  cases (show u = Value.ref a from rx)
  obtain ⟨_, _, vs, _, p⟩ := (show ObjOk X.prog X.w H s.heap a (.dK kvs) from I.hok a _ ea)
  obtain ⟨o, es, ep, h1, h2, _⟩ := p
  exact PySem.W.kia_one PySem.W.kitx_dict I.kIn ⟨o, h1, h2.1⟩ e (fun z => nomatch z) h
 | @dT a kvs ea =>
  cases (show u = Value.ref a from rx)
  obtain ⟨_, _, xs, _, o, es, ep, h1, h2, _⟩ := (show ObjOk X.prog X.w H s.heap a (.dT kvs) from I.hok a _ ea)
  exact PySem.W.kia_one PySem.W.kitx_dict I.kIn ⟨o, h1, h2.1⟩ e (fun z => nomatch z) h
 | @ins a C dx fs ea cl ha hn htk hm =>
  cases (show u = Value.ref a from rx)
  obtain ⟨mA, O, _⟩ := ins_get I.hok ea
  obtain ⟨od, J, _⟩ := O.look
  exact PySem.W.kia_one (PySem.W.kitx_own (cl.get _) cl.hd ha hn htk hm) I.kIn J e (fun z => nomatch z) h
end
end L2
namespace L2
open PySem PySem.Spec PyProof.Rows
structure Room (k : Nat) (A : Around) : Prop where
 hd : A.handled = none
 dp : A.depth + 3 * k + 5 < recursionLimit
 un : A.units + 16 * k + 200 < cLine
theorem Room.mono {j k : Nat} {A : Around} (r : Room k A) (h : j ≤ k) : Room j A := ⟨r.hd, by have := r.dp; omega, by have := r.un; omega⟩
theorem Room.deeper {k : Nat} {A : Around} (r : Room (k + 1) A) (env : Env) : Room k (A.deeper env) :=
 ⟨r.hd, by have := r.dp; show A.depth + 1 + 3 * k + 5 < _; omega, by have := r.un; show A.units + 3 + 16 * k + 200 < _; omega⟩
theorem Room.in1 {k : Nat} {A : Around} (r : Room (k + 1) A) : Room k A.in1 :=
 ⟨r.hd, by have := r.dp; show A.depth + 3 * k + 5 < _; omega, by have := r.un; show A.units + 1 + 16 * k + 200 < _; omega⟩
theorem make_depth {A : Around} {C : Addr} {us : List Value} {kw : List (Str × Value)} : (A.under (.builtin "type.__call__" ⟨.ref C :: us, kw⟩)).depth = A.depth + 1 := by
 first | rfl | simp [Around.under, Code.weight, Code.isCreation, Code.isGuard, Code.isCaller, Code.frames, Code.isFrame, guardIds]
theorem make_units {A : Around} {C : Addr} {us : List Value} {kw : List (Str × Value)} : (A.under (.builtin "type.__call__" ⟨.ref C :: us, kw⟩)).units = A.units + 1 := by
 first | rfl | simp [Around.under, Code.cUnits, Code.frames, Code.isFrame]
theorem Room.make {k : Nat} {A : Around} (r : Room (k + 1) A) (C : Addr) (us : List Value) (kw : List (Str × Value)) : Room k (A.under (.builtin "type.__call__" ⟨.ref C :: us, kw⟩)) :=
 ⟨r.hd, by have := r.dp; rw [make_depth]; omega, by have := r.un; rw [make_units]; omega⟩
theorem Room.depth {k : Nat} {A : Around} (r : Room k A) : A.depth < recursionLimit := by have := r.dp; omega
theorem Room.units {k : Nat} {A : Around} (r : Room k A) : A.units + 64 < cLine := by have := r.un; omega
theorem Room.units0 {k : Nat} {A : Around} (r : Room k A) : A.units < cLine := by have := r.un; omega
def tNil : TA := fun _ H Q => Q [] H
def tCons (ta : TE) (tr : TA) : TA := fun σ H Q => ta σ H fun x H1 => tr σ H1 fun xs H2 => Q (x :: xs) H2
section
variable {X : Cx} {e : Expr} {es : List Expr} {te : TE} {t : TA} {pos : Pos}
theorem pa_nil : PA X [] tNil := .mk fun _ _ _ _ H Q I h => Calls.spliced_nil ⟨[], H, I, .nil, h⟩
theorem pa_cons (ha : PE X e te) (hr : PA X es t) (hs : starEach (e :: es) X.env = (false, eval e X.env) :: starEach es X.env := by rfl) : PA X (e :: es) (tCons te t) := by
 refine .mk ?_
 intro pos pins s σ H Q I h
 rw [hs]
 show wpAny _ _ (spliced ((false, eval e X.env) :: backTo pos (starEach es X.env))) _ _ s
 refine Calls.spliced_cons (thn (ha pins s σ H _ I h) fun u s1 ⟨x, H1, I1, r1, q1⟩ => ?_)
 exact thn (hr pos pins s1 σ H1 _ I1 q1) fun us s2 ⟨xs, H2, I2, r2, q2⟩ => ⟨x :: xs, H2, I2, .cons r1 r2, q2⟩
def tTup (t : TA) : TE := fun σ H Q => t σ H fun xs H1 => xs.length ≤ sizeLine ∧ ∀ p, H1 p = none → Q (.ref p) (upd H1 p (.tup xs))
def tLst (t : TA) : TE := fun σ H Q => t σ H fun xs H1 => xs.length ≤ sizeLine ∧ ∀ p, H1 p = none → Q (.ref p) (upd H1 p (.lst xs))
theorem pe_tup {x1} (h : PA X es t) : PE X (.Tuple es x1 pos) (tTup t) := by
 refine .mk ?_
 intro pins s σ H Q I hq
 refine wpAny_Tuple_spliced (thn (h pos pins s σ H _ I hq) fun us s1 ⟨xs, H1, I1, r, z, q⟩ => ⟨by rw [← r.length]; exact z, ?_⟩)
 have hf : H1 s1.heap.objs.size = none := I1.hok.fresh (Nat.le_refl _)
 refine ⟨.ref s1.heap.objs.size, upd H1 s1.heap.objs.size (.tup xs), I1.laid (t' := s1.toks) (fun b u e => Heap.get?_push_of_some _ e) (Nat.le_refl _) ?_, rfl, q _ hf⟩
 exact ⟨z, us, r, ⟨_, Heap.get?_push_size _ rfl, rfl, _, rfl⟩⟩
theorem pe_lst (h : PA X es t) : PE X (.List es pos) (tLst t) := by
 refine .mk ?_
 intro pins s σ H Q I hq
 refine wpAny_List_spliced (thn (h pos pins s σ H _ I hq) fun us s1 ⟨xs, H1, I1, r, z, q⟩ => ⟨by rw [← r.length]; exact z, ?_⟩)
 have hf : H1 s1.heap.objs.size = none := I1.hok.fresh (Nat.le_refl _)
 refine ⟨.ref s1.heap.objs.size, upd H1 s1.heap.objs.size (.lst xs), I1.laid (t' := s1.toks) (fun b u e => Heap.get?_push_of_some _ e) (Nat.le_refl _) ?_, rfl, q _ hf⟩
 exact ⟨z, us, 0, r, Heap.get?_push_size _ rfl⟩
end
abbrev Sp := List V → Hp → VK → XK → Prop
abbrev CXT := List Env → Hp → Shared → XK → Value → Shared → Prop
structure Env0 (P : Program) (w : World) (K : PySem.W.Frag) (mg : Str → Option Value) (base : Heap) (A : Around) (outer : List Env) (s : Shared) (H : Hp) : Prop where
 frames : A.frames = some outer
 mod : Mod K mg base
 bs : ∀ b o, base.get? b = some o → s.heap.get? b = some o ∧ H b = none
 bsz : base.objs.size ≤ s.heap.objs.size
 funs : s.heap.FunFrames base outer
 frf : ∀ b ∈ frs outer, H b = none
 hok : HOk P w H s.heap
 bare : AllBare s.gens
def CE (outer : List Env) (P : Program) (w : World) (H : Hp) (s : Shared) (Q : VK) (u : Value) (s' : Shared) : Prop :=
 ∃ v H', s'.os = s.os ∧ AllBare s'.gens ∧ Un (frs outer) [] H H' s.heap s'.heap ∧ HOk P w H' s'.heap ∧ RelV v u ∧ Q v H'
def CR (CX : CXT) (outer : List Env) (P : Program) (w : World) (H : Hp) (s : Shared) (Q : VK) (E : XK) (r : Result) (s' : Shared) : Prop :=
 match r with
 | .ok (.ret u) => CE outer P w H s Q u s'
 | .ok _ => False
 | .error e => CX outer H s E e s'
structure FnOk (P : Program) (w : World) (K : PySem.W.Frag) (mg : Str → Option Value) (base : Heap) (CX : CXT) (k : Nat) (f : Addr) (fd : FuncData) (ps : List Str) (sp : Sp) : Prop where
 len : ∀ vs H Q E, sp vs H Q E → vs.length = ps.length
 run : ∀ (A : Around) (outer : List Env) (s : Shared) (H : Hp) (args : Args) (us : List Value) (vs : List V) (Q : VK) (E : XK), Room k A → Env0 P w K mg base A outer s H → BindsTo s fd args (ps.zip us) → Vals vs us → sp vs H Q E →
  codeAny (model P w) A (.call (.ref f) args) (CR CX outer P w H s Q E) s
theorem FnOk.mono {P : Program} {w : World} {K : PySem.W.Frag} {mg : Str → Option Value} {base : Heap} {CX : CXT} {j k : Nat} {f : Addr} {fd : FuncData} {ps : List Str} {sp : Sp} (F : FnOk P w K mg base CX j f fd ps sp) (h : j ≤ k) :
  FnOk P w K mg base CX k f fd ps sp := ⟨F.len, fun A outer s H args us vs Q E hr => F.run A outer s H args us vs Q E (hr.mono h)⟩
theorem FnOk.imp {P : Program} {w : World} {K : PySem.W.Frag} {mg : Str → Option Value} {base : Heap} {CX : CXT} {k : Nat} {f : Addr} {fd : FuncData} {ps : List Str} {sp sp' : Sp} (F : FnOk P w K mg base CX k f fd ps sp)
  (h : ∀ vs H Q E, sp' vs H Q E → sp vs H Q E) : FnOk P w K mg base CX k f fd ps sp' :=
 ⟨fun vs H Q E q => F.len vs H Q E (h _ _ _ _ q), fun A outer s H args us vs Q E hr he hb hv hs => F.run A outer s H args us vs Q E hr he hb hv (h _ _ _ _ hs)⟩
theorem Env0.make {P : Program} {w : World} {K : PySem.W.Frag} {mg : Str → Option Value} {base : Heap} {A : Around} {outer : List Env} {s : Shared} {H : Hp} (e : Env0 P w K mg base A outer s H) (C : Addr) (us : List Value) (kw : List (Str × Value)) :
  Env0 P w K mg base (A.under (.builtin "type.__call__" ⟨.ref C :: us, kw⟩)) outer s H := ⟨by first | exact e.frames | (simpa [Around.under, Code.envs, Code.isFrame, pushEnvs] using e.frames), e.mod, e.bs, e.bsz, e.funs, e.frf, e.hok, e.bare⟩
theorem Env0.in1 {P : Program} {w : World} {K : PySem.W.Frag} {mg : Str → Option Value} {base : Heap} {A : Around} {outer : List Env} {s : Shared} {H : Hp} (e : Env0 P w K mg base A outer s H) :
  Env0 P w K mg base A.in1 outer s H := ⟨e.frames, e.mod, e.bs, e.bsz, e.funs, e.frf, e.hok, e.bare⟩
section
variable {X : Cx} {pins : List (Addr × Obj)} {σ : St} {H : Hp} {s s' : Shared}
theorem Inv.env0 (I : Inv X pins σ H s) : Env0 X.prog X.w X.K X.mg X.base X.A X.stack s H :=
 ⟨I.ok.frames, I.ok.mod, I.bs, Nat.le_trans I.ok.bsz I.sz, I.stack, I.stkFree, I.hok, I.bare⟩
theorem Inv.after {Q : VK} {u : Value} (I : Inv X pins σ H s) (h : CE X.stack X.prog X.w H s Q u s') : EP X pins σ Q u s' := by
 obtain ⟨v, H', os, bare, un, hok, r, q⟩ := h
 obtain ⟨hh, g, d, t, os'⟩ := s'
 obtain rfl : os' = s.os := os
 exact ⟨v, H', I.call (h' := hh) (g' := g) (d' := d) (t' := t) (ch := []) un hok bare (fun b z => absurd z (by simp)), r, q⟩
end
def tCall (sp : Sp) (dvs : List V) (E : XK) (t : TA) : TE := fun σ H Q => t σ H fun vs H1 => sp (vs ++ dvs) H1 Q E
def Binds (K : PySem.W.Frag) (fd : FuncData) (ps : List Str) (ds : List Value) : Prop :=
 ∀ (s : Shared) (us : List Value), K.In s.heap → (us ++ ds).length = ps.length → BindsTo s fd ⟨us, []⟩ (ps.zip (us ++ ds))
theorem Binds.all {K : PySem.W.Frag} {fd : FuncData} {ps : List Str} (h : ∀ us : List Value, us.length = ps.length → bindArgs fd ⟨us, []⟩ = pure (ps.zip us)) : Binds K fd ps [] := fun s us _ hl => by
 rw [List.append_nil] at hl ⊢
 exact .of_eq (h us hl)
def Passes (CX : CXT) (X : Cx) (E : XK) : Prop := ∀ (pins : List (Addr × Obj)) (σ : St) (H : Hp) (s : Shared) (e : Value) (s' : Shared), Inv X pins σ H s → CX X.stack H s E e s' → X.xe e s'
section
variable {X : Cx} {CX : CXT} {k : Nat} {f C : Addr} {fd : FuncData} {ps : List Str} {sp : Sp} {dvs : List V} {ds : List Value} {E : XK} {x m : Str} {p pos apos : Pos} {e o : Expr} {es : List Expr} {ta : TE} {t : TA}
theorem run_fn {pins : List (Addr × Obj)} {σ : St} {H : Hp} {s : Shared} {Q : VK} {us : List Value} {vs : List V} (F : FnOk X.prog X.w X.K X.mg X.base CX k f fd ps sp) (hr : Room k X.A) (hb : Binds X.K fd ps ds) (hd : Vals dvs ds) (hx : Passes CX X E)
  (I : Inv X pins σ H s) (r : Vals vs us) (h : sp (vs ++ dvs) H Q E) : wpAny (model X.prog X.w) X.A (call (.ref f) us) (EP X pins σ Q) X.xe s := by
 have r2 : Vals (vs ++ dvs) (us ++ ds) := r.append hd
 have hl : (us ++ ds).length = ps.length := by rw [← r2.length]; exact F.len _ _ _ _ h
 refine wpAny_call (codeAny_mono (F.run X.A X.stack s H ⟨us, []⟩ (us ++ ds) (vs ++ dvs) Q E hr I.env0 (hb s us I.kIn hl) r2 h) fun r s' hq => ?_)
 cases r with
 | error e => exact hx pins σ H s e s' I hq
 | ok fl =>
  cases fl with
  | ret u => exact I.after hq
  | next => exact False.elim hq
  | brk => exact False.elim hq
  | cont => exact False.elim hq
theorem pe_call (F : FnOk X.prog X.w X.K X.mg X.base CX k f fd ps sp) (hr : Room k X.A) (hg : Gl X x) (hm : X.mg x = some (.ref f)) (hk : PySem.W.keepIn X.K (.ref f) = true) (hb : Binds X.K fd ps ds) (hd : Vals dvs ds) (hx : Passes CX X E)
  (ha : PA X (e :: es) t) (hdb : (x == ("__debug__" : Str)) = false := by decide) (he : starEach (e :: es) X.env = (false, eval e X.env) :: starEach es X.env := by rfl) (hpl : (backTo pos (starEach es X.env)).any (·.1) = false := by rfl) :
  PE X (.Call (.Name x p) (e :: es) [] pos) (tCall sp dvs E t) := by
 refine .mk ?_
 intro pins s σ H Q I h
 refine wpAny_Call_Name_kw (ld_glob I hg hm ?_ hdb)
 refine PySem.W.callWith_K (h₀ := X.base) I.ok.mod.kin hk (thn (ha pos pins s σ H _ I h) fun us s1 ⟨vs, H1, I1, r, q⟩ => ⟨I1.kIn, ?_⟩) he hpl
 exact run_fn F hr hb hd hx I1 r q
end
structure PK (X : Cx) (kws : List Keyword) (t : TA) : Prop where
 run : ∀ (pos : Pos) (pins : List (Addr × Obj)) (s : Shared) (σ : St) (H : Hp) (Q : List V → Hp → Prop), Inv X pins σ H s → t σ H Q → wpAny (model X.prog X.w) X.A (evalAll ((backToKw pos (keywordEach kws X.env)).map (·.2))) (AP X pins σ Q) X.xe s
instance {X : Cx} {kws : List Keyword} {t : TA} : CoeFun (PK X kws t) fun _ => ∀ (pos : Pos) (pins : List (Addr × Obj)) (s : Shared) (σ : St) (H : Hp) (Q : List V → Hp → Prop), Inv X pins σ H s → t σ H Q → wpAny (model X.prog X.w) X.A (evalAll ((backToKw pos (keywordEach kws X.env)).map (·.2))) (AP X pins σ Q) X.xe s := ⟨PK.run⟩
section
variable {X : Cx} {CX : CXT} {k : Nat} {f C : Addr} {fd : FuncData} {ps ks : List Str} {sp : Sp} {E : XK} {x m : Str} {p pos apos kpos : Pos} {e o : Expr} {es : List Expr} {kws : List Keyword} {te ta : TE} {t tk : TA} {nm : Option Str}
variable {g : List Value → List Value → List Value} {gV : List V → List V → List V}
end
structure FnScope (N P : List Str) (sc : Scope) : Prop where
 kind : sc.kind = .function
 co : sc.isCoroutine = false
 gen : sc.isGenerator = false
 nd : N.Nodup
 pre : N.take P.length = P
 par : ∀ x ∈ P, sc.names.lookup x = some .local ∨ sc.names.lookup x = some .cell
 nofree : ∀ y ∈ sc.names, y.2 ≠ .free
theorem bindL_out {kindOf : Str → Option NameKind} {x : Str} : ∀ {binds : List (Str × Value)} {m : Str → Option Value}, (∀ v, (x, v) ∉ binds) → bindL kindOf binds m x = m x
 | [], _, _ => rfl
 | (n, v) :: r, m, h => by
  unfold bindL
  rw [bindL_out fun w hw => h w (List.mem_cons_of_mem _ hw)]
  split
  ·have : x ≠ n := by rintro rfl; exact h v List.mem_cons_self
   simp [this]
  ·rfl
theorem bindC_out {kindOf : Str → Option NameKind} {x : Str} : ∀ {binds : List (Str × Value)} {m : Str → Option Value}, (∀ v, (x, v) ∉ binds) → bindC kindOf binds m x = m x
 | [], _, _ => rfl
 | (n, v) :: r, m, h => by
  unfold bindC
  rw [bindC_out fun w hw => h w (List.mem_cons_of_mem _ hw)]
  split
  ·rfl
  ·have : x ≠ n := by rintro rfl; exact h v List.mem_cons_self
   simp [this]
theorem bindL_get {kindOf : Str → Option NameKind} {x : Str} {v : Value} : ∀ {P : List Str} {vs : List Value} {i : Nat} {m : Str → Option Value}, P.Nodup → P[i]? = some x → vs[i]? = some v → kindOf x = some .local →
  bindL kindOf (P.zip vs) m x = some v
 | [], _, _, _, _, h, _, _ => by simp at h
 | _ :: _, [], _, _, _, _, h, _ => by simp at h
 | p :: P, w :: vs, 0, m, nd, h1, h2, hk => by
  simp at h1 h2; subst h1; subst h2
  show bindL kindOf ((p, w) :: P.zip vs) m p = _
  unfold bindL
  rw [bindL_out fun v hv => (List.nodup_cons.mp nd).1 (List.of_mem_zip hv).1, if_pos hk]
  simp
 | p :: P, w :: vs, i + 1, m, nd, h1, h2, hk => by
  show bindL kindOf ((p, w) :: P.zip vs) m x = _
  unfold bindL
  exact bindL_get (i := i) (List.nodup_cons.mp nd).2 (by simpa using h1) (by simpa using h2) hk
theorem bindC_get {kindOf : Str → Option NameKind} {x : Str} {v : Value} : ∀ {P : List Str} {vs : List Value} {i : Nat} {m : Str → Option Value}, P.Nodup → P[i]? = some x → vs[i]? = some v → kindOf x ≠ some .local →
  bindC kindOf (P.zip vs) m x = some v
 | [], _, _, _, _, h, _, _ => by simp at h
 | _ :: _, [], _, _, _, _, h, _ => by simp at h
 | p :: P, w :: vs, 0, m, nd, h1, h2, hk => by
  simp at h1 h2; subst h1; subst h2
  show bindC kindOf ((p, w) :: P.zip vs) m p = _
  unfold bindC
  rw [bindC_out fun v hv => (List.nodup_cons.mp nd).1 (List.of_mem_zip hv).1, if_neg hk]
  simp
 | p :: P, w :: vs, i + 1, m, nd, h1, h2, hk => by
  show bindC kindOf ((p, w) :: P.zip vs) m x = _
  unfold bindC
  exact bindC_get (i := i) (List.nodup_cons.mp nd).2 (by simpa using h1) (by simpa using h2) hk
def start (N : List Str) (vs : List V) : St := vs.map some ++ List.replicate (N.length - vs.length) none
def cxOf (CX : CXT) (P : Program) (w : World) (K : PySem.W.Frag) (mg : Str → Option Value) (base : Heap) (N : List Str) (qual : Str) (scope : Scope) (f : Addr) (cd : Value) (A : Around) (outer : List Env) (s : Shared) (H : Hp) (E : XK) : Cx where
 prog := P
 w := w
 K := K
 mg := mg
 base := base
 A := A.deeper (envOfC qual scope s.heap.objs.size f cd)
 N := N
 s₀ := s
 H₀ := H
 env := envOfC qual scope s.heap.objs.size f cd
 outer := outer
 stack := envOfC qual scope s.heap.objs.size f cd :: outer
 ex := []
 calm := true
 fn := fun _ => true
 pn := []
 xe := fun e s' => wpAny (model P w) (A.deeper (envOfC qual scope s.heap.objs.size f cd)) (leaving (envOfC qual scope s.heap.objs.size f cd) e) (fun _ s'' => CX outer H s E e s'') (fun e' s'' => CX outer H s E e' s'') s'
theorem cell_has {sc : Scope} {n : Nat} {x : Str} (h : sc.names.lookup x = some .cell) : ∃ c, (cellsFrom n sc.names []).lookup x = some c := by
 have q := PySem.W.cellsFrom_some sc.names n [] (.inl h)
 exact Option.isSome_iff_exists.mp q
theorem inv_start {CX : CXT} {P : Program} {w : World} {K : PySem.W.Frag} {mg : Str → Option Value} {base : Heap} {N ps : List Str} {qual : Str} {scope : Scope} {f : Addr} {cd : Value} {A : Around} {outer : List Env} {s s1 : Shared} {H : Hp} {E : XK} {us : List Value} {vs : List V}
  (S : FnScope N ps scope) (hd : A.handled = none) (e0 : Env0 P w K mg base A outer s H) (hl : vs.length = ps.length) (r : Vals vs us)
  (x : InCallC s s.heap.objs.size (bindL (envOfC qual scope s.heap.objs.size f cd).kindOf (ps.zip us) fun _ => none) (cellsFrom (s.heap.objs.size + 1) scope.names []) (bindC (envOfC qual scope s.heap.objs.size f cd).kindOf (ps.zip us) fun _ => none) s1) :
  Inv (cxOf CX P w K mg base N qual scope f cd A outer s H E) [] (start N vs) H s1 := by
 have hpl : ps.length ≤ N.length := by have := congrArg List.length S.pre; rw [List.length_take] at this; omega
 obtain ⟨h1, tk, rfl, hk⟩ := x.done
 have noA : ∀ b : Addr, b ∉ (cxOf CX P w K mg base N qual scope f cd A outer s H E).ex := fun b z => absurd (show b ∈ ([] : List Addr) from z) (by simp)
 refine ⟨⟨e0.mod, S.kind, rfl, rfl, Nat.le_refl _, fun y z c h1 h2 => ?_, fun y hy => ?_, fun y c _ h => ?_, fun _ => hd, Around.frames_deeper e0.frames, .inr ⟨rfl, rfl⟩, fun b z => absurd z (noA b), e0.bs, e0.bsz, fun b _ _ => noA b, fun b z => absurd z (noA b), e0.funs, e0.frf⟩,
  rfl, e0.bare, Un.kept hk, ⟨_, x.toInCall.ns, fun i y v h1 h2 h3 => ?_⟩, fun y c h => ⟨_, x.cell y c h⟩, e0.hok.fresh (Nat.le_refl _), fun y c h => ?_, fun p hp => absurd (show p ∈ ([] : List (Addr × Obj)) from hp) (by simp), e0.hok.kept hk, ?_⟩
 ·exact name_of_addr x.apart (PySem.mem_of_lookup h1) (PySem.mem_of_lookup h2)
 ·have hy : scope.names.lookup y = some .cell ∨ scope.names.lookup y = some .free := hy
  rcases hy with hy | hy
  ·exact cell_has hy
  ·exact absurd rfl (S.nofree _ (PySem.mem_of_lookup hy))
 ·exact Nat.le_of_lt (x.above y c (PySem.mem_of_lookup h))
 ·have hi : i < vs.length := by
   unfold start at h2
   by_cases hi : i < vs.length
   ·exact hi
   ·rw [List.getElem?_append_right (by simpa using hi)] at h2
    rw [List.getElem?_replicate] at h2
    split at h2 <;> cases h2
  have ha : vs[i]? = some v := by
   unfold start at h2
   rw [List.getElem?_append_left (by simpa using hi), List.getElem?_map] at h2
   cases e : vs[i]? with
   | none => rw [e] at h2; cases h2
   | some a => rw [e] at h2; cases h2; rfl
  obtain ⟨u, hu, rv⟩ := r.get ha
  have hp : ps[i]? = some y := by
   rw [← S.pre, List.getElem?_take_of_lt (by omega)]; exact h1
  have ndP : ps.Nodup := by rw [← S.pre]; exact S.nd.sublist (List.take_sublist _ _)
  refine ⟨u, rv, ?_⟩
  rcases S.par y (List.mem_of_getElem? hp) with k | k
  ·exact .inl ⟨k, bindL_get ndP hp hu k⟩
  ·obtain ⟨c, e⟩ := cell_has (n := s.heap.objs.size + 1) k
   refine .inr ⟨.inl k, c, e, ?_⟩
   have q := x.cell y c e
   rw [bindC_get ndP hp hu (by show scope.names.lookup y ≠ _; rw [k]; decide)] at q
   exact q
 ·exact e0.hok.fresh (Nat.le_of_lt (x.above y c (PySem.mem_of_lookup h)))
 ·unfold start
  show _ = N.length
  rw [List.length_append, List.length_map, List.length_replicate]
  omega
theorem fn_of {CX : CXT} {P : Program} {w : World} {K : PySem.W.Frag} {mg : Str → Option Value} {base : Heap} {k : Nat} {f : Addr} {name qual : Str} {params : Arguments} {body : List Stmt} {scope : Scope} {dV kV doc pm cdv ct oc : Value} {an od : Option Addr}
  {osl : Array (Option Value)} {N ps : List Str} {sp : Sp} (lk : K.lookup f = some ⟨oc, od, .func (PySem.W.fnOf name qual params body scope dV kV doc pm an cdv ct), osl⟩) (hcd : PySem.W.codeIn K cdv qual = true) (S : FnScope N ps scope)
  (len : ∀ vs H Q E, sp vs H Q E → vs.length = ps.length)
  (hbody : ∀ (A : Around) (outer : List Env) (s : Shared) (H : Hp) (vs : List V) (Q : VK) (E : XK), Room k (A.deeper (envOfC qual scope s.heap.objs.size f cdv)) → sp vs H Q E →
   ∃ t, PSs (cxOf CX P w K mg base N qual scope f cdv A outer s H E) body t ∧ t { nx := fun _ H' => Q .non H', rt := Q } (start N vs) H) :
  FnOk P w K mg base CX (k + 1) f (PySem.W.fnOf name qual params body scope dV kV doc pm an cdv ct) ps sp := by
 refine ⟨len, fun A outer s H args us vs Q E hr e0 hb r hsp => ?_⟩
 have hl := len _ _ _ _ hsp
 have KX : K.In s.heap := e0.mod.kin.keeps fun b o e => (e0.bs b o e).1
 have lim : s.heap.NoLimit := e0.mod.nolimit.keeps fun b o e => (e0.bs b o e).1
 have hkind : ∀ y ∈ ps.zip us, scope.names.lookup y.1 = some .local ∨ (scope.names.lookup y.1 = some .cell ∧ ((cellsFrom (s.heap.objs.size + 1) scope.names []).lookup y.1).isSome = true) := fun ⟨n, v⟩ hy => by
  rcases S.par n (List.of_mem_zip hy).1 with q | q
  ·exact .inl q
  ·exact .inr ⟨q, PySem.W.cellsFrom_some _ _ _ (.inl q)⟩
 refine codeAny_call_function hr.depth (KX _ _ lk) rfl S.co S.gen rfl (PySem.W.codeRec_of KX hcd) (hb _ _ _ _ ?_)
 refine wpAny_newFunctionEnv_cells S.kind hkind fun env he s1 x => ?_
 subst he
 refine ⟨lim.keeps x.toInCall.keep, codeAny_func ?_⟩
 obtain ⟨t, ht, hq⟩ := hbody A outer s H vs Q E (hr.deeper _) hsp
 have I : Inv (cxOf CX P w K mg base N qual scope f cdv A outer s H E) [] (start N vs) H s1 := inv_start S hr.hd e0 hl r x
 refine wpAny_mono (ht [] s1 (start N vs) H _ I hq) (fun fl s' hs => ?_) fun e s' hs => hs
 have fin : ∀ {σ' : St} {H' : Hp} {v : V} {u : Value}, Inv (cxOf CX P w K mg base N qual scope f cdv A outer s H E) [] σ' H' s' → RelV v u → Q v H' → CE outer P w H s Q u s' :=
  fun {σ' H' v u} J rv q => ⟨v, H', J.os, J.bare, J.base, J.hok, rv, q⟩
 cases fl with
 | ret u =>
  obtain ⟨v, σ', H', J, rv, q⟩ := hs
  exact fin J rv q
 | next =>
  obtain ⟨σ', H', J, q⟩ := hs
  exact fin (v := V.non) (u := Value.none) J rfl q
 | brk =>
  obtain ⟨_, _, _, q⟩ := hs
  exact False.elim q
 | cont =>
  obtain ⟨_, _, _, q⟩ := hs
  exact False.elim q
end L2
namespace L2
open PySem PySem.Spec PyProof.Rows
section
variable {X : Cx} {x : Str} {p pos : Pos} {e : Expr} {es : List Expr} {t : TA} {id T : String} {r : List V → Hp → VK → Prop}
def tCB (r : List V → Hp → VK → Prop) (t : TA) : TE := fun σ H Q => t σ H fun vs H1 => r vs H1 Q
theorem pe_callB (hc : CallR X (.builtin id) r) (hg : Gl X x) (hm : X.mg x = none) (hv : bootBuiltins x = some (.builtin id)) (ha : PA X (e :: es) t) (hn : x ≠ "__name__" := by decide) (hdb : (x == ("__debug__" : Str)) = false := by decide)
  (he : starEach (e :: es) X.env = (false, eval e X.env) :: starEach es X.env := by rfl) (hpl : (backTo pos (starEach es X.env)).any (·.1) = false := by rfl) : PE X (.Call (.Name x p) (e :: es) [] pos) (tCB r t) := by
 refine .mk ?_
 intro pins s σ H Q I h
 refine wpAny_Call_Name_kw (ld_blt I hg hm hv ?_ hn hdb)
 exact PyProof.Rows.callWith_builtin1 (thn (ha pos pins s σ H _ I h) fun us s1 ⟨vs, H1, I1, r1, q1⟩ => hc pins s1 σ H1 vs us Q I1 r1 q1) he hpl
theorem pe_callTy (hc : CallR X (.type T) r) (hg : Gl X x) (hm : X.mg x = none) (hv : bootBuiltins x = some (.type T)) (ha : PA X (e :: es) t) (hn : x ≠ "__name__" := by decide) (hdb : (x == ("__debug__" : Str)) = false := by decide)
  (he : starEach (e :: es) X.env = (false, eval e X.env) :: starEach es X.env := by rfl) (hpl : (backTo pos (starEach es X.env)).any (·.1) = false := by rfl) : PE X (.Call (.Name x p) (e :: es) [] pos) (tCB r t) := by
 refine .mk ?_
 intro pins s σ H Q I h
 refine wpAny_Call_Name_kw (ld_blt I hg hm hv ?_ hn hdb)
 exact PyProof.Rows.callWith_type1 (thn (ha pos pins s σ H _ I h) fun us s1 ⟨vs, H1, I1, r1, q1⟩ => hc pins s1 σ H1 vs us Q I1 r1 q1) he hpl
end
end L2
namespace HT
open PySem PyProof.Rows
section
open PySem.SeqAt
open PySem.AutoSeq1 (wpAny_loadPart')
open PySem.MeetsSeq PySem.MeetsSeq2 PySem.MeetsSeq3
end
section
variable {prog : Program} {w : World} {A : Around} {E : Value → Shared → Prop} {s : Shared}
theorem cat_tup {t b : Addr} {vs ws : List Value} {Q : Value → Shared → Prop} (ht : IsTup s.heap t vs.toArray) (hb : IsTup s.heap b ws.toArray) (hv : vs ≠ [])
  (h1 : ws = [] → Q (.ref t) s) (h2 : ws ≠ [] → Q (.ref s.heap.objs.size) { s with heap := s.heap.push { cls := .type "tuple", data := .seq (vs ++ ws).toArray } })
  (hsz : vs.length + ws.length ≤ sizeLine) : wpAny (model prog w) A (binaryOp .Add (.ref t) (.ref b)) Q E s := by
 obtain ⟨⟨cls, dd, data, sl⟩, ho, hc, n, hd⟩ := id ht
 obtain ⟨⟨cls2, dd2, data2, sl2⟩, ho2, hc2, n2, hd2⟩ := id hb
 simp only at hc hd hc2 hd2
 subst hc hd hc2 hd2
 have e : vs.toArray ++ ws.toArray = (vs ++ ws).toArray := by simp
 by_cases hw : ws = []
 ·exact concat_meets ⟨_, ho, rfl⟩ ⟨_, ho2, rfl⟩ noFill_tuple_add seq_tuple_add PySem.F.slot_tuple_add PySem.F.entry_tuple_add (PySem.F.args_tuple_add_2 _ _)
   (tuple_addW1 t b vs.toArray ws.toArray n n2 dd dd2 sl sl2 (by simpa using hv) (by simp [hw])) ⟨ho, ho2, h1 hw⟩
 ·refine concat_meets ⟨_, ho, rfl⟩ ⟨_, ho2, rfl⟩ noFill_tuple_add seq_tuple_add PySem.F.slot_tuple_add PySem.F.entry_tuple_add (PySem.F.args_tuple_add_2 _ _)
   (tuple_addW2 t b vs.toArray ws.toArray n n2 dd dd2 sl sl2 (by simpa using hv) (by simpa using hw) (by rw [List.size_toArray, List.size_toArray]; exact hsz)) ⟨ho, ho2, ?_⟩
  rw [e]
  exact h2 hw
def sIx (n d : Nat) : Option Int → Nat
 | none => d
 | some v => if v < 0 then (v + (n : Int)).toNat else min v.toNat n
theorem sIx_none (n d : Nat) : sIx n d none = d := rfl
theorem sIx_le (n d : Nat) (hd : d ≤ n) (o : Option Int) : sIx n d o ≤ n := by
 cases o with
 | none => exact hd
 | some v =>
  show (if v < 0 then (v + (n : Int)).toNat else min v.toNat n) ≤ n
  by_cases hv : v < 0
  ·rw [if_pos hv]; omega
  ·rw [if_neg hv]; exact Nat.min_le_right _ _
theorem clip_eq (v : Int) (n d : Nat) : (if v < 0 then max (v + (n : Int)) 0 else min v (n : Int)) = ((sIx n d (some v) : Nat) : Int) := by
 show (if v < 0 then max (v + (n : Int)) 0 else min v (n : Int)) = (((if v < 0 then (v + (n : Int)).toNat else min v.toNat n) : Nat) : Int)
 by_cases hv : v < 0
 ·simp only [if_pos hv]; omega
 ·simp only [if_neg hv]; omega
theorem adjust_gen (lo hi : Option Int) (n : Nat) : Builtin.Slice.sliceAdjust lo hi 1 (n : Int) = (((sIx n 0 lo : Nat) : Int), ((sIx n n hi : Nat) : Int)) := by
 have h1 : ¬ ((1 : Int) < 0) := by omega
 unfold Builtin.Slice.sliceAdjust
 simp only [h1, if_false]
 refine Prod.ext ?_ ?_
 ·cases lo with
  | none => rfl
  | some v => exact clip_eq v n 0
 ·cases hi with
  | none => rfl
  | some v => exact clip_eq v n n
theorem places_gen (i j : Nat) : Builtin.Slice.slicePlaces (i : Int) (j : Int) 1 = j - i := by
 unfold Builtin.Slice.slicePlaces
 have h1 : (1 : Int) > 0 := by omega
 simp only [h1, if_true, Int.ediv_one]
 split <;> omega
theorem slicePart_ {v : Value} {o : Option Int} {Q : Option Int → Shared → Prop} (p : IsPart v o) (h : Q o s) : wpAny (model prog w) A (Builtin.Slice.slicePartIndex v) Q E s := by
 cases p with
 | none => exact slicePart_none h
 | int i t => exact slicePart_int h
theorem sliceApplied_gen {sl : Addr} {vl vu : Value} {lo hi : Option Int} {n : Nat} {Q : Int × Int × Nat → Shared → Prop} (hs : s.heap.IsSliceOf sl vl vu .none) (pl : IsPart vl lo) (pu : IsPart vu hi)
  (h : Q (((sIx n 0 lo : Nat) : Int), 1, sIx n n hi - sIx n 0 lo) s) : wpAny (model prog w) A (Builtin.Slice.sliceApplied (.ref sl) (pure (n : Int))) Q E s := by
 obtain ⟨os, hos, hcs, hds⟩ := id hs
 unfold Builtin.Slice.sliceApplied Builtin.Slice.sliceFields
 refine wpAny_bind (wpAny_bind (wpAny_field hos hds (x := vl) rfl (wpAny_bind (wpAny_field hos hds (x := vu) rfl (wpAny_bind (wpAny_field hos hds (x := .none) rfl (wpAny_pure ?_)))))))
 refine wpAny_bind (slicePart_none ?_)
 show wpAny _ _ (if ((1 : Int) == 0) = true then _ else _) _ _ s
 rw [if_neg (by decide)]
 refine wpAny_bind (slicePart_ pl (wpAny_bind (slicePart_ pu (wpAny_bind (wpAny_pure ?_)))))
 show wpAny _ _ (match Builtin.Slice.sliceAdjust lo hi 1 (n : Int) with | (lo, hi) => pure (lo, (1 : Int), Builtin.Slice.slicePlaces lo hi 1)) _ _ s
 rw [adjust_gen lo hi n]
 show wpAny _ _ (pure (((sIx n 0 lo : Nat) : Int), (1 : Int), Builtin.Slice.slicePlaces ((sIx n 0 lo : Nat) : Int) ((sIx n n hi : Nat) : Int) 1)) _ _ s
 rw [places_gen]
 exact wpAny_pure h
theorem pick_gen (xs : Array Value) (i k : Nat) : ((List.range k).filterMap fun (m : Nat) => xs[((i : Int) + (m : Int) * 1).toNat]?).toArray = ((xs.toList.drop i).take k).toArray := by
 have e : (fun (m : Nat) => xs[((i : Int) + (m : Int) * 1).toNat]?) = fun m => xs[i + m]? := by
  funext m
  have : ((i : Int) + (m : Int) * 1).toNat = i + m := by omega
  rw [this]
 rw [e]
 have := pick_run xs i k
 rw [List.filterMap_map] at this
 have e2 : ((fun x => xs[x]?) ∘ fun x => i + x) = fun m => xs[i + m]? := rfl
 rw [e2] at this
 rw [this]
theorem getItem_tuple_cut {t sl : Addr} {items : Array Value} {vl vu : Value} {lo hi : Option Int} {Q : Value → Shared → Prop} (ht : IsTup s.heap t items) (hs : s.heap.IsSliceOf sl vl vu .none) (pl : IsPart vl lo) (pu : IsPart vu hi)
  (hw : ¬ (sIx items.size 0 lo = 0 ∧ sIx items.size items.size hi = items.size))
  (h : Q (.ref s.heap.objs.size) { s with heap := s.heap.push { cls := .type "tuple", data := .seq ((items.toList.drop (sIx items.size 0 lo)).take (sIx items.size items.size hi - sIx items.size 0 lo)).toArray } })
  (hsz : items.size ≤ sizeLine) : wpAny (model prog w) A (getItem (.ref t) (.ref sl)) Q E s := by
 have htake : sizeOk (.seq ((items.toList.drop (sIx items.size 0 lo)).take (sIx items.size items.size hi - sIx items.size 0 lo)).toArray) := by
  show ((items.toList.drop (sIx items.size 0 lo)).take (sIx items.size items.size hi - sIx items.size 0 lo)).toArray.size ≤ sizeLine
  rw [List.size_toArray, List.length_take, List.length_drop, Array.length_toList]
  omega
 have hj : sIx items.size items.size hi ≤ items.size := sIx_le _ _ (Nat.le_refl _) hi
 obtain ⟨os, hos, hcs, hds⟩ := id hs
 have hTs : s.TypeIs (.ref sl) "slice" := ⟨os, hos, hcs⟩
 unfold getItem
 try with_reducible refine wpAny_holding ?_
 first | refine wpAny_bind (wpAny_pure ?_) | skip
 refine wpAny_bind (wpAny_sequenceKey ht.typeIs (by decide) ?_)
 refine wpAny_bind (wpAny_callSpecial?_slot (name := Str.ofString "__getitem__") ht.typeIs PyProof.Rows.slot_tuple_getitem
  (wpAny_call_entry PyProof.Rows.slot_tuple_getitem ht.typeIs entry_tuple_getitem ?_ (args_tuple_getitem _ _)))
 show wpAny _ _ (Builtin.Tuple.tupleItemsOf (.ref t) >>= _) _ _ s
 refine wpAny_bind (tupleItemsOf_ ht ?_)
 refine wpAny_bind (wpAny_typeOf hTs ?_)
 rw [if_pos (by decide)]
 refine wpAny_bind (sliceApplied_gen hs pl pu ?_)
 have hno : ¬ ((((sIx items.size 0 lo : Nat) : Int) == 0 && (1 : Int) == 1 && (sIx items.size items.size hi - sIx items.size 0 lo) == items.size) = true) := by
  intro q
  rw [Bool.and_eq_true, Bool.and_eq_true] at q
  have q1 : ((sIx items.size 0 lo : Nat) : Int) = 0 := eq_of_beq q.1.1
  have q2 : sIx items.size items.size hi - sIx items.size 0 lo = items.size := eq_of_beq q.2
  exact hw ⟨by omega, by omega⟩
 show wpAny _ _ (if (((sIx items.size 0 lo : Nat) : Int) == 0 && (1 : Int) == 1 && (sIx items.size items.size hi - sIx items.size 0 lo) == items.size) = true then _ else _) _ _ s
 rw [if_neg hno, pick_gen]
 first
  | exact wpAny_bind (m := Builtin.Tuple.tupleExact _) (wpAny_newObj_type (wpAny_pure ⟨_, rfl, wpAny_pure h⟩) htake)
  | exact wpAny_bind (m := Builtin.Tuple.tupleExact _) (wpAny_newObj_type (wpAny_bind (wpAny_pure (wpAny_pure ⟨_, rfl, wpAny_pure h⟩))) htake)
  | exact wpAny_bind (wpAny_bind (m := Builtin.Tuple.tupleExact _) (wpAny_newObj_type (wpAny_pure (wpAny_pure ⟨_, rfl, wpAny_pure h⟩)) htake))
  | exact wpAny_bind (wpAny_bind (m := Builtin.Tuple.tupleExact _) (wpAny_newObj_type (wpAny_pure ⟨_, rfl, wpAny_pure h⟩) htake))
end
end HT
namespace L2
open PySem PySem.Spec PyProof.Rows
abbrev TO := St → Hp → (Option Int → Hp → Prop) → Prop
structure PO (X : Cx) (e : Option Expr) (t : TO) : Prop where
 run : ∀ (pins : List (Addr × Obj)) (s : Shared) (σ : St) (H : Hp) (Q : Option Int → Hp → Prop), Inv X pins σ H s → t σ H Q →
  wpAny (model X.prog X.w) X.A (evalPart e X.env) (fun u s' => ∃ o H', Inv X pins σ H' s' ∧ IsPart u o ∧ Q o H') X.xe s
instance {X : Cx} {e : Option Expr} {t : TO} : CoeFun (PO X e t) fun _ => ∀ (pins : List (Addr × Obj)) (s : Shared) (σ : St) (H : Hp) (Q : Option Int → Hp → Prop), Inv X pins σ H s → t σ H Q → wpAny (model X.prog X.w) X.A (evalPart e X.env) (fun u s' => ∃ o H', Inv X pins σ H' s' ∧ IsPart u o ∧ Q o H') X.xe s := ⟨PO.run⟩
def tNoPart : TO := fun _ H Q => Q none H
def tPart (t : TE) : TO := fun σ H Q => t σ H fun x H1 => ∃ i, x = .int i ∧ Q (some i) H1
theorem intsAre_of {ns : List Int} : ∀ {us : List Value}, Vals (ns.map V.int) us → IntsAre us ns := by
 induction ns with
 | nil => intro us r; rw [List.map_nil] at r; cases r; exact .nil
 | cons n ns ih =>
  intro us r
  rw [List.map_cons] at r
  cases r with
  | cons r1 r2 =>
   obtain ⟨t, e⟩ := r1
   subst e
   exact .cons n t (ih r2)
section
variable {X : Cx} {e : Expr} {te : TE} {lo hi : Option Expr} {tl th : TO} {pos p2 : Pos}
theorem po_none : PO X none tNoPart := by
 refine .mk ?_
 intro pins s σ H Q I h
 rw [evalPart_none]
 exact wpAny_pure ⟨none, H, I, .none, h⟩
theorem po_some (h : PE X e te) : PO X (some e) (tPart te) := by
 refine .mk ?_
 intro pins s σ H Q I hw
 rw [evalPart_some]
 refine thn (h pins s σ H _ I hw) fun u s1 ⟨x, H1, I1, r1, q1⟩ => ?_
 obtain ⟨i, rfl, q⟩ := q1
 obtain ⟨t, rfl⟩ := r1
 exact ⟨some i, H1, I1, .int i t, q⟩
def SlR (X : Cx) (r : V → Option Int → Option Int → Hp → VK → Prop) : Prop :=
 ∀ (pins : List (Addr × Obj)) (s : Shared) (σ : St) (H : Hp) (x : V) (v vl vu : Value) (lo hi : Option Int) (sl : Addr) (Q : VK), Inv X pins σ H s → RelV x v → s.heap.IsSliceOf sl vl vu .none → IsPart vl lo → IsPart vu hi → r x lo hi H Q →
  ∃ T id, typeLookup (.type T) "__getitem__" = pure (some (.builtin id)) ∧ s.TypeIs v T ∧ wpAny (model X.prog X.w) X.A (getItem v (.ref sl)) (EP X pins σ Q) X.xe s
theorem SlR.or {r r' : V → Option Int → Option Int → Hp → VK → Prop} (h : SlR X r) (h' : SlR X r') : SlR X (fun x lo hi H Q => r x lo hi H Q ∨ r' x lo hi H Q) := by
 intro pins s σ H x v vl vu lo hi sl Q I rx hs pl pu q
 rcases q with q | q
 ·exact h pins s σ H x v vl vu lo hi sl Q I rx hs pl pu q
 ·exact h' pins s σ H x v vl vu lo hi sl Q I rx hs pl pu q
def tSl (r : V → Option Int → Option Int → Hp → VK → Prop) (te : TE) (tl th : TO) : TE := fun σ H Q => te σ H fun x H1 => tl σ H1 fun l H2 => th σ H2 fun u H3 => r x l u H3 Q
theorem pe_slice {r : V → Option Int → Option Int → Hp → VK → Prop} (hr : SlR X r) (he : PE X e te) (hl : PO X lo tl) (hu : PO X hi th) : PE X (.Subscript e (.Slice lo hi none p2) pos) (tSl r te tl th) := by
 refine .mk ?_
 intro pins s σ H Q I h
 refine Subscript_ (thn (he pins s σ H _ I h) fun v s1 ⟨x, H1, I1, r1, q1⟩ => ?_)
 refine wpAny_Slice (thn (hl pins s1 σ H1 _ I1 q1) fun vl s2 ⟨l, H2, I2, pl, q2⟩ => thn (hu pins s2 σ H2 _ I2 q2) fun vu s3 ⟨u, H3, I3, pu, q3⟩ => ?_)
 rw [evalPart_none]
 refine wpAny_pure ?_
 have I4 : Inv X pins σ H3 { s3 with heap := s3.heap.push { cls := .type "slice", data := .fields #[vl, vu, .none] } } := I3.kept (t' := s3.toks) fun b ob q => Heap.get?_push_of_some _ q
 obtain ⟨T, id, hT, ht, hg⟩ := hr pins { s3 with heap := s3.heap.push { cls := .type "slice", data := .fields #[vl, vu, .none] } } σ H3 x v vl vu l u s3.heap.objs.size Q I4 r1 (Heap.IsSliceOf.new ..) pl pu q3
 show wpAny (model X.prog X.w) X.A (subscriptTail e (.Slice lo hi none p2) v (.ref s3.heap.objs.size)) (EP X pins σ Q) X.xe { s3 with heap := s3.heap.push { cls := .type "slice", data := .fields #[vl, vu, .none] } }
 exact tail_any (ops := [.ref s3.heap.objs.size, v]) ht hT hg (by with_unfolding_all rfl)
def cutV (xs : List V) (lo hi : Option Int) : List V := (xs.drop (HT.sIx xs.length 0 lo)).take (HT.sIx xs.length xs.length hi - HT.sIx xs.length 0 lo)
theorem cutV_length (xs : List V) (lo hi : Option Int) : (cutV xs lo hi).length ≤ xs.length := by
 unfold cutV
 rw [List.length_take, List.length_drop]
 omega
def rSlT (K : PySem.W.Frag) : V → Option Int → Option Int → Hp → VK → Prop := fun x lo hi H Q => ∃ a xs, x = .ref a ∧ SqT K H a xs ∧
 ¬ (HT.sIx xs.length 0 lo = 0 ∧ HT.sIx xs.length xs.length hi = xs.length) ∧ ∀ p, H p = none → Q (.ref p) (upd H p (.tup (cutV xs lo hi)))
theorem sl_tup : SlR X (rSlT X.K) := by
 intro pins s σ H x v vl vu lo hi sl Q I rx hs pl pu h
 obtain ⟨a, xs, rfl, hx, hw, q⟩ := h
 cases rx
 obtain ⟨its, r, ht, hz⟩ := I.tuple hx
 have hlen : its.toArray.size = xs.length := by rw [List.size_toArray]; exact r.length.symm
 refine ⟨"tuple", _, PyProof.Rows.slot_tuple_getitem.lookup, ht.typeIs, ?_⟩
 refine HT.getItem_tuple_cut ht hs pl pu (by rw [hlen]; exact hw) ?_ (by rw [hlen]; exact hz)
 rw [hlen]
 refine ⟨.ref s.heap.objs.size, _, I.laid (t' := s.toks) (o := .tup (cutV xs lo hi)) (fun b ob q => Heap.get?_push_of_some _ q) (Nat.le_refl _) ?_, rfl, q _ (I.hok.fresh (Nat.le_refl _))⟩
 exact ⟨Nat.le_trans (cutV_length xs lo hi) hz, _, (r.drop (HT.sIx xs.length 0 lo)).take (HT.sIx xs.length xs.length hi - HT.sIx xs.length 0 lo), IsTup.new _ _⟩
def rCatT (K : PySem.W.Frag) : R2 := fun x y H Q => ∃ a b xs ys, x = .ref a ∧ y = .ref b ∧ SqT K H a xs ∧ SqT K H b ys ∧ xs ≠ [] ∧ xs.length + ys.length ≤ sizeLine ∧
 (ys = [] → Q (.ref a) H) ∧ (ys ≠ [] → ∀ p, H p = none → Q (.ref p) (upd H p (.tup (xs ++ ys))))
theorem Vals.nil_iff {xs : List V} {us : List Value} (r : Vals xs us) : us = [] ↔ xs = [] := by
 cases r with
 | nil => simp
 | cons _ _ => simp
theorem op_catT : OpR X (binaryOp .Add) (rCatT X.K) := by
 intro pins s σ H x y v u Q I rx ry h
 obtain ⟨a, b, xs, ys, rfl, rfl, ha, hb, hx, hz, q1, q2⟩ := h
 cases rx
 cases ry
 obtain ⟨its, r1, p1, _⟩ := I.tuple ha
 obtain ⟨its2, r2, p2, _⟩ := I.tuple hb
 refine HT.cat_tup p1 p2 (fun z => hx (r1.nil_iff.mp z)) (fun z => ⟨.ref a, H, I, rfl, q1 (r2.nil_iff.mp z)⟩) (fun z => ?_) (by rw [← r1.length, ← r2.length]; exact hz)
 refine ⟨.ref s.heap.objs.size, _, I.laid (t' := s.toks) (o := .tup (xs ++ ys)) (fun b ob q => Heap.get?_push_of_some _ q) (Nat.le_refl _) ?_, rfl, q2 (fun w => z (r2.nil_iff.mpr w)) _ (I.hok.fresh (Nat.le_refl _))⟩
 exact ⟨by rw [List.length_append]; exact hz, _, r1.append r2, IsTup.new _ _⟩
end
end L2
namespace L2
open PySem PySem.Spec PyProof.Rows
def ixN (n : Nat) (i : Int) : Option Nat := if 0 ≤ i then (if i < n then some i.toNat else none) else if -(n : Int) ≤ i then some (i + n).toNat else none
def atI {α : Type} (xs : List α) (i : Int) : Option α := (ixN xs.length i).bind fun j => xs[j]?
theorem ixN_seq {n : Nat} {i : Int} {j : Nat} (h : ixN n i = some j) : seqIndex? i n = some j ∧ j < n ∧ -(n : Int) ≤ i ∧ i < n := by
 unfold ixN at h
 by_cases h0 : 0 ≤ i
 ·rw [if_pos h0] at h
  by_cases h1 : i < n
  ·rw [if_pos h1] at h
   have e : i.toNat = j := Option.some.inj h
   exact ⟨by rw [seqIndex_of h0 h1, e], by omega, by omega, h1⟩
  ·rw [if_neg h1] at h; cases h
 ·rw [if_neg h0] at h
  by_cases h1 : -(n : Int) ≤ i
  ·rw [if_pos h1] at h
   have e : (i + n).toNat = j := Option.some.inj h
   exact ⟨by rw [seqIndex_neg (by omega) h1, e], by omega, h1, by omega⟩
  ·rw [if_neg h1] at h; cases h
theorem atI_get {α : Type} {xs : List α} {i : Int} {v : α} (h : atI xs i = some v) : ∃ j, seqIndex? i xs.length = some j ∧ xs[j]? = some v ∧ j < xs.length ∧ -(xs.length : Int) ≤ i ∧ i < xs.length := by
 unfold atI at h
 cases e : ixN xs.length i with
 | none => rw [e] at h; cases h
 | some j =>
  rw [e] at h
  obtain ⟨h1, h2, h3, h4⟩ := ixN_seq e
  exact ⟨j, h1, h, h2, h3, h4⟩
theorem atI_nat {α : Type} {xs : List α} {j : Nat} {v : α} (h : xs[j]? = some v) : atI xs (j : Int) = some v := by
 have hj : j < xs.length := (List.getElem?_eq_some_iff.mp h).1
 have e : ixN xs.length (j : Int) = some j := by
  unfold ixN
  rw [if_pos (by omega), if_pos (by omega)]; simp
 unfold atI; rw [e]; exact h
theorem atI_last {α : Type} (xs : List α) (v : α) : atI (xs ++ [v]) (-1) = some v := by
 have hl : (xs ++ [v]).length = xs.length + 1 := by simp
 have e : ixN (xs ++ [v]).length (-1) = some xs.length := by
  unfold ixN
  rw [hl, if_neg (by decide), if_pos (by omega)]
  congr 1
  omega
 unfold atI
 rw [e]
 show (xs ++ [v])[xs.length]? = some v
 simp
def PlainIx (b : Expr) : Prop := ∀ o i, subscripted b false o i = operate [o, i] (getItem o i)
def IxR (X : Cx) (r : R2) : Prop :=
 ∀ (value slice : Expr) (pins : List (Addr × Obj)) (s : Shared) (σ : St) (H : Hp) (x y : V) (v u : Value) (Q : VK), Inv X pins σ H s → RelV x v → RelV y u → r x y H Q →
  subscripted slice false v u = operate [v, u] (getItem v u) → wpAny (model X.prog X.w) X.A (subscriptTail value slice v u) (EP X pins σ Q) X.xe s
def MtR (X : Cx) (id : String) (r : V → List V → Hp → VK → Prop) : Prop :=
 ∀ (pins : List (Addr × Obj)) (s : Shared) (σ : St) (H : Hp) (x : V) (xs : List V) (v : Value) (us : List Value) (Q : VK), Inv X pins σ H s → RelV x v → Vals xs us → r x xs H Q →
  wpAny (model X.prog X.w) X.A (call (.builtin id) (v :: us)) (EP X pins σ Q) X.xe s
section
variable {X : Cx} {a b : Expr} {ta tb : TE} {pos : Pos}
theorem IxR.or {r r' : R2} (h : IxR X r) (h' : IxR X r') : IxR X (fun x y H Q => r x y H Q ∨ r' x y H Q) := by
 intro value slice pins s σ H x y v u Q I rx ry q hs
 rcases q with q | q
 ·exact h value slice pins s σ H x y v u Q I rx ry q hs
 ·exact h' value slice pins s σ H x y v u Q I rx ry q hs
theorem MtR.or {id : String} {r r' : V → List V → Hp → VK → Prop} (h : MtR X id r) (h' : MtR X id r') : MtR X id (fun x xs H Q => r x xs H Q ∨ r' x xs H Q) := by
 intro pins s σ H x xs v us Q I rx rs q
 rcases q with q | q
 ·exact h pins s σ H x xs v us Q I rx rs q
 ·exact h' pins s σ H x xs v us Q I rx rs q
theorem pe_ix {r : R2} (hr : IxR X r) (ha : PE X a ta) (hb : PE X b tb) (hs : PlainIx b) : PE X (.Subscript a b pos) (tOp r ta tb) := by
 refine .mk ?_
 intro pins s σ H Q I h
 exact Subscript_ (binT ha hb I h fun v u s2 x y H2 I2 rx ry q => hr a b pins s2 σ H2 x y v u Q I2 rx ry q (hs _ _))
def rIxL (K : PySem.W.Frag) : R2 := fun x y H Q => ∃ p xs i v, x = .ref p ∧ y = .int i ∧ SqL K H p xs ∧ atI xs i = some v ∧ Q v H
def rIxT (K : PySem.W.Frag) : R2 := fun x y H Q => ∃ p xs i v, x = .ref p ∧ y = .int i ∧ SqT K H p xs ∧ atI xs i = some v ∧ Q v H
def rIxS : R2 := fun x y H Q => ∃ z i c, x = .str z ∧ y = .int i ∧ z.length ≤ sizeLine ∧ atI z.cps.toList i = some c ∧ Q (.str ⟨#[c]⟩) H
theorem ix_list : IxR X (rIxL X.K) := by
 intro value slice pins s σ H x y v u Q I rx ry h hs
 obtain ⟨p, xs, i, z, rfl, rfl, hq, he, q⟩ := h
 cases rx
 obtain ⟨t, rfl⟩ := ry
 obtain ⟨its, r, pl, hz⟩ := I.list hq
 obtain ⟨j, h1, h2, h3, h4, h5⟩ := atI_get he
 obtain ⟨w, ew, rw'⟩ := r.get h2
 have hl := r.length
 have hn := line63
 have fin : EP X pins σ Q w s := ⟨z, H, I, rw', q⟩
 by_cases h0 : 0 ≤ i
 ·have hj : i.toNat = j := by
   rw [seqIndex_of h0 h5] at h1
   exact Option.some.inj h1
  exact item_listR pl.isList h0 (by omega) (by rw [hj]; simpa using ew) fin hs
 ·have hj : (i + (its.toArray.size : Int)).toNat = j := by
   rw [seqIndex_neg (by omega) h4] at h1
   rw [List.size_toArray, ← hl]
   exact Option.some.inj h1
  exact subscriptTail_builtinR (x := w) pl.isList.typeIs slot_list_getitem.lookup
   (wpAny_getItem_list_neg (Q := fun r s' => r = w ∧ EP X pins σ Q r s') pl.isList (by omega) (by rw [List.size_toArray] <;> omega) (by omega) (by rw [hj]; simpa using ew) ⟨rfl, fin⟩) hs
theorem ix_tup : IxR X (rIxT X.K) := by
 intro value slice pins s σ H x y v u Q I rx ry h hs
 obtain ⟨p, xs, i, z, rfl, rfl, hq, he, q⟩ := h
 cases rx
 obtain ⟨t, rfl⟩ := ry
 obtain ⟨its, r, pl, hz⟩ := I.tuple hq
 obtain ⟨j, h1, h2, h3, h4, h5⟩ := atI_get he
 obtain ⟨w, ew, rw'⟩ := r.get h2
 have hl := r.length
 have hn := line63
 have fin : EP X pins σ Q w s := ⟨z, H, I, rw', q⟩
 exact subscriptTail_builtinR (x := w) pl.typeIs slot_tuple_getitem.lookup
  (getItem_tuple (j := j) (Q := fun r s' => r = w ∧ EP X pins σ Q r s') pl (by omega) (by omega) (by rw [List.size_toArray, ← hl]; exact h1) (by simpa using ew) ⟨rfl, fin⟩) hs
theorem ix_str : IxR X rIxS := by
 intro value slice pins s σ H x y v u Q I rx ry h hs
 obtain ⟨z, i, c, rfl, rfl, hz, he, q⟩ := h
 obtain ⟨t, rfl⟩ := rx
 obtain ⟨t', rfl⟩ := ry
 obtain ⟨j, h1, h2, h3, h4, h5⟩ := atI_get he
 have hl : z.cps.toList.length = z.length := by simp [Str.length]
 rw [hl] at h1 h4 h5
 have hn := line63
 exact tail_any (typeIs_str s z t) slot_str_getitem.lookup (getItem_str (c := c) (by
  have e1 : decide (i < -(2 ^ 63 : Int)) = false := decide_eq_false (by omega)
  have e2 : decide (i ≥ 2 ^ 63) = false := decide_eq_false (by omega)
  rw [e1, e2, Bool.or_false]) (by rw [h1]; simpa using h2) ⟨.str ⟨#[c]⟩, H, I.tok _, ⟨_, rfl⟩, q⟩) hs
def rIx (K : PySem.W.Frag) : R2 := fun x y H Q => rIxL K x y H Q ∨ rIxT K x y H Q ∨ rIxS x y H Q
theorem ix_seq : IxR X (rIx X.K) := ix_list.or (ix_tup.or ix_str)
theorem Inv.lst {pins : List (Addr × Obj)} {σ : St} {H : Hp} {s : Shared} {p : Addr} {xs : List V} (I : Inv X pins σ H s) (h : H p = some (.lst xs)) :
  ∃ (its : List Value) (n : Nat), Vals xs its ∧ s.heap.get? p = some { cls := .type "list", data := .seq its.toArray n } ∧ xs.length ≤ sizeLine := by
 obtain ⟨z, its, n, r, e⟩ := I.hok p _ h
 exact ⟨its, n, r, e, z⟩
theorem slice_bounds (lo hi : Option Int) (n : Nat) : (sliceBounds lo hi none n).1 = ((HT.sIx n 0 lo : Nat) : Int) ∧ (sliceBounds lo hi none n).2.1 = ((HT.sIx n n hi : Nat) : Int) ∧ (sliceBounds lo hi none n).2.2 = 1 := by
 refine ⟨?_, ?_, rfl⟩
 ·cases lo with
  | none => simp [sliceBounds, HT.sIx]
  | some i =>
   simp only [sliceBounds, HT.sIx, Option.getD_none, show (1 : Int) > 0 by decide, if_true]
   by_cases h : i < 0
   ·simp only [h, if_true] <;> omega
   ·simp only [h, if_false] <;> omega
 ·cases hi with
  | none => simp [sliceBounds, HT.sIx]
  | some i =>
   simp only [sliceBounds, HT.sIx, Option.getD_none, show (1 : Int) > 0 by decide, if_true]
   by_cases h : i < 0
   ·simp only [h, if_true] <;> omega
   ·simp only [h, if_false] <;> omega
theorem slicePick_cut (its : List Value) (lo hi : Option Int) : slicePick its.toArray lo hi none = ((its.drop (HT.sIx its.length 0 lo)).take (HT.sIx its.length its.length hi - HT.sIx its.length 0 lo)).toArray := by
 obtain ⟨h1, h2, h3⟩ := slice_bounds lo hi its.toArray.size
 unfold slicePick
 rw [h1, h2, h3]
 simp only [sliceRange_one, pick_run, List.size_toArray] <;> rfl
def rSlL (K : PySem.W.Frag) : V → Option Int → Option Int → Hp → VK → Prop := fun x lo hi H Q => ∃ a xs, x = .ref a ∧ SqL K H a xs ∧ ∀ p, H p = none → Q (.ref p) (upd H p (.lst (cutV xs lo hi)))
theorem sl_list : SlR X (rSlL X.K) := by
 intro pins s σ H x v vl vu lo hi sl Q I rx hs pl pu h
 obtain ⟨a, xs, rfl, hx, q⟩ := h
 cases rx
 obtain ⟨its, r, ht, hz⟩ := I.list hx
 have hlen := r.length
 refine ⟨"list", _, slot_list_getitem.lookup, ht.isList.typeIs, ?_⟩
 refine wpAny_getItem_list_slice ht.isList hs pl pu .none (by simp) ?_ (by rw [List.size_toArray] <;> omega)
 rw [slicePick_cut, ← hlen]
 refine ⟨.ref s.heap.objs.size, _, I.laid (t' := s.toks) (o := .lst (cutV xs lo hi)) (fun b ob q => Heap.get?_push_of_some _ q) (Nat.le_refl _) ?_, rfl, q _ (I.hok.fresh (Nat.le_refl _))⟩
 exact ⟨Nat.le_trans (cutV_length xs lo hi) hz, _, 0, (r.drop (HT.sIx xs.length 0 lo)).take (HT.sIx xs.length xs.length hi - HT.sIx xs.length 0 lo), Heap.get?_push_size _ rfl⟩
def flatV : V → Bool
 | .non => true
 | .bl _ => true
 | .int _ => true
 | .str _ => true
 | _ => false
def eqV : V → V → Bool
 | .non, .non => true
 | .bl a, .bl b => a == b
 | .bl a, .int b => (if a then 1 else 0) == b
 | .int a, .bl b => a == (if b then 1 else 0)
 | .int a, .int b => a == b
 | .str a, .str b => a == b
 | _, _ => false
theorem eqAt_V {A : Around} {s : Shared} {y x : V} {u v : Value} (ry : RelV y u) (rx : RelV x v) (fy : flatV y = true) (fx : flatV x = true) : SeqAt.EqAt A s u v (eqV y x) := by
 cases y with
 | non =>
  cases ry
  cases x with
  | non => cases rx; exact SeqAt.EqAt.same _
  | bl b => cases rx; exact SeqAt.EqAt.none_bool b
  | int b => obtain ⟨t, rfl⟩ := rx; exact SeqAt.EqAt.none_int b t
  | str b => obtain ⟨t, rfl⟩ := rx; exact SeqAt.EqAt.none_str b t
  | _ => exact absurd (show false = true from fx) Bool.false_ne_true
 | bl a =>
  cases ry
  cases x with
  | non => cases rx; exact SeqAt.EqAt.bool_none a
  | bl b => cases rx; exact SeqAt.EqAt.bool_bool a b
  | int b => obtain ⟨t, rfl⟩ := rx; exact SeqAt.EqAt.bool_int a b t
  | str b => obtain ⟨t, rfl⟩ := rx; exact SeqAt.EqAt.bool_str a b t
  | _ => exact absurd (show false = true from fx) Bool.false_ne_true
 | int a =>
  obtain ⟨t', rfl⟩ := ry
  cases x with
  | non => cases rx; exact SeqAt.EqAt.int_none a t'
  | bl b => cases rx; exact SeqAt.EqAt.int_bool a t' b
  | int b => obtain ⟨t, rfl⟩ := rx; exact SeqAt.EqAt.int_int a t' b t
  | str b => obtain ⟨t, rfl⟩ := rx; exact SeqAt.EqAt.int_str a t' b t
  | _ => exact absurd (show false = true from fx) Bool.false_ne_true
 | str a =>
  obtain ⟨t', rfl⟩ := ry
  cases x with
  | non => cases rx; exact SeqAt.EqAt.str_none a t'
  | bl b => cases rx; exact SeqAt.EqAt.str_bool a t' b
  | int b => obtain ⟨t, rfl⟩ := rx; exact SeqAt.EqAt.str_int a t' b t
  | str b => obtain ⟨t, rfl⟩ := rx; exact SeqAt.EqAt.str_str a t' b t
  | _ => exact absurd (show false = true from fx) Bool.false_ne_true
 | _ => exact absurd (show false = true from fy) Bool.false_ne_true
def eqU (x : V) (u : Value) : Bool := match u with
 | .none => eqV .non x
 | .bool b => eqV (.bl b) x
 | .int i _ => eqV (.int i) x
 | .str z _ => eqV (.str z) x
 | _ => false
theorem eqU_of {x y : V} {u : Value} (r : RelV y u) (f : flatV y = true) : eqU x u = eqV y x := by
 cases y with
 | non => cases r; rfl
 | bl b => cases r; rfl
 | int i => obtain ⟨t, rfl⟩ := r; rfl
 | str z => obtain ⟨t, rfl⟩ := r; rfl
 | _ => exact absurd (show false = true from f) Bool.false_ne_true
theorem any_eqU {x : V} : ∀ {xs : List V} {us : List Value}, Vals xs us → xs.all flatV = true → us.any (eqU x) = xs.any fun y => eqV y x
 | _, _, .nil, _ => rfl
 | y :: xs, u :: us, .cons r t, f => by
  rw [List.all_cons, Bool.and_eq_true] at f
  rw [List.any_cons, List.any_cons, eqU_of r f.1, any_eqU t f.2]
theorem mem_eqAt {A : Around} {s : Shared} {x : V} {v : Value} (rx : RelV x v) (fx : flatV x = true) : ∀ {xs : List V} {us : List Value}, Vals xs us → xs.all flatV = true → ∀ u ∈ us, SeqAt.EqAt A s u v (eqU x u)
 | _, _, .nil, _ => fun u hu => by cases hu
 | y :: xs, u :: us, .cons r t, f => fun u' hu => by
  rw [List.all_cons, Bool.and_eq_true] at f
  rcases List.mem_cons.mp hu with rfl | hu
  ·rw [eqU_of r f.1]; exact eqAt_V r rx f.1 fx
  ·exact mem_eqAt rx fx t f.2 u' hu
def inV (x : V) (xs : List V) : Bool := xs.any fun y => eqV y x
def rIn (K : PySem.W.Frag) (neg : Bool) : R2 := fun x y H Q => ∃ p xs, y = .ref p ∧ (SqL K H p xs ∨ SqT K H p xs) ∧ flatV x = true ∧ xs.all flatV = true ∧ Q (.bl (if neg then !inV x xs else inV x xs)) H
theorem op_in_seq : OpR X (compareOp .In) (rIn X.K false) := by
 intro pins s σ H x y v u Q I rx ry h
 obtain ⟨p, xs, rfl, hq, fx, fs, q⟩ := h
 cases ry
 rcases hq with hq | hq
 ·obtain ⟨its, r, pl, hz⟩ := I.list hq
  refine SeqAt.in_listAt (eqU x) pl.isList (fun w hw => mem_eqAt rx fx r fs w (by simpa using hw)) ⟨.bl _, H, I, rfl, ?_⟩
  rw [show its.toArray.any (eqU x) = its.any (eqU x) by simp, any_eqU r fs]
  exact q
 ·obtain ⟨its, r, pl, hz⟩ := I.tuple hq
  refine SeqAt.in_tupleAt (eqU x) pl (fun w hw => mem_eqAt rx fx r fs w (by simpa using hw)) ⟨.bl _, H, I, rfl, ?_⟩
  rw [show its.toArray.any (eqU x) = its.any (eqU x) by simp, any_eqU r fs]
  exact q
theorem op_notIn_seq : OpR X (compareOp .NotIn) (rIn X.K true) := by
 intro pins s σ H x y v u Q I rx ry h
 obtain ⟨p, xs, rfl, hq, fx, fs, q⟩ := h
 cases ry
 rcases hq with hq | hq
 ·obtain ⟨its, r, pl, hz⟩ := I.list hq
  refine SeqAt.notIn_listAt (eqU x) pl.isList (fun w hw => mem_eqAt rx fx r fs w (by simpa using hw)) ⟨.bl _, H, I, rfl, ?_⟩
  rw [show its.toArray.any (eqU x) = its.any (eqU x) by simp, any_eqU r fs]
  exact q
 ·obtain ⟨its, r, pl, hz⟩ := I.tuple hq
  refine SeqAt.notIn_tupleAt (eqU x) pl (fun w hw => mem_eqAt rx fx r fs w (by simpa using hw)) ⟨.bl _, H, I, rfl, ?_⟩
  rw [show its.toArray.any (eqU x) = its.any (eqU x) by simp, any_eqU r fs]
  exact q
theorem call_len_seq : CallR X (.builtin "len") (fun xs H Q => ∃ p ys, xs = [.ref p] ∧ (SqL X.K H p ys ∨ SqT X.K H p ys) ∧ Q (.int ys.length) H) := by
 intro pins s σ H xs us Q I r h
 obtain ⟨p, ys, rfl, hq, q⟩ := h
 obtain ⟨u, rfl, rx⟩ := vals1 r
 cases rx
 have hn := line63
 rcases hq with hq | hq
 ·obtain ⟨its, r', pl, hz⟩ := I.list hq
  have hlen := r'.length
  exact Calls.call_len_list pl.isList (by simp only [List.size_toArray] <;> omega) ⟨.int ys.length, H, I.tok _, ⟨s.toks + 1, by rw [List.size_toArray, hlen]⟩, q⟩
 ·obtain ⟨its, r', pl, hz⟩ := I.tuple hq
  have hlen := r'.length
  exact len_tuple pl (by simp only [List.size_toArray] <;> omega) ⟨.int ys.length, H, I.tok _, ⟨s.toks + 1, by rw [List.size_toArray, hlen]⟩, q⟩
theorem call_len_str : CallR X (.builtin "len") (fun xs H Q => ∃ z, xs = [.str z] ∧ z.length ≤ sizeLine ∧ Q (.int z.length) H) := by
 intro pins s σ H xs us Q I r h
 obtain ⟨z, rfl, hz, q⟩ := h
 obtain ⟨u, rfl, t, rfl⟩ := vals1 r
 have hn := line63
 exact len_str (by omega) ⟨.int z.length, H, I.tok _, ⟨_, rfl⟩, q⟩
theorem CallR.or {f : Value} {r r' : List V → Hp → VK → Prop} (h : CallR X f r) (h' : CallR X f r') : CallR X f (fun xs H Q => r xs H Q ∨ r' xs H Q) := by
 intro pins s σ H xs us Q I rs q
 rcases q with q | q
 ·exact h pins s σ H xs us Q I rs q
 ·exact h' pins s σ H xs us Q I rs q
theorem call_list_of : CallR X (.type "list") (fun xs H Q => ∃ p ys, xs = [.ref p] ∧ (SqL X.K H p ys ∨ SqT X.K H p ys) ∧ ∀ l, H l = none → Q (.ref l) (upd H l (.lst ys))) := by
 intro pins s σ H xs us Q I r h
 obtain ⟨p, ys, rfl, hq, q⟩ := h
 obtain ⟨u, rfl, rx⟩ := vals1 r
 cases rx
 have fin : ∀ (its : List Value), Vals ys its → ys.length ≤ sizeLine → ∀ (h' : Heap) (c' : Nat), (∀ b o', s.heap.get? b = some o' → h'.get? b = some o') →
   h'.get? s.heap.objs.size = some { cls := .type "list", dict := none, data := .seq its.toArray c', slots := #[] } → EP X pins σ Q (.ref s.heap.objs.size) { s with heap := h' } := fun its r' hz h' c' kp e =>
  ⟨.ref s.heap.objs.size, _, I.laid (t' := s.toks) kp (Nat.le_refl _) (show ObjOk X.prog X.w _ h' _ (.lst ys) from ⟨hz, its, c', r', e⟩), rfl, q _ (I.hok.fresh (Nat.le_refl _))⟩
 rcases hq with hq | hq
 ·obtain ⟨its, r', pl, hz⟩ := I.list hq
  have hlen := r'.length
  obtain ⟨o, ho, hc, n, hd⟩ := pl.isList
  exact call_list_seq p (.inl rfl) ho hc hd (fun h' c' kp e => fin its r' hz h' c' kp e) (by simp only [List.size_toArray] <;> omega)
 ·obtain ⟨its, r', pl, hz⟩ := I.tuple hq
  have hlen := r'.length
  obtain ⟨o, ho, hc, n, hd⟩ := pl
  exact call_list_seq p (.inr rfl) ho hc hd (fun h' c' kp e => fin its r' hz h' c' kp e) (by simp only [List.size_toArray] <;> omega)
theorem call_tuple_of : CallR X (.type "tuple") (fun xs H Q => ∃ p ys, xs = [.ref p] ∧ ((SqL X.K H p ys ∧ ∀ l, H l = none → Q (.ref l) (upd H l (.tup ys))) ∨ (SqT X.K H p ys ∧ Q (.ref p) H))) := by
 intro pins s σ H xs us Q I r h
 obtain ⟨p, ys, rfl, h⟩ := h
 obtain ⟨u, rfl, rx⟩ := vals1 r
 cases rx
 rcases h with ⟨hq, q⟩ | ⟨hq, q⟩
 ·obtain ⟨its, r', pl, hz⟩ := I.list hq
  have hlen := r'.length
  refine call_tuple_list pl.isList (fun h' kp => ?_) (by simp only [List.size_toArray] <;> omega)
  have I1 : Inv X pins σ H { s with heap := h' } := I.kept (t' := s.toks) kp
  have I2 : Inv X pins σ (upd H h'.objs.size (.tup ys)) { s with heap := h'.push { cls := .type "tuple", data := .seq its.toArray } } :=
   I1.laid (t' := s.toks) (fun b o e => Heap.get?_push_of_some _ e) (Nat.le_refl _) (show ObjOk X.prog X.w _ _ _ (.tup ys) from ⟨hz, its, r', IsTup.new _ _⟩)
  exact ⟨.ref h'.objs.size, _, I2, rfl, q _ (I1.hok.fresh (Nat.le_refl _))⟩
 ·obtain ⟨its, r', pl, hz⟩ := I.tuple hq
  exact call_tuple_same pl ⟨.ref p, H, I, rfl, q⟩
def tyV (K : PySem.W.Frag) (T : String) (x : V) (H : Hp) : Prop := match x with
 | .str _ => T = "str"
 | .int _ => T = "int"
 | .ref p => (T = "list" ∧ ∃ xs, SqL K H p xs) ∨ (T = "tuple" ∧ ∃ o, K.lookup p = some o ∧ o.cls = .type "tuple" ∧ o.dict = none) ∨
   (T = "dict" ∧ ((∃ kvs, H p = some (.dK kvs)) ∨ ∃ kvs, H p = some (.dT kvs))) ∨ (T = "set" ∧ ∃ S n, H p = some (.set S n))
 | _ => False
theorem tyV_is {pins : List (Addr × Obj)} {σ : St} {H : Hp} {s : Shared} {T : String} {x : V} {v : Value} (I : Inv X pins σ H s) (r : RelV x v) (ty : tyV X.K T x H) :
  s.TypeIs v T ∧ ∀ a, v = .ref a → ∃ ob, s.heap.get? a = some ob ∧ ob.dict = none := by
 cases x with
 | str z =>
  obtain ⟨t, rfl⟩ := r
  cases (show T = "str" from ty)
  exact ⟨typeIs_str s z t, fun _ e => nomatch e⟩
 | int i =>
  obtain ⟨t, rfl⟩ := r
  cases (show T = "int" from ty)
  exact ⟨typeIs_int s i t, fun _ e => nomatch e⟩
 | ref p =>
  cases r
  rcases ty with ⟨rfl, xs, hq⟩ | ⟨rfl, o, hk, hc, hd⟩ | ⟨rfl, hk⟩ | ⟨rfl, S, n, hk⟩
  ·obtain ⟨its, _, pl, _⟩ := I.list hq
   refine ⟨pl.isList.typeIs, fun a e => ?_⟩
   cases e
   obtain ⟨o, n, e, c, hd, _⟩ := pl
   exact ⟨o, e, hd⟩
  ·refine ⟨⟨o, I.kIn p o hk, hc⟩, fun a e => ?_⟩
   cases e
   exact ⟨o, I.kIn _ o hk, hd⟩
  ·have z : ∃ o, s.heap.get? p = some o ∧ o.ExactDict := by
    rcases hk with ⟨kvs, hk⟩ | ⟨kvs, hk⟩
    ·obtain ⟨_, _, _, _, o, _, _, e, ex, _⟩ := I.hok p _ hk
     exact ⟨o, e, ex⟩
    ·obtain ⟨_, _, _, _, o, _, _, e, ex, _⟩ := I.hok p _ hk
     exact ⟨o, e, ex⟩
   obtain ⟨o, e, ex⟩ := z
   refine ⟨⟨o, e, ex.1⟩, fun a e2 => ?_⟩
   cases e2
   exact ⟨o, e, ex.2.1⟩
  ·obtain ⟨o, _, _, _, e, ex, _⟩ := I.hok p _ hk
   refine ⟨⟨o, e, ex.1⟩, fun a e2 => ?_⟩
   cases e2
   exact ⟨o, e, ex.2.1⟩
 | _ => exact False.elim ty
def tBM0 (K : PySem.W.Frag) (T : String) (r : V → List V → Hp → VK → Prop) (to : TE) : TE := fun σ H Q => to σ H fun x H1 => tyV K T x H1 ∧ r x [] H1 Q
def tBM (K : PySem.W.Frag) (T : String) (r : V → List V → Hp → VK → Prop) (to : TE) (t : TA) : TE := fun σ H Q => to σ H fun x H1 => tyV K T x H1 ∧ t σ H1 fun xs H2 => r x xs H2 Q
variable {o e : Expr} {es : List Expr} {to : TE} {t : TA} {name : Str} {apos cpos : Pos} {T id : String} {r : V → List V → Hp → VK → Prop}
theorem pe_bm0 (pa : PlainAttrs T) (slot : Slot T name id) (hty : typeOf (.builtin id) = pure (.type "method_descriptor")) (hm : MtR X id r) (ho : PE X o to)
  (hbase : attributeBase o name X.env (eval o X.env) = eval o X.env := by rfl) (hline : (apos.endLine == cpos.line) = true := by rfl) : PE X (.Call (.Attribute o name apos) [] [] cpos) (tBM0 X.K T r to) := by
 refine .mk ?_
 intro pins s σ H Q I h
 refine wpAny_Call_method0_late hbase hline (thn (ho pins s σ H _ I h) fun v s1 ⟨x, H1, I1, r1, ty, q1⟩ => ?_)
 obtain ⟨h1, h2⟩ := tyV_is I1 r1 ty
 exact ⟨T, id, pa, slot, hty, h1, h2, Calls.callWith_builtin rfl (PySem.evalArgs_none (hm pins s1 σ H1 x [] v [] Q I1 r1 .nil q1))⟩
theorem pe_bm (pa : PlainAttrs T) (slot : Slot T name id) (hty : typeOf (.builtin id) = pure (.type "method_descriptor")) (hm : MtR X id r) (ho : PE X o to) (ha : PA X (e :: es) t)
  (hbase : attributeBase o name X.env (eval o X.env) = eval o X.env := by rfl)
  (hfew : ((backTo cpos (starEach (e :: es) X.env)).all (fun x => !x.1) && (backToKw cpos (keywordEach [] X.env)).all (fun x => x.1.isSome)
   && decide ((e :: es).length + ([] : List Keyword).length + (if ([] : List Keyword).isEmpty then 0 else 1) < 30)) = true := by rfl)
  (hline : (apos.endLine == cpos.line) = true := by rfl) (hs : starEach (e :: es) X.env = (false, eval e X.env) :: starEach es X.env := by rfl) (hplain : (backTo cpos (starEach es X.env)).any (·.1) = false := by rfl) :
  PE X (.Call (.Attribute o name apos) (e :: es) [] cpos) (tBM X.K T r to t) := by
 refine .mk ?_
 intro pins s σ H Q I h
 refine wpAny_Call_method_late hbase hfew hline rfl (thn (ho pins s σ H _ I h) fun v s1 ⟨x, H1, I1, r1, ty, q1⟩ => ?_)
 obtain ⟨h1, h2⟩ := tyV_is I1 r1 ty
 refine ⟨T, id, pa, slot, hty, h1, h2, ?_⟩
 have hA := ha cpos pins s1 σ H1 _ I1 q1
 rw [hs] at hA ⊢
 refine Calls.callWith_builtin (by show (false || (backTo cpos (starEach es X.env)).any (·.1)) = false; rw [hplain] <;> rfl) (Calls.evalArgs_plain ?_)
 exact thn hA fun us s2 ⟨vs, H2, I2, r2, q2⟩ => hm pins s2 σ H2 x vs v us Q I2 r1 r2 q2
end
end L2
namespace L2
open PySem PySem.Spec PyProof.Rows
def MtM (X : Cx) (id : String) (r : V → List V → Hp → VK → Prop) : Prop :=
 ∀ (pins : List (Addr × Obj)) (s : Shared) (σ : St) (H : Hp) (x : V) (xs : List V) (v : Value) (us : List Value) (Q : VK), Inv X pins σ H s → RelV x v → Vals xs us → r x xs H Q →
  wpAny (model X.prog X.w) X.A (call (.builtin id) (v :: us)) (EP X pins σ Q) X.xe s
theorem Vals.one : ∀ {x : V} {us : List Value}, Vals [x] us → ∃ u, us = [u] ∧ RelV x u
 | _, _, .cons r .nil => ⟨_, rfl, r⟩
theorem Vals.zero : ∀ {us : List Value}, Vals [] us → us = []
 | _, .nil => rfl
theorem Vals.dropLast {xs : List V} {us : List Value} (h : Vals xs us) : Vals xs.dropLast us.dropLast := by
 induction h with
 | nil => exact .nil
 | cons r t ih =>
  cases t with
  | nil => exact .nil
  | cons q t' => exact .cons r ih
theorem Vals.eraseIdx : ∀ {xs : List V} {us : List Value} (i : Nat), Vals xs us → Vals (xs.eraseIdx i) (us.eraseIdx i)
 | _, _, _, .nil => .nil
 | _, _, 0, .cons _ t => t
 | _, _, i + 1, .cons r t => .cons r (Vals.eraseIdx i t)
theorem Vals.reverse {xs : List V} {us : List Value} (h : Vals xs us) : Vals xs.reverse us.reverse := by
 induction h with
 | nil => exact .nil
 | cons r t ih => rw [List.reverse_cons, List.reverse_cons]; exact Vals.append ih (.cons r .nil)
theorem Vals.rep {xs : List V} {us : List Value} (h : Vals xs us) : ∀ k : Nat, Vals (List.replicate k xs).flatten (List.replicate k us).flatten
 | 0 => .nil
 | k + 1 => by
  rw [List.replicate_succ, List.replicate_succ, List.flatten_cons, List.flatten_cons]
  exact Vals.append h (Vals.rep h k)
theorem erase_last {α : Type} (l : List α) : l.eraseIdx (l.length - 1) = l.dropLast := by
 induction l with
 | nil => rfl
 | cons a r ih =>
  cases r with
  | nil => rfl
  | cons b r =>
   have e : (a :: b :: r).length - 1 = ((b :: r).length - 1) + 1 := by
    have h1 : (a :: b :: r).length = r.length + 2 := rfl
    have h2 : (b :: r).length = r.length + 1 := rfl
    omega
   rw [e, List.eraseIdx_cons_succ, ih]
   all_goals rfl
theorem len_erase {α : Type} : ∀ (l : List α) (i : Nat), (l.eraseIdx i).length ≤ l.length
 | [], _ => Nat.le_refl _
 | _ :: _, 0 => Nat.le_succ _
 | _ :: r, i + 1 => Nat.succ_le_succ (len_erase r i)
theorem foldl_rep (its : List Value) : ∀ (k : Nat) (acc : List Value),
  List.foldl (fun x1 x2 => x1 ++ x2) acc.toArray (List.replicate k its.toArray) = (acc ++ (List.replicate k its).flatten).toArray
 | 0, acc => by simp
 | k + 1, acc => by
  have e : acc.toArray ++ its.toArray = (acc ++ its).toArray := by simp
  have e2 : (acc ++ its) ++ (List.replicate k its).flatten = acc ++ (List.replicate (k + 1) its).flatten := by
   rw [List.replicate_succ, List.flatten_cons, List.append_assoc]
  rw [← e2, ← foldl_rep its k (acc ++ its), ← e, List.replicate_succ, List.foldl_cons]
section
variable {X : Cx} {pins : List (Addr × Obj)} {σ : St} {H : Hp} {s : Shared} {l b : Addr} {xs ys zs : List V}
theorem Inv.lset {its its' : List Value} {n : Nat} {f : Array Value → Array Value} {t' : Nat} (I : Inv X pins σ H s) (hH : H l = some (.lst xs))
  (e : s.heap.get? l = some { cls := .type "list", data := .seq its.toArray n }) (hf : f its.toArray = its'.toArray) (hv : Vals ys its') (hz : ys.length ≤ sizeLine) :
  Inv X pins σ (upd H l (.lst ys)) { s with heap := s.heap.update l (Obj.mapSeq f), toks := t' } := by
 have q := PySem.IsL.update e f
 rw [hf] at q
 refine I.write (x := l) (e := l) (by rw [hH]; exact trivial) (.inl rfl) (fun b' u hb hu => (Heap.get?_update_other s.heap (Obj.mapSeq f) (Ne.symm hb)).trans hu) ⟨_, q⟩ ?_
 exact ⟨hz, its', _, hv, q⟩
theorem Inv.lnew {its : List Value} {t' : Nat} (I : Inv X pins σ H s) (hv : Vals ys its) (hz : ys.length ≤ sizeLine) :
  Inv X pins σ (upd H s.heap.objs.size (.lst ys)) { s with heap := s.heap.push { cls := .type "list", data := .seq its.toArray }, toks := t' } :=
 I.laid (fun _ _ q => Heap.get?_push_of_some _ q) (Nat.le_refl _) ⟨hz, its, 0, hv, Heap.get?_push_size _ rfl⟩
theorem Inv.fresh (I : Inv X pins σ H s) : H s.heap.objs.size = none := I.hok.fresh (Nat.le_refl _)
theorem Inv.lstM (I : Inv X pins σ H s) (hH : H l = some (.lst xs)) : xs.length ≤ sizeLine ∧ ∃ (its : List Value) (n : Nat), Vals xs its ∧ xs.length = its.length ∧ s.heap.get? l = some { cls := .type "list", data := .seq its.toArray n } := by
 obtain ⟨z, its, n, r, e⟩ := I.hok l _ hH
 exact ⟨z, its, n, r, r.length, e⟩
theorem notLongL {n : Nat} (h : n ≤ sizeLine) : Builtin.List.listTooLong n = false := by
 unfold Builtin.List.listTooLong
 exact decide_eq_false (by omega)
end
section
variable {X : Cx}
def rAppend : V → List V → Hp → VK → Prop := fun x vs H Q => ∃ l xs y, x = .ref l ∧ vs = [y] ∧ H l = some (.lst xs) ∧ xs.length < sizeLine ∧ Q .non (upd H l (.lst (xs ++ [y])))
theorem mt_append : MtM X "list.append" rAppend := by
 intro pins s σ H x vs v us Q I rx rv h
 obtain ⟨l, xs, y, rfl, rfl, hH, hz, q⟩ := h
 cases rx
 obtain ⟨u, rfl, ru⟩ := rv.one
 obtain ⟨z, its, n, r, hl, e⟩ := I.lstM hH
 refine call_meets F.slot_list_append ⟨_, e, rfl⟩ F.entry_list_append (F.args_list_append_2 _ _) (PySem.list_append l its.toArray n u (by rw [List.size_toArray]; omega)) ⟨e, ?_⟩
 refine ⟨.non, _, I.lset (its' := its ++ [u]) hH e (by simp) (r.append (.cons ru .nil)) ?_, rfl, q⟩
 rw [List.length_append, List.length_singleton]
 omega
def rPop : V → List V → Hp → VK → Prop := fun x vs H Q => ∃ l xs y, x = .ref l ∧ vs = [] ∧ H l = some (.lst xs) ∧ xs[xs.length - 1]? = some y ∧ Q y (upd H l (.lst xs.dropLast))
theorem mt_pop : MtM X "list.pop" rPop := by
 intro pins s σ H x vs v us Q I rx rv h
 obtain ⟨l, xs, y, rfl, rfl, hH, hy, q⟩ := h
 cases rx
 have hus := rv.zero
 subst hus
 obtain ⟨z, its, n, r, hl, e⟩ := I.lstM hH
 obtain ⟨u, hu, ru⟩ := r.get hy
 have hy' : its.toArray[its.toArray.size - 1]? = some u := by
  show its.toArray[its.length - 1]? = some u
  rw [← Array.getElem?_toList, ← hl]
  exact hu
 refine call_meets F.slot_list_pop ⟨_, e, rfl⟩ F.entry_list_pop (F.args_list_pop_1 _) (MeetsSeq.list_pop_last l its.toArray n u hy' (by rw [List.size_toArray]; omega)) ⟨e, ?_⟩
 refine ⟨y, _, I.lset (its' := its.dropLast) hH e ?_ r.dropLast ?_, ru, q⟩
 ·show its.toArray.eraseIdxIfInBounds (its.toArray.size - 1) = its.dropLast.toArray
  rw [List.size_toArray, List.eraseIdxIfInBounds_toArray, erase_last]
 ·rw [List.length_dropLast]
  omega
def rPopAt : V → List V → Hp → VK → Prop := fun x vs H Q => ∃ l xs i k y, x = .ref l ∧ vs = [.int i] ∧ H l = some (.lst xs) ∧ -(2 ^ 63) ≤ i ∧ i < 2 ^ 63 ∧ seqIndex? i xs.length = some k ∧ xs[k]? = some y ∧ Q y (upd H l (.lst (xs.eraseIdx k)))
theorem mt_popAt : MtM X "list.pop" rPopAt := by
 intro pins s σ H x vs v us Q I rx rv h
 obtain ⟨l, xs, i, k, y, rfl, rfl, hH, h1, h2, hk, hy, q⟩ := h
 cases rx
 obtain ⟨u, rfl, ru⟩ := rv.one
 obtain ⟨t, rfl⟩ := ru
 obtain ⟨z, its, n, r, hl, e⟩ := I.lstM hH
 obtain ⟨w, hw, rw'⟩ := r.get hy
 refine call_meets F.slot_list_pop ⟨_, e, rfl⟩ F.entry_list_pop (F.args_list_pop_2 _ _)
  (MeetsSeq.list_pop_at l its.toArray n i t k w (fitsIndex_both h1 h2) (by rw [List.size_toArray, ← hl]; exact hk) (by rw [← Array.getElem?_toList]; exact hw) (by rw [List.size_toArray]; omega)) ⟨e, ?_⟩
 refine ⟨y, _, I.lset (its' := its.eraseIdx k) hH e ?_ (r.eraseIdx k) ?_, rw', q⟩
 ·show its.toArray.eraseIdxIfInBounds k = (its.eraseIdx k).toArray
  rw [List.eraseIdxIfInBounds_toArray]
 ·have := len_erase xs k
  omega
def rCat : R2 := fun x y H Q => ∃ l b xs zs, x = .ref l ∧ y = .ref b ∧ H l = some (.lst xs) ∧ H b = some (.lst zs) ∧ xs.length + zs.length ≤ sizeLine ∧ ∀ p, H p = none → Q (.ref p) (upd H p (.lst (xs ++ zs)))
theorem op_cat : OpR X (binaryOp .Add) rCat := by
 intro pins s σ H x y v u Q I rx ry h
 obtain ⟨l, b, xs, zs, rfl, rfl, hH, hB, hz, q⟩ := h
 cases rx
 cases ry
 obtain ⟨z, its, n, r, hl, e⟩ := I.lstM hH
 obtain ⟨z2, its2, n2, r2, hl2, e2⟩ := I.lstM hB
 refine PySem.P.add_list e e2 ?_ (by rw [List.size_toArray, List.size_toArray]; omega)
 have ea : its.toArray ++ its2.toArray = (its ++ its2).toArray := by simp
 rw [ea]
 exact ⟨.ref _, _, I.lnew (t' := s.toks) (r.append r2) (by rw [List.length_append]; omega), rfl, q _ I.fresh⟩
def rRep : R2 := fun x y H Q => ∃ l k xs, x = .ref l ∧ y = .int k ∧ H l = some (.lst xs) ∧ -(2 ^ 63) ≤ k ∧ k < 2 ^ 63 ∧ xs.length * k.toNat ≤ sizeLine ∧
 ∀ p, H p = none → Q (.ref p) (upd H p (.lst (List.replicate k.toNat xs).flatten))
theorem len_rep {α : Type} (xs : List α) (k : Nat) : (List.replicate k xs).flatten.length = k * xs.length := by
 induction k with
 | zero => simp
 | succ k ih => rw [List.replicate_succ, List.flatten_cons, List.length_append, ih, Nat.succ_mul, Nat.add_comm]
theorem op_rep : OpR X (binaryOp .Mult) rRep := by
 intro pins s σ H x y v u Q I rx ry h
 obtain ⟨l, k, xs, rfl, rfl, hH, h1, h2, hz, q⟩ := h
 cases rx
 obtain ⟨t, rfl⟩ := ry
 obtain ⟨z, its, n, r, hl, e⟩ := I.lstM hH
 have hlen : its.toArray.size * k.toNat ≤ sizeLine := by rw [List.size_toArray, ← hl]; exact hz
 have hcap : ¬ its.toArray.size * k.toNat > (2 ^ 63 - 1) / 8 := by
  have : (sizeLine : Nat) ≤ (2 ^ 63 - 1) / 8 := by decide
  omega
 have hfit : ¬ (!Builtin.List.listFitsIndex k) = true := by
  rw [fitsIndex_both h1 h2]
  exact Bool.false_ne_true
 have hlong : ¬ Builtin.List.listTooLong (its.toArray.size * k.toNat) = true := by
  rw [notLongL hlen]
  exact Bool.false_ne_true
 have hnew : List.foldl (fun x1 x2 => x1 ++ x2) #[] (List.replicate (if its.toArray.isEmpty = true then 0 else k.toNat) its.toArray) = (List.replicate k.toNat its).flatten.toArray := by
  have f0 : ∀ m : Nat, List.foldl (fun x1 x2 => x1 ++ x2) #[] (List.replicate m its.toArray) = (List.replicate m its).flatten.toArray := fun m => by
   have := foldl_rep its m []
   rw [List.nil_append] at this
   exact this
  rw [f0]
  cases its with
  | nil => simp
  | cons a r' => rw [if_neg (by simp)]
 refine wpAny_binaryOp_repeat_ref (T := "list") (U := "int") (by decide) ⟨_, e, rfl⟩ (fun s' => typeIs_int s' k t) noFill_list_mul F.fills_int_mul F.slot_int_rmul repeat_list F.slot_int_index.lookup
  (call_meets F.slot_int_rmul (typeIs_int s k t) F.entry_int_rmul (F.args_int_rmul_2 _ _) (int___rmul___int_list k t l its.toArray n)
   ⟨e, rfl, ⟨_, e, rfl⟩, call_meets F.slot_list_mul ⟨_, e, rfl⟩ F.entry_list_mul (F.args_list_mul_2 _ _) (AutoListH.list___mul___list_int_3 l its.toArray n k t hfit hcap hlong) ⟨e, ?_⟩⟩)
 rw [hnew]
 exact ⟨.ref _, _, I.lnew (t' := s.toks) (r.rep k.toNat) (by rw [len_rep, Nat.mul_comm]; exact hz), rfl, q _ I.fresh⟩
end
section
variable {prog : Program} {w : World} {A : Around} {E : Value → Shared → Prop} {s : Shared}
set_option maxRecDepth 100000 in
end
section
variable {X : Cx}
end
end L2
namespace Att
open PySem PySem.W PySem.Calls PyProof.Rows
theorem ints_of_wellAll {P : Params} {h : Heap} : ∀ (ns : List Int) (vs : List Value), WellAll P h vs (ns.map WData.int) → IntsAre vs ns := by
 intro ns
 induction ns with
 | nil =>
  intro vs w
  rw [List.map_nil] at w
  cases w
  exact .nil
 | cons n ns ih =>
  intro vs w
  rw [List.map_cons] at w
  cases w with
  | cons a b =>
   cases a
   exact .cons _ _ (ih _ b)
theorem script_of {l : OpenLaw} {n : Nat} (hn : l.most = some n) {P : Params} {h : Heap} {args : List WData} {vals : List Value}
  (hpre : l.row.toRowW.claim.pre args = true) (hwl : WellAll P h vals args) :
  ∃ a vs ns, vals = [Value.ref a] ∧ args = [WData.list (ns.map WData.int)] ∧ h.get? a = some { cls := .type "list", data := .seq vs.toArray } ∧ IntsAre vs ns ∧ ns.length ≤ n := by
 have hsh : WShape.hasAll [] args [.list .int] = true := (pre_splitW hpre).1
 have hc : l.pre.holds [] { args := args } = true := (pre_splitW hpre).2
 obtain ⟨d, r, rfl, h1, h2⟩ := hasAllW_cons hsh
 obtain rfl := hasAllW_nil h2
 obtain ⟨xs, rfl, h3⟩ := hasW_list h1
 obtain ⟨ns, rfl⟩ := items_int h3
 have hlen : ns.length ≤ n := by
  unfold OpenLaw.pre at hc
  have h4 : (WTm.not (.lt (.lit (.int (n : Int))) (.len (.arg 0)))).holds [] { args := [.list (ns.map .int)] } = true := by
   have h4 := (holds_andW hc).1
   rw [hn] at h4
   exact h4
  have h5 := condW_of h4 (w_not (w_lt w_lit (w_len_list (w_arg rfl))))
  rw [List.length_map] at h5
  refine Nat.le_of_not_lt fun q => ?_
  have q' : (n : Int) < ((ns.length : Nat) : Int) := by omega
  first
   | (rw [decide_eq_true q'] at h5; exact absurd h5 (by decide))
   | (simp at h5; omega)
 cases hwl with
 | cons w1 w2 =>
  cases w2
  cases w1 with
  | list ho hall => exact ⟨_, _, ns, rfl, rfl, ho, ints_of_wellAll ns _ hall, hlen⟩
theorem post_true (l : OpenLaw) (args : List WData) : l.row.toRowW.claim.post args (.bool true) args = true :=
 postW_of (r := l.row.toRowW) (X := (true == true))
  (show WShape.has [] (.bool true) .bool = true by first | rfl | decide | simp [WShape.has, WShape.arms, WShape.armsAll])
  (show (WTm.eq .res (.lit (.bool true))).value [] { args := args, res := some (.bool true), after := args } = some (.bool (true == true)) from w_eq_bool (w_res rfl) w_lit) rfl
theorem attach_call {l : OpenLaw} {n : Nat} {q : Program} {loose : List Str} {XP : (Str → Option Value) → Heap → Prop} {YP : World → Heap → Prop} {d : DefRec}
  (hn : l.most = some n) (hdf : d.params.defaults = [])
  (call : ∀ (w : World) (s₀ s₁ : Shared) (mg mb : Str → Option Value) (fa : Addr) (o : Obj) (pm cd doc : Value) (a : Addr) (vs : List Value) (ns : List Int),
   Ground q loose [] XP w s₀ mg mb s₁.heap → YP w s₁.heap →
   s₁.heap.get? fa = some o → o.data = .func (docDef d.name d.params d.body d.scope pm cd doc) → s₁.heap.CodeRec cd d.name → mg d.name = some (.ref fa) →
   s₁.heap.get? a = some { cls := .type "list", data := .seq vs.toArray } → IntsAre vs ns → ns.length ≤ n → s₁.gens = #[] →
   codeAny (model l.prog w) callerA (.call (.ref fa) ⟨[.ref a], []⟩) (fun r s' => r = .ok (.ret (.bool true)) ∧ OldK s₁.heap s'.heap ∧ s'.os = s₁.os ∧ AllBare s'.gens) s₁) :
  WalkO q loose XP YP l.row.toRowW d [] (fun f vs => PySem.call f vs) := by
 intro w s₀ s₁ mg mb G Y fa o pm cd doc dV kV ho hd hcd hD hmg hg args vals as hpre hlay hrd hwl hlo
 obtain rfl : dV = .none := Dflts.none hD hdf
 obtain rfl : kV = .none := Dflts.noKw hD
 obtain ⟨a, vs, ns, rfl, rfl, hobj, hints, hlen⟩ := script_of hn hpre hwl
 refine enter_call (codeAny_mono (call w s₀ s₁ mg mb fa o pm cd doc a vs ns G Y ho (fd_plain hd) hcd hmg hobj hints hlen hg) fun r s' hq => ?_)
 obtain ⟨rfl, h2, h3, h4⟩ := hq
 exact ⟨.inl ⟨.bool true, .bool true, [], rfl, fun _ => rfl, .bool true, post_true l _, fun _ => ⟨List.Pairwise.nil, fun _ hm => (nomatch hm)⟩⟩, h2, h3, h4⟩
section
variable {prog : Program} {w : World} {A : Around} {E : Value → Shared → Prop} {s : Shared} {K : Frag}
end
end Att
namespace L2
open PySem PySem.Spec PyProof.Rows
theorem vals_ints : ∀ {vs : List Value} {ns : List Int}, IntsAre vs ns → Vals (ns.map V.int) vs
 | _, _, .nil => .nil
 | _, _, .cons n t h => .cons ⟨t, rfl⟩ (vals_ints h)
def Only (H : Hp) : Prop := ∀ b, H b = none ∨ ∃ o xs, H b = some (.frz o (.lst xs))
theorem law_call {P : Program} {w : World} {K : PySem.W.Frag} {mg mb : Str → Option Value} {CX : CXT} {k : Nat} {fa a : Addr} {fd : FuncData} {x : Str} {sp : Sp} {s₁ : Shared} {vs : List Value} {ns : List Int}
  (KX : K.In s₁.heap) (hns : s₁.heap.Ns mainGlobals mg) (hb : s₁.heap.Ns builtinsNs mb) (hbb : ∀ x : Str, x ≠ "__name__" → mb x = bootBuiltins x) (hlim : s₁.heap.NoLimit) (hg : s₁.gens = #[])
  (ha : s₁.heap.get? a = some { cls := .type "list", data := .seq vs.toArray }) (hi : IntsAre vs ns) (hl : ns.length ≤ sizeLine) (hr : Room k callerA)
  (F : ∀ base : Heap, K.In base → base.Ns mainGlobals mg → FnOk P w K mg base CX k fa fd [x] sp) (hbind : ∀ (s : Shared) (u : Value), BindsTo s fd ⟨[u], []⟩ [(x, u)])
  (hsp : ∀ H : Hp, Only H → SqL K H a (ns.map V.int) → sp [.ref a] H (fun v _ => v = .bl true) fun _ _ _ => False)
  (hCX : ∀ H e s', CX [] H s₁ (fun _ _ _ => False) e s' → False) :
  codeAny (model P w) callerA (.call (.ref fa) ⟨[.ref a], []⟩) (fun r s' => r = .ok (.ret (.bool true)) ∧ OldK s₁.heap s'.heap ∧ s'.os = s₁.os ∧ AllBare s'.gens) s₁ := by
 have rv := vals_ints hi
 have lenV := hi.length
 -- from an abstract heap in which nothing but the script may be tracked
 have core : ∀ H : Hp, Only H → SqL K H a (ns.map V.int) → HOk P w H s₁.heap → (∀ b, H b ≠ none → b = a) → (H a ≠ none → K.lookup a = none) →
   codeAny (model P w) callerA (.call (.ref fa) ⟨[.ref a], []⟩) (fun r s' => r = .ok (.ret (.bool true)) ∧ OldK s₁.heap s'.heap ∧ s'.os = s₁.os ∧ AllBare s'.gens) s₁ := by
  intro H hO hS hok hA hK
  have base_of : ∀ {b : Addr} {o : Obj}, s₁.heap.get? b = some o → H b = none → (hidT s₁.heap H).get? b = some o := fun e n => hidT_get e n
  have noA : ∀ {b : Addr} {o : Obj} {es : Array DictEntry} {ep : Nat}, s₁.heap.get? b = some o → o.data = .dict es ep → H b = none := fun {b o es ep} e d => by
   cases q : H b with
   | none => rfl
   | some u =>
    have e' : b = a := hA b (by rw [q]; simp)
    subst e'
    rw [ha] at e; cases e
    have d' : Data.seq vs.toArray _ = Data.dict es ep := d
    cases d'
  have nsK : ∀ {b : Addr} {m : Str → Option Value}, s₁.heap.Ns b m → (hidT s₁.heap H).Ns b m := fun {b m} ⟨o, es, ep, e, d, r⟩ => ⟨o, es, ep, base_of e (noA e d), d, r⟩
  have hKb : K.In (hidT s₁.heap H) := fun b o e => base_of (KX b o e) (by
   cases q : H b with
   | none => rfl
   | some u =>
    have e' : b = a := hA b (by rw [q]; simp)
    subst e'
    rw [hK (by rw [q]; simp)] at e; cases e)
  have hM : Mod K mg (hidT s₁.heap H) := ⟨hKb, nsK hns, ⟨mb, nsK hb, hbb⟩, let ⟨mc, h1, h2⟩ := hlim; ⟨mc, nsK h1, h2⟩⟩
  have e0 : Env0 P w K mg (hidT s₁.heap H) callerA [] s₁ H := ⟨rfl, hM, fun b o e => of_hidT e, Nat.le_of_eq (hidT_size _ _), trivial, fun b hb => absurd (show b ∈ ([] : List Addr) from hb) (by simp), hok, .of_eq hg⟩
  refine codeAny_mono ((F _ hKb (nsK hns)).run callerA [] s₁ H ⟨[.ref a], []⟩ [.ref a] [.ref a] _ _ hr e0 (hbind s₁ (.ref a)) (.cons rfl .nil) (hsp H hO hS)) fun r s' h => ?_
  cases r with
  | error e => exact (hCX H e s' h).elim
  | ok fl =>
   cases fl with
   | next => exact False.elim h
   | brk => exact False.elim h
   | cont => exact False.elim h
   | ret u =>
    obtain ⟨v, H', os, bare, un, hok', r', q⟩ := h
    have q' : v = .bl true := q
    subst q'
    obtain rfl : u = Value.bool true := r'
    refine ⟨rfl, OldK.of_keep fun b o e => ?_, os, bare⟩
    cases q : H b with
    | none => exact un.keep b o e q (by intro z; exact absurd (show b ∈ ([] : List Addr) from z) (by simp)) (by simp)
    | some u =>
     rcases hO b with z | ⟨ob, xs, z⟩
     ·rw [q] at z; cases z
     ·have z2 := un.frzs b ob _ z
      obtain ⟨e1, _⟩ := hok b _ z
      obtain ⟨e2, _⟩ := hok' b _ z2
      rw [e] at e1; cases e1
      exact e2
 cases hk : K.lookup a with
 | some o =>
  -- the script is one of the module's own objects
  have e := KX a o hk
  rw [ha] at e
  cases e
  refine core (fun _ => none) (fun _ => .inl rfl) (.inr ⟨_, vs.toArray, _, hk, rfl, rfl, rfl, by rw [List.size_toArray, lenV]; exact hl, by simpa using rv⟩) (fun b u z => by have z' : (none : Option HO) = some u := z; cases z') (fun b z => absurd rfl z) fun z => absurd rfl z
 | none =>
  refine core (fun b => if b = a then some (.frz { cls := .type "list", data := .seq vs.toArray } (.lst (ns.map V.int))) else none) (fun b => ?_) (.inl (.inr ⟨{ cls := .type "list", data := .seq vs.toArray }, if_pos rfl⟩)) (fun b u z => ?_) (fun b z => ?_) fun _ => hk
  ·by_cases hb : b = a
   ·exact .inr ⟨_, _, if_pos hb⟩
   ·exact .inl (if_neg hb)
  ·by_cases hb : b = a
   ·have z' := (if_pos hb).symm.trans z
    cases z'
    subst hb
    exact ⟨ha, by rw [List.length_map]; exact hl, vs, _, rv, ha⟩
   ·have z' := (if_neg hb).symm.trans z
    cases z'
  ·by_cases hb : b = a
   ·exact hb
   ·exact absurd (if_neg hb) z
end L2
namespace L2
open PySem PySem.Spec PyProof.Rows
theorem walk_of {l : PySem.W.OpenLaw} {n k : Nat} {q : Program} {loose : List Str} {XP : (Str → Option Value) → Heap → Prop} {YP : World → Heap → Prop} {d : DefRec} {K : Params → PySem.W.Frag} {CX : World → CXT} {sp : World → Sp} {x : Str}
  (hn : l.most = some n) (hn2 : n ≤ sizeLine) (hdf : d.params.defaults = []) (hr : Room k callerA)
  (hY : ∀ (w : World) (h : Heap), YP w h → (K w.params).In h)
  (F : ∀ (w : World) (mg : Str → Option Value) (fa : Addr) (h : Heap), (K w.params).In h → h.Ns mainGlobals mg → mg d.name = some (.ref fa) →
   ∃ fd : FuncData, (∀ (s : Shared) (u : Value), BindsTo s fd ⟨[u], []⟩ [(x, u)]) ∧
    ∀ base : Heap, (K w.params).In base → base.Ns mainGlobals mg → FnOk l.prog w (K w.params) mg base (CX w) k fa fd [x] (sp w))
  (hsp : ∀ (w : World) (H : Hp) (a : Addr) (ns : List Int), ns.length ≤ n → Only H → SqL (K w.params) H a (ns.map V.int) → sp w [.ref a] H (fun v _ => v = .bl true) fun _ _ _ => False)
  (hCX : ∀ (w : World) (H : Hp) (s : Shared) (e : Value) (s' : Shared), CX w [] H s (fun _ _ _ => False) e s' → False) :
  PySem.W.WalkO q loose XP YP l.row.toRowW d [] (fun f vs => PySem.call f vs) := by
 refine Att.attach_call hn hdf fun w s₀ s₁ mg mb fa o pm cd doc a vs ns G Y ho hd hcd hmg hobj hints hlen hg => ?_
 have KX := hY w _ Y
 obtain ⟨fd, hb, hF⟩ := F w mg fa _ KX G.T.g hmg
 exact law_call KX G.T.g G.T.b G.T.builtins G.T.nolimit hg hobj hints (Nat.le_trans hlen hn2) hr hF hb (fun H hO hS => hsp w H a ns hlen hO hS) fun H e s' => hCX w H s₁ e s'
end L2
namespace L2
open PySem PySem.Spec PyProof.Rows
def defArgs (s : Stmt) : Arguments := match s with
 | .FunctionDef _ a _ _ _ _ _ _ _ _ => a
 | _ => { posonlyargs := [], args := [], vararg := none, kwonlyargs := [], kw_defaults := [], kwarg := none, defaults := [] }
def defBody (s : Stmt) : List Stmt := match s with
 | .FunctionDef _ _ b _ _ _ _ _ _ _ => b
 | _ => []
def defScope (s : Stmt) : Scope := match s with
 | .FunctionDef _ _ _ _ _ _ sc _ _ _ => sc
 | _ => { kind := .function, names := [], isGenerator := false, isCoroutine := false }
abbrev CX0 : CXT := fun _ _ _ _ _ _ => False
abbrev E0 : XK := fun _ _ _ => False
theorem pass0 {X : Cx} : Passes CX0 X E0 := fun _ _ _ _ _ _ _ h => h.elim
structure Fun (K : PySem.W.Frag) (x qual : Str) (st : Stmt) (f : Addr) (fd : FuncData) : Prop where
 ex : ∃ (oc : Value) (od : Option Addr) (kV doc pm : Value) (an : Option Addr) (cdv ct : Value) (osl : Array (Option Value)),
  fd = PySem.W.fnOf x qual (defArgs st) (defBody st) (defScope st) .none kV doc pm an cdv ct ∧ K.lookup f = some ⟨oc, od, .func fd, osl⟩ ∧ PySem.W.codeIn K cdv qual = true
 kp : PySem.W.keepIn K (.ref f) = true
section
variable {P : Program} {w : World} {K : PySem.W.Frag} {mg : Str → Option Value} {base : Heap}
theorem Fun.ok {x qual : Str} {st : Stmt} {f : Addr} {fd : FuncData} {N ps : List Str} {k : Nat} {sp : Sp} (F : Fun K x qual st f fd) (S : FnScope N ps (defScope st)) (len : ∀ vs H Q E, sp vs H Q E → vs.length = ps.length)
  (hbody : ∀ (cdv : Value) (A : Around) (outer : List Env) (s : Shared) (H : Hp) (vs : List V) (Q : VK) (E : XK), Room k (A.deeper (envOfC qual (defScope st) s.heap.objs.size f cdv)) → sp vs H Q E →
   ∃ t, PSs (cxOf CX0 P w K mg base N qual (defScope st) f cdv A outer s H E).nox (defBody st) t ∧ t { nx := fun _ H' => Q .non H', rt := Q } (start N vs) H) : FnOk P w K mg base CX0 (k + 1) f fd ps sp := by
 obtain ⟨oc, od, kV, doc, pm, an, cdv, ct, osl, rfl, lk, hcd⟩ := F.ex
 refine fn_of lk hcd S len fun A outer s H vs Q E hr hsp => ?_
 obtain ⟨t, h, q⟩ := hbody cdv A outer s H vs Q E hr hsp
 exact ⟨t, h.nox, q⟩
theorem Fun.binds {x qual : Str} {st : Stmt} {f : Addr} {fd : FuncData} {ps : List Str} (F : Fun K x qual st f fd)
  (h : ∀ (kV doc pm : Value) (an : Option Addr) (cdv ct : Value) (us : List Value), us.length = ps.length → bindArgs (PySem.W.fnOf x qual (defArgs st) (defBody st) (defScope st) .none kV doc pm an cdv ct) ⟨us, []⟩ = pure (ps.zip us)) : Binds K fd ps [] := by
 obtain ⟨oc, od, kV, doc, pm, an, cdv, ct, osl, rfl, lk, hcd⟩ := F.ex
 exact .all (h kV doc pm an cdv ct)
theorem fun_mk {x qual : Str} {st : Stmt} {f : Addr} {oc : Value} {od an : Option Addr} {osl : Array (Option Value)} {kV doc pm cdv ct : Value} (l : K.lookup f = some ⟨oc, od, .func (PySem.W.fnOf x qual (defArgs st) (defBody st) (defScope st) .none kV doc pm an cdv ct), osl⟩)
  (c : PySem.W.codeIn K cdv qual = true) (k : PySem.W.keepIn K (.ref f) = true) : Fun K x qual st f (PySem.W.fnOf x qual (defArgs st) (defBody st) (defScope st) .none kV doc pm an cdv ct) := ⟨⟨oc, od, kV, doc, pm, an, cdv, ct, osl, rfl, l, c⟩, k⟩
end
theorem small1000 {n : Nat} (h : n ≤ 1000) : n < sizeLine := Nat.lt_of_le_of_lt h (by decide)
section
variable {X : Cx}
theorem pv (i : Nat) {x : Str} {pos : Pos} (hN : X.N[i]? = some x := by rfl) (hv : Vis X.env.scope x := by first | exact Or.inl rfl | exact Or.inr (Or.inl rfl) | exact Or.inr (Or.inr rfl)) (hd : (x == ("__debug__" : Str)) = false := by decide)
  (hcd : (x == ("__classdict__" : Str)) = false := by decide) : PE X (.Name x pos) (tVar i) := pe_var hN hv hd hcd
end
def Same (H H' : Hp) : Prop := ∀ b o, H b = some o → H' b = some o
theorem Same.refl (H : Hp) : Same H H := fun _ _ h => h
theorem Same.trans {H H1 H2 : Hp} (a : Same H H1) (b : Same H1 H2) : Same H H2 := fun c o h => b c o (a c o h)
theorem Same.free {H H' : Hp} (e : Same H H') {l : Addr} (h : H' l = Option.none) : H l = Option.none := by
 cases q : H l with
 | none => rfl
 | some o =>
  rw [e l o q] at h
  cases h
theorem Same.seq {K : PySem.W.Frag} {H H' : Hp} {a : Addr} {xs : List V} (e : Same H H') (h : SqL K H a xs) : SqL K H' a xs := by
 rcases h with (h | ⟨o, h⟩) | h
 ·exact .inl (.inl (e _ _ h))
 ·exact .inl (.inr ⟨o, e _ _ h⟩)
 ·exact .inr h
end L2
set_option Elab.async false
set_option linter.all false
set_option maxRecDepth 100000
namespace L2
open PySem PySem.Spec PyProof.Rows
theorem compLoop_any {prog : Program} {w : World} {A : Around} {R : Result → Shared → Prop} {s : Shared} {elt target iter : Expr} {ifs : List Expr} {scope : Scope} {pos : Pos} {it acc : Value} {env : Env} (I : Nat → Shared → Prop)
  (turn : ∀ n s, I n s → wpAny (model prog w) A (pyNext it) (fun r s₁ => match r with
   | none => R (.ok .next) s₁
   | some v => wpAny (model prog w) A (letOwnedTupleGo target it v) (fun _ s₁' => wpAny (model prog w) A (assign target env v) (fun _ s₂ =>
     wpAny (model prog w) A (forIn ifs true fun c r => if r = true then do let ok ← isTrue c env (eval c env); pure (ForInStep.yield ok) else pure (ForInStep.yield r)) (fun ok s₃ =>
      if ok = true then wpAny (model prog w) A (eval elt env) (fun x s₄ =>
       wpAny (model prog w) A (call (.builtin "list.append") [acc, x]) (fun _ s₅ => ∃ m, m < n ∧ I m s₅) (notedBy (model prog w) A env fun e s' => R (.error e) s') s₄) (notedBy (model prog w) A env fun e s' => R (.error e) s') s₃
      else ∃ m, m < n ∧ I m s₃) (notedBy (model prog w) A env fun e s' => R (.error e) s') s₂) (notedBy (model prog w) A env fun e s' => R (.error e) s') s₁') (notedBy (model prog w) A env fun e s' => R (.error e) s') s₁) (notedBy (model prog w) A env fun e s' => R (.error e) s') s)
  (n : Nat) (h : I n s) :
  codeAny (model prog w) A (.compLoop (.ListComp elt [⟨target, iter, ifs, 0⟩] scope pos) 0 it acc env) R s := by
 refine codeAny_loop rfl I (fun n s hI => ?_) n h
 show wpAny _ A ((compTurn (.ListComp elt [⟨target, iter, ifs, 0⟩] scope pos) 0 it acc env).onRaise (fun x => do noteFrame x env; theTreesLotGoes x)) _ _ s
 refine wpAny_noted ?_
 rw [compTurn_list]
 refine wpAny_bind (wpAny_standAt (wpAny_bind (wpAny_mono (turn n s hI) (fun r s₁ h₁ => ?_) fun _ _ h' => h')))
 cases r with
 | none => exact wpAny_pure h₁
 | some v =>
  refine wpAny_bind (wpAny_mono h₁ (fun _ s₁' h₁' => ?_) fun _ _ h' => h')
  refine wpAny_bind (wpAny_mono h₁' (fun _ s₂ h₂ => wpAny_bind (wpAny_mono h₂ (fun ok s₃ h₃ => ?_) fun _ _ h' => h')) fun _ _ h' => h')
  cases ok with
  | false => exact wpAny_pure ⟨rfl, h₃⟩
  | true =>
   exact wpAny_bind (wpAny_bind (wpAny_mono h₃ (fun x s₄ h₄ => wpAny_bind (wpAny_mono h₄ (fun _ s₅ h₅ => wpAny_pure (wpAny_pure ⟨rfl, h₅⟩)) fun _ _ h' => h')) fun _ _ h' => h'))
structure PTs (X : Cx) (ifs : List Expr) (t : TT) : Prop where
 run : ∀ (pins : List (Addr × Obj)) (s : Shared) (σ : St) (H : Hp) (Q : Bool → Hp → Prop), Inv X pins σ H s → t σ H Q →
  wpAny (model X.prog X.w) X.A (forIn ifs true fun c r => if r = true then do let ok ← isTrue c X.env (eval c X.env); pure (ForInStep.yield ok) else pure (ForInStep.yield r)) (TP X pins σ Q) X.xe s
instance {X : Cx} {ifs : List Expr} {t : TT} : CoeFun (PTs X ifs t) fun _ => ∀ (pins : List (Addr × Obj)) (s : Shared) (σ : St) (H : Hp) (Q : Bool → Hp → Prop), Inv X pins σ H s → t σ H Q → wpAny (model X.prog X.w) X.A (forIn ifs true fun c r => if r = true then do let ok ← isTrue c X.env (eval c X.env); pure (ForInStep.yield ok) else pure (ForInStep.yield r)) (TP X pins σ Q) X.xe s := ⟨PTs.run⟩
def tTrue : TT := fun _ H Q => Q true H
theorem pts_nil {X : Cx} : PTs X [] tTrue := .mk fun _ _ _ H _ I h => wpAny_tests_nil ⟨H, I, h⟩
theorem pts_one {X : Cx} {c : Expr} {t : TT} (h : PT X c t) : PTs X [c] t := .mk fun pins s σ H Q I q => wpAny_tests_one (h pins s σ H Q I q)
def compCx (X : Cx) (Nc : List Str) (scope : Scope) (cl : List (Str × Addr)) (C : Addr) (s : Shared) (H : Hp) (fp : List Addr) (E : Value → Shared → Prop) : Cx where
 prog := X.prog
 w := X.w
 K := X.K
 mg := X.mg
 base := X.base
 A := X.A
 N := Nc
 s₀ := s
 H₀ := H
 env := compEnvC scope cl C X.env
 outer := X.stack
 stack := X.stack
 ex := fp
 calm := X.calm
 fn := fun _ => false
 pn := []
 xe := E
def CapOk (X : Cx) (scope : Scope) (cl : List (Str × Addr)) (j : Nat) (x : Str) : Prop :=
 X.N[j]? = some x ∧ Vis X.env.scope x ∧ X.env.kindOf x ≠ some .local ∧ (relabel scope X.env).names.lookup x ≠ some .local ∧ ((relabel scope X.env).names.lookup x = some .cell ∨ (relabel scope X.env).names.lookup x = some .free)
structure CompOk (X : Cx) (scope : Scope) (cl : List (Str × Addr)) (own : List Str) (cap : List (Nat × Str)) : Prop where
 clos : closureFor scope X.env = pure cl
 cell : ∀ y ∈ scope.names, y.2 ≠ .cell
 kind : scope.kind = .function
 names : ∀ y ∈ scope.names, y.2 = .local → scope.names.lookup y.1 = some .local
 sub : ∀ x c, cl.lookup x = some c → X.env.cells.lookup x = some c
 has : ∀ p ∈ (relabel scope X.env).names, p.2 = .cell ∨ p.2 = .free → (cl.lookup p.1).isSome = true
 caps : ∀ p ∈ cap, CapOk X scope cl p.1 p.2
def compSt (own : List Str) (cap : List (Nat × Str)) (σ : St) : St := List.replicate own.length none ++ cap.map fun p => (σ[p.1]?).getD none
theorem lookup_mem {α : Type} : ∀ {l : List (Str × α)} {n : Str} {c : α}, l.lookup n = some c → (n, c) ∈ l := fun h => mem_of_lookup h
section
variable {X : Cx} {pins : List (Addr × Obj)} {σ : St} {H : Hp} {s : Shared} {scope : Scope} {cl : List (Str × Addr)} {own : List Str} {cap : List (Nat × Str)} {fp : List Addr} {E : Value → Shared → Prop}
theorem CompOk.hasX (c : CompOk X scope cl own cap) (x : Str) (h : (relabel scope X.env).names.lookup x = some .cell ∨ (relabel scope X.env).names.lookup x = some .free) : ∃ a, cl.lookup x = some a := by
 have : (cl.lookup x).isSome = true := by
  rcases h with h | h
  ·exact c.has (x, .cell) (lookup_mem h) (.inl rfl)
  ·exact c.has (x, .free) (lookup_mem h) (.inr rfl)
 exact Option.isSome_iff_exists.mp this
theorem comp_ok (c : CompOk X scope cl own cap) (I : Inv X pins σ H s) (hf : ∀ b ∈ fp, FpOk X pins H b) (hlt : ∀ b ∈ fp, b < s.heap.objs.size) {C : Addr} (hC : s.heap.objs.size ≤ C) :
  (compCx X (own ++ cap.map (·.2)) scope cl C s H fp E).Ok where
 mod := I.ok.mod
 kind := c.kind
 glob := I.ok.glob
 blt := I.ok.blt
 above := hC
 inj := fun x y a h1 h2 => I.ok.inj x y a (c.sub x a h1) (c.sub y a h2)
 has := fun x h => c.hasX x h
 cab := fun x a h => absurd h (by intro z; exact Bool.noConfusion z)
 hd := I.ok.hd
 frames := I.ok.frames
 stk := .inl rfl
 exf := fun b hb => ⟨fun z => by
   have := hlt b hb
   rw [z] at this
   exact absurd (Nat.lt_of_lt_of_le this hC) (Nat.lt_irrefl _), fun x a h => (hf b hb).2.2.2.2.1 x a (c.sub x a h)⟩
 bs := I.bs
 bsz := Nat.le_trans I.ok.bsz I.sz
 noex := fun b o e hb => by
  rcases (hf b hb).2.2.2.1 with z | z
  ·exact I.ok.noex b o e z
  ·exact absurd (Nat.lt_of_lt_of_le (Heap.lt_size (I.ok.bs b o e).1) z) (Nat.lt_irrefl _)
 exfs := fun b hb hs => by
  rcases List.mem_cons.mp (I.stkSub b hs) with z | z
  ·exact (hf b hb).2.1 z
  ·exact (hf b hb).2.2.1 z
 funs := I.stack
 frf := I.stkFree
theorem compSt_get {own : List Str} {cap : List (Nat × Str)} {σ : St} {i : Nat} {x : Str} {v : V} (h1 : (own ++ cap.map (·.2))[i]? = some x) (h2 : (compSt own cap σ)[i]? = some (some v)) : ∃ p ∈ cap, p.2 = x ∧ σ[p.1]? = some (some v) := by
 unfold compSt at h2
 by_cases hi : i < own.length
 ·rw [List.getElem?_append_left (by simpa using hi), List.getElem?_replicate] at h2
  split at h2 <;> cases h2
 ·rw [List.getElem?_append_right (by simpa using hi)] at h2 h1
  rw [List.length_replicate, List.getElem?_map] at h2
  rw [List.getElem?_map] at h1
  cases e : cap[i - own.length]? with
  | none => rw [e] at h2; cases h2
  | some p =>
   rw [e] at h1 h2
   refine ⟨p, List.mem_of_getElem? e, Option.some.inj h1, ?_⟩
   have h3 : (σ[p.1]?).getD none = some v := Option.some.inj h2
   cases q : σ[p.1]? with
   | none => rw [q] at h3; cases h3
   | some z => rw [q] at h3; exact congrArg some h3
theorem comp_inv (c : CompOk X scope cl own cap) (I : Inv X pins σ H s) (hf : ∀ b ∈ fp, FpOk X pins H b) (hlt : ∀ b ∈ fp, b < s.heap.objs.size) {h₁ : Heap} {tk : Nat} {m : Str → Option Value}
  (hk : ∀ b o, s.heap.get? b = some o → h₁.get? b = some o) (hD : h₁.get? s.heap.objs.size = some { cls := .type "list", data := .seq ([] : List Value).toArray }) (hn : h₁.Ns (s.heap.objs.size + 1) m) :
  Inv (compCx X (own ++ cap.map (·.2)) scope cl (s.heap.objs.size + 1) s H fp E) [] (compSt own cap σ) (upd H s.heap.objs.size (.lst [])) { s with heap := h₁, toks := tk } := by
 have hfr : H s.heap.objs.size = none := I.fresh
 have hfr1 : H (s.heap.objs.size + 1) = none := I.hok.fresh (Nat.le_succ _)
 have hnew : ObjOk X.prog X.w (upd H s.heap.objs.size (.lst [])) h₁ s.heap.objs.size (.lst []) := ⟨Nat.zero_le _, [], 0, .nil, hD⟩
 refine ⟨comp_ok c I hf hlt (Nat.le_succ _), rfl, I.bare, Un.laid hk (Nat.le_refl _) hfr, ⟨m, hn, fun i x v e1 e2 _ => ?_⟩, fun x a e => ?_, ?_, fun x a e => ?_, fun p hp => absurd (show p ∈ ([] : List (Addr × Obj)) from hp) (by simp), I.hok.laid hk (Nat.le_refl _) hnew, ?_⟩
 ·obtain ⟨p, hp, ex, es⟩ := compSt_get e1 e2
  obtain ⟨q1, q2, q3, q4, q5⟩ := c.caps p hp
  rw [ex] at q1 q2 q3 q4 q5
  obtain ⟨m', hn', hl⟩ := I.loc
  obtain ⟨u, r, l⟩ := hl p.1 x v q1 es q2
  refine ⟨u, r, ?_⟩
  rcases l with l | ⟨k, a, e, z⟩
  ·exact absurd l.1 q3
  ·obtain ⟨a', e'⟩ := c.hasX x q5
   have ea := c.sub x a' e'
   rw [e] at ea
   cases ea
   exact .inr ⟨q5, a, e', z.keeps hk⟩
 ·obtain ⟨v, z⟩ := I.cell x a (c.sub x a e)
  exact ⟨v, z.keeps hk⟩
 ·show upd H s.heap.objs.size (.lst []) (s.heap.objs.size + 1) = none
  rw [upd_ne (Nat.succ_ne_self _)]
  exact hfr1
 ·obtain ⟨v, z⟩ := I.cell x a (c.sub x a e)
  show upd H s.heap.objs.size (.lst []) a = none
  rw [upd_ne (Nat.ne_of_lt z.lt)]
  exact I.freeC x a (c.sub x a e)
 ·show (compSt own cap σ).length = (own ++ cap.map (·.2)).length
  simp [compSt]
theorem comp_after {s2 : Shared} {H' : Hp} {σ' : St} {C : Addr} {Nc : List Str} {pins' : List (Addr × Obj)} (I : Inv X pins σ H s) (hf : ∀ b ∈ fp, FpOk X pins H b) (hC : s.heap.objs.size ≤ C) (J : Inv (compCx X Nc scope cl C s H fp E) pins' σ' H' s2) :
  Inv X pins σ H' s2 ∧ FpOk X pins H' C := by
 have os : s2.os = s.os := J.os
 have un : Un (frs X.stack) fp H H' s.heap s2.heap := J.base
 exact ⟨I.call' os un J.hok J.bare fun b hb => ⟨(hf b hb).2.2.2.1, (hf b hb).2.1, (hf b hb).2.2.2.2.1, (hf b hb).2.2.2.2.2⟩, I.fpOk hC J.free⟩
end
def tComp (wi : TI) (g : TG) (tc : TT) (te : TE) (own : List Str) (cap : List (Nat × Str)) : TE := fun σ H Q => wi σ H fun J H1 => ∀ D, H1 D = none →
 ∃ W : Nat → Nat → St → List V → Hp → Prop, (∃ m, W 0 m (compSt own cap σ) [] (upd H1 D (.lst []))) ∧ ∀ i m σ' ys H', W i m σ' ys H' → H' D = some (.lst ys) ∧
  ((J.stop i H' ∧ Q (.ref D) H') ∨ (J.go i H' ∧ ys.length < sizeLine ∧ ∃ N : St → List V → Hp → Prop, (∀ σ ys H, N σ ys H → ∃ m', m' < m ∧ W (i + 1) m' σ ys H) ∧ ∀ x H2, J.yld i H' x H2 → g x σ' H2 fun σ3 H3 => tc σ3 H3 fun b H4 => if b = true then te σ3 H4 fun y H5 => H5 D = some (.lst ys) ∧ N σ3 (ys ++ [y]) (upd H5 D (.lst (ys ++ [y])))
   else N σ3 ys H4))
section
variable {X : Cx} {scope : Scope} {cl : List (Str × Addr)} {own : List Str} {cap : List (Nat × Str)} {tg iter elt : Expr} {ifs : List Expr} {wi : TI} {g : TG} {tc : TT} {te : TE} {pos : Pos}
theorem comp_block {pins : List (Addr × Obj)} {σ : St} {s2 : Shared} {H2 : Hp} {it : Addr} {fp : List Addr} {tn : Nat → Heap → Prop} {J : It} {Q : VK} {RR : Value → Addr → Result → Shared → Prop} {E' : Value → Shared → Prop}
  (c : CompOk X scope cl own cap) (hc : X.calm = true)
  (hg : ∀ C s H fp, PG (compCx X (own ++ cap.map (·.2)) scope cl C s H fp fun _ _ => False) tg g) (ht : ∀ C s H fp, PTs (compCx X (own ++ cap.map (·.2)) scope cl C s H fp fun _ _ => False) ifs tc)
  (he : ∀ C s H fp, PE (compCx X (own ++ cap.map (·.2)) scope cl C s H fp fun _ _ => False) elt te)
  (I2 : Inv X pins σ H2 s2) (T : Turn X.prog X.w X.K tg J fp it tn) (st2 : tn 0 s2.heap) (f2 : ∀ b ∈ fp, FpOk X pins H2 b)
  (hw : ∀ D, H2 D = none → ∃ W : Nat → Nat → St → List V → Hp → Prop, (∃ m, W 0 m (compSt own cap σ) [] (upd H2 D (.lst []))) ∧ ∀ i m σ' ys H', W i m σ' ys H' → H' D = some (.lst ys) ∧
   ((J.stop i H' ∧ Q (.ref D) H') ∨ (J.go i H' ∧ ys.length < sizeLine ∧ ∃ N : St → List V → Hp → Prop, (∀ σ ys H, N σ ys H → ∃ m', m' < m ∧ W (i + 1) m' σ ys H) ∧ ∀ x H2, J.yld i H' x H2 → g x σ' H2 fun σ3 H3 => tc σ3 H3 fun b H4 => if b = true then te σ3 H4 fun y H5 => H5 D = some (.lst ys) ∧ N σ3 (ys ++ [y]) (upd H5 D (.lst (ys ++ [y])))
    else N σ3 ys H4)))
  (hRR : ∀ D C s' H' m, Inv X pins σ H' s' → FpOk X pins H' C → s'.heap.Ns C m → Q (.ref D) H' → RR (.ref D) C (.ok .next) s') :
  wpAny (model X.prog X.w) X.A (newList []) (fun acc s₃ => wpAny (model X.prog X.w) X.A (newFunctionEnv scope X.env.globals cl [] X.env.qual none .none (some X.env)) (fun cenv s₄ =>
   codeAny (model X.prog X.w) X.A (.compStart (.ListComp elt [⟨tg, iter, ifs, 0⟩] scope pos) 0 (.ref it) acc { cenv with scope := relabel scope X.env }) (RR acc cenv.locals) s₄) E' s₃) E' s2 := by
 refine wpAny_newObj_type (wpAny_newFunctionEnv c.cell (by intro y hy; simp at hy) (fun h₁ hns₁ hsb₁ => ?_) c.kind)
 dsimp only at hns₁ hsb₁ ⊢
 have hsz : (s2.heap.push { cls := .type "list", dict := none, data := .seq ([] : List Value).toArray }).objs.size = s2.heap.objs.size + 1 := Heap.size_push _ _
 have kk : ∀ b o, s2.heap.get? b = some o → h₁.get? b = some o := fun b o e => hsb₁.extBut b o (by rw [hsz]; exact Nat.ne_of_lt (Nat.lt_succ_of_lt (Heap.lt_size e))) (Heap.get?_push_of_some _ (Heap.get?_push_of_some _ e))
 have hD : h₁.get? s2.heap.objs.size = some { cls := .type "list", data := .seq ([] : List Value).toArray } :=
  hsb₁.extBut _ _ (by rw [hsz]; exact Nat.ne_of_lt (Nat.lt_succ_self _)) (Heap.get?_push_of_some _ (Heap.get?_push_size _ rfl))
 rw [hsz] at hns₁ ⊢
 have hlt : ∀ b ∈ fp, b < s2.heap.objs.size := fun b hb => by
  obtain ⟨o, e, _⟩ := T.obj _ _ st2 b hb
  exact Heap.lt_size e
 obtain ⟨W, ⟨m0, w0⟩, turn⟩ := hw s2.heap.objs.size I2.fresh
 have J1 := comp_inv (E := fun _ _ => False) c I2 f2 hlt (tk := s2.toks + ([] : List (Str × Value)).length) kk hD hns₁
 generalize hX' : compCx X (own ++ cap.map (·.2)) scope cl (s2.heap.objs.size + 1) s2 H2 fp (fun _ _ => False) = X' at J1
 have hg' : PG X' tg g := hX' ▸ hg _ _ _ _
 have ht' : PTs X' ifs tc := hX' ▸ ht _ _ _ _
 have he' : PE X' elt te := hX' ▸ he _ _ _ _
 have pX : X'.prog = X.prog := by rw [← hX']; rfl
 have wX : X'.w = X.w := by rw [← hX']; rfl
 have kX : X'.K = X.K := by rw [← hX']; rfl
 have aX : X'.A = X.A := by rw [← hX']; rfl
 have cX : X'.calm = true := by rw [← hX']; exact hc
 have nX : X'.env = compEnvC scope cl (s2.heap.objs.size + 1) X.env := by rw [← hX']; rfl
 have xX : X'.xe = fun _ _ => False := by rw [← hX']; rfl
 have fX : ∀ b ∈ fp, ∀ {H' : Hp}, H' b = none → FpOk X' [] H' b := fun b hb {H'} hn => by
  have o1 := (comp_ok (E := fun _ _ => False) c I2 f2 hlt (C := s2.heap.objs.size + 1) (Nat.le_succ _)).exf b hb
  have o2 := (comp_ok (E := fun _ _ => False) c I2 f2 hlt (C := s2.heap.objs.size + 1) (Nat.le_succ _)).exfs b hb
  rw [← hX']
  exact ⟨hn, o1.1, o2, .inl hb, o1.2, fun p hp => absurd (show p ∈ ([] : List (Addr × Obj)) from hp) (by simp)⟩
 have fin : ∀ {σ' : St} {H' : Hp} {s' : Shared}, Inv X' [] σ' H' s' → Q (.ref s2.heap.objs.size) H' → RR (.ref s2.heap.objs.size) (s2.heap.objs.size + 1) (.ok .next) s' := fun {σ' H' s'} J' q => by
  rw [← hX'] at J'
  obtain ⟨A1, A2⟩ := comp_after I2 f2 (Nat.le_succ _) J'
  obtain ⟨m, hm, _⟩ := J'.loc
  exact hRR _ _ s' H' m A1 A2 hm q
 have loop : codeAny (model X.prog X.w) X.A (.compLoop (.ListComp elt [⟨tg, iter, ifs, 0⟩] scope pos) 0 (.ref it) (.ref s2.heap.objs.size) (compEnvC scope cl (s2.heap.objs.size + 1) X.env)) (RR (.ref s2.heap.objs.size) (s2.heap.objs.size + 1))
   { s2 with heap := h₁, toks := s2.toks + ([] : List (Str × Value)).length } := by
  refine compLoop_any (fun n s' => ∃ i σ' ys H', Inv X' [] σ' H' s' ∧ tn i s'.heap ∧ (∀ b ∈ fp, H' b = none) ∧ W i n σ' ys H') ?_ m0
   ⟨0, _, [], _, J1, T.keep _ _ _ st2 fun b _ o e => kk b o e, fun b hb => by rw [upd_ne (Nat.ne_of_lt (hlt b hb))]; exact (f2 b hb).1, w0⟩
  rintro n s3 ⟨i, σ3, ys, H3, I3, st3, fr3, w3⟩
  obtain ⟨hDl, w4⟩ := turn i n σ3 ys H3 w3
  rw [← nX, ← aX, ← pX, ← wX]
  have nox : ∀ {α : Type} {t : Sem α} {Q1 : α → Shared → Prop} {E1 : Value → Shared → Prop} {s : Shared}, wpAny (model X'.prog X'.w) X'.A t Q1 X'.xe s → wpAny (model X'.prog X'.w) X'.A t Q1 E1 s := fun {α t Q1 E1 s} h => by
   rw [xX] at h
   exact wpAny_mono h (fun _ _ q => q) fun _ _ f => f.elim
  rcases w4 with ⟨stop, qn⟩ | ⟨go, hys, N, hN, step⟩
  ·have d := T.done X' pX wX kX cX i [] s3 σ3 H3 X'.xe I3 (fun b hb => fX b hb (fr3 b hb)) st3 stop
   rw [← pX, ← wX] at d
   refine nox (thn d fun r s4 ⟨hr, I4⟩ => ?_)
   subst hr
   exact fin I4 qn
  ·have d := T.item X' pX wX kX cX i [] s3 σ3 H3 X'.xe I3 (fun b hb => fX b hb (fr3 b hb)) st3 go
   rw [← pX, ← wX] at d
   refine nox (thn d fun r s4 ⟨u, hr, h4⟩ => ?_)
   subst hr
   refine nox (thn h4 fun _ s5 ⟨x, H5, I5, r5, y5, st5, fr5⟩ => ?_)
   have I5' := I5.pinned (fun b hb => fX b hb (fr5 b hb)) (T.obj _ _ st5)
   have again : ∀ {σ7 : St} {H7 : Hp} {s7 : Shared} {ys' : List V}, Inv X' ([] ++ pinsAt fp s5.heap) σ7 H7 s7 → N σ7 ys' H7 →
     ∃ m, m < n ∧ ∃ i σ' ys H', Inv X' [] σ' H' s7 ∧ tn i s7.heap ∧ (∀ b ∈ fp, H' b = none) ∧ W i m σ' ys H' := fun {σ7 H7 s7 ys'} I7 n7 => by
    obtain ⟨m', hm, w7⟩ := hN _ _ _ n7
    refine ⟨m', hm, i + 1, σ7, ys', H7, I7.unpinned, T.keep _ _ _ st5 fun b hb o e => (I7.pin (b, o) (List.mem_append_right _ (List.mem_append_right _ (mem_pinsAt hb e)))).1, fun b hb => ?_, w7⟩
    obtain ⟨o, e, d⟩ := T.obj _ _ st5 b hb
    exact (I7.pin (b, o) (List.mem_append_right _ (List.mem_append_right _ (mem_pinsAt hb e)))).2.1
   refine nox (thn (hg' _ s5 σ3 H5 x u _ I5' r5 (step x H5 y5)) fun _ s6 ⟨σ6, H6, I6, q6⟩ => ?_)
   refine nox (thn (ht' _ s6 σ6 H6 _ I6 q6) fun b s7 ⟨H7, I7, q7⟩ => ?_)
   cases b with
   | false =>
    rw [if_neg Bool.false_ne_true] at q7 ⊢
    exact again I7 q7
   | true =>
    rw [if_pos rfl] at q7 ⊢
    refine nox (thn (he' _ s7 σ6 H7 _ I7 q7) fun u8 s8 ⟨y8, H8, I8, r8, d8, q8⟩ => ?_)
    refine nox (thn (mt_append _ s8 σ6 H8 (.ref s2.heap.objs.size) [y8] (.ref s2.heap.objs.size) [u8] (fun _ H9 => N σ6 (ys ++ [y8]) H9) I8 rfl (.cons r8 .nil) ⟨_, ys, y8, rfl, rfl, d8, hys, q8⟩) fun _ s9 ⟨_, H9, I9, _, q9⟩ => ?_)
    exact again I9 q9
 exact codeAny_compStart_list loop (T.self X.A 0 _ _ _ (T.keep _ _ _ st2 fun b _ o e => kk b o e) loop)
theorem pe_comp (c : CompOk X scope cl own cap) (hc : X.calm = true) (hi : PI X tg iter wi)
  (hg : ∀ C s H fp, PG (compCx X (own ++ cap.map (·.2)) scope cl C s H fp fun _ _ => False) tg g) (ht : ∀ C s H fp, PTs (compCx X (own ++ cap.map (·.2)) scope cl C s H fp fun _ _ => False) ifs tc)
  (he : ∀ C s H fp, PE (compCx X (own ++ cap.map (·.2)) scope cl C s H fp fun _ _ => False) elt te) (hs : ∀ x, foldedSetIterable iter X.env x = pure x := by intro _; rfl) :
  PE X (.ListComp elt [⟨tg, iter, ifs, 0⟩] scope pos) (tComp wi g tc te own cap) := by
 refine .mk ?_
 intro pins s σ H Q I h
 rw [eval_ListComp]
 refine wpAny_comprehension_free (use := none) rfl hs c.clos c.kind c.names (thn (hi pins s σ H _ I h) fun v s1 h1 => thn h1 fun itv s2 h2 => ?_)
 obtain ⟨it, fp, tn, J, H2, e, I2, T, st2, f2, hw⟩ := h2
 subst e
 refine comp_block (Q := Q) (RR := fun acc C => compPost (model X.prog X.w) X.A X.xe none (EP X pins σ Q) acc C) c hc hg ht he I2 T st2 f2 hw ?_
 intro D C s' H' m I' hC hm q
 refine ⟨m, hm, fun h' hs' => ⟨.ref D, H', ?_, rfl, q⟩⟩
 exact I'.turned (t' := s'.toks) (fun b o hb e => (hs'.2 b hb).trans e) hC.1 hC.2.1 hC.2.2.2.1 hC.2.2.2.2.1 hC.2.2.2.2.2
end
section
variable {K : PySem.W.Frag} {a : Addr} {xs : List V} {g : TG} {tc : TT} {te : TE} {own : List Str} {cap : List (Nat × Str)} {σ : St} {H1 : Hp} {QD : Hp → Prop} {D : Addr}
end
end L2
set_option Elab.async false
set_option linter.all false
set_option maxRecDepth 100000
namespace L2
open PySem PySem.Spec PyProof.Rows
section
variable {X : Cx}
end
section
variable {prog : Program} {w : World} {A : Around} {R : Result → Shared → Prop} {I : Addr} {fp wr : List Addr} {n : Nat} {P : Nat → Value → Prop} {St : Nat → Heap → Prop}
end
def topOf : List Int → Int
 | [] => 0
 | [x] => x
 | x :: y :: r => max x (topOf (y :: r))
theorem topOf_mem : ∀ {ns : List Int}, ns ≠ [] → topOf ns ∈ ns
 | [x], _ => by simp [topOf]
 | x :: y :: r, _ => by
  have ih := topOf_mem (ns := y :: r) (by simp)
  rw [topOf]
  by_cases h : x ≤ topOf (y :: r)
  ·rw [Int.max_eq_right h]; exact List.mem_cons_of_mem _ ih
  ·rw [Int.max_eq_left (by omega)]; exact List.mem_cons_self
theorem topOf_ge : ∀ {ns : List Int} {a : Int}, a ∈ ns → a ≤ topOf ns
 | [x], a, h => by simp at h; subst h; simp [topOf]
 | x :: y :: r, a, h => by
  rw [topOf]
  rcases List.mem_cons.mp h with rfl | h
  ·exact Int.le_max_left _ _
  ·exact Int.le_trans (topOf_ge h) (Int.le_max_right _ _)
theorem topOf_of {ns : List Int} {M : Int} (h1 : M ∈ ns) (h2 : ∀ a ∈ ns, a ≤ M) : M = topOf ns :=
 Int.le_antisymm (topOf_ge h1) (h2 _ (topOf_mem (by intro z; rw [z] at h1; cases h1)))
section
variable {X : Cx} {x : Str} {e v : Expr} {te tv : TE} {p pos kpos : Pos}
end
section
variable {X : Cx}
end
def cutN {α : Type} (xs : List α) (lo hi : Option Int) : List α := (xs.drop (HT.sIx xs.length 0 lo)).take (HT.sIx xs.length xs.length hi - HT.sIx xs.length 0 lo)
theorem cutN_length {α : Type} (xs : List α) (lo hi : Option Int) : (cutN xs lo hi).length ≤ xs.length := by
 unfold cutN
 rw [List.length_take, List.length_drop]
 omega
theorem clip1 (v : Int) (n d : Nat) : max (0 : Int) (min (if v < 0 then v + (n : Int) else v) (n : Int)) = ((HT.sIx n d (some v) : Nat) : Int) := by
 show _ = (((if v < 0 then (v + (n : Int)).toNat else min v.toNat n) : Nat) : Int)
 by_cases hv : v < 0
 ·rw [if_pos hv, if_pos hv]; omega
 ·rw [if_neg hv, if_neg hv]; omega
theorem idx_clip (lo hi : Option Int) (n : Nat) : Builtin.Str.strSliceIndices lo hi 1 n = Builtin.Str.strSliceIndices (some ((HT.sIx n 0 lo : Nat) : Int)) (some ((HT.sIx n n hi : Nat) : Int)) 1 n := by
 have a1 := HT.sIx_le n 0 (Nat.zero_le _) lo
 have a2 := HT.sIx_le n n (Nat.le_refl _) hi
 have n1 : ¬ (((HT.sIx n 0 lo : Nat) : Int) < 0) := by omega
 have n2 : ¬ (((HT.sIx n n hi : Nat) : Int) < 0) := by omega
 have e1 : max (0 : Int) (min ((HT.sIx n 0 lo : Nat) : Int) (n : Int)) = ((HT.sIx n 0 lo : Nat) : Int) := by omega
 have e2 : max (0 : Int) (min ((HT.sIx n n hi : Nat) : Int) (n : Int)) = ((HT.sIx n n hi : Nat) : Int) := by omega
 have p1 : ((1 : Int) > 0) = True := by simp
 simp only [Builtin.Str.strSliceIndices, n1, n2, if_false, e1, e2, p1, if_true]
 cases lo with
 | none =>
  cases hi with
  | none => rfl
  | some v => simp only [clip1 v n n]; rfl
 | some u =>
  cases hi with
  | none => simp only [clip1 u n 0]; rfl
  | some v => simp only [clip1 u n 0, clip1 v n n]
theorem idx_none {a b n : Nat} (h : b ≤ a) : Builtin.Str.strSliceIndices (some (a : Int)) (some (b : Int)) 1 n = [] := by
 have n1 : ¬ ((a : Int) < 0) := by omega
 have n2 : ¬ ((b : Int) < 0) := by omega
 have p1 : ((1 : Int) > 0) = True := by simp
 have p2 : ¬ (max (0 : Int) (min (a : Int) (n : Int)) < max (0 : Int) (min (b : Int) (n : Int))) := by omega
 simp only [Builtin.Str.strSliceIndices, PySem.sliceRange, n1, n2, if_false, p1, if_true, p2]
 rfl
theorem strIdx_cut (x : Str) (lo hi : Option Int) : (StrLaws.sliceText x lo hi).cps.toList = cutN x.cps.toList lo hi := by
 have hn : x.cps.toList.length = x.length := by simp [Str.length]
 unfold cutN
 rw [hn]
 have a2 := HT.sIx_le x.length x.length (Nat.le_refl _) hi
 by_cases h : HT.sIx x.length 0 lo ≤ HT.sIx x.length x.length hi
 ·have q := StrLaws.sliceText_nat x h a2
  have e : StrLaws.sliceText x lo hi = StrLaws.sliceText x (some ((HT.sIx x.length 0 lo : Nat) : Int)) (some ((HT.sIx x.length x.length hi : Nat) : Int)) := by
   unfold StrLaws.sliceText
   rw [idx_clip lo hi x.length]
  rw [e, q]
 ·have z : HT.sIx x.length x.length hi - HT.sIx x.length 0 lo = 0 := by omega
  rw [z, List.take_zero]
  unfold StrLaws.sliceText
  rw [idx_clip lo hi x.length, idx_none (by omega)]
  split
  ·rename_i c
   have c' : (0 : Nat) = x.length := by simpa using c
   exact List.eq_nil_of_length_eq_zero (by rw [hn]; exact c'.symm)
  ·rfl
def rSlS : V → Option Int → Option Int → Hp → VK → Prop := fun x lo hi H Q => ∃ z : Str, x = .str z ∧ z.length ≤ sizeLine ∧ ∀ y : Str, y.cps.toList = cutN z.cps.toList lo hi → Q (.str y) H
theorem sl_str {X : Cx} : SlR X rSlS := by
 intro pins s σ H x v vl vu lo hi sl Q I rx hs pl pu h
 obtain ⟨z, rfl, hz, q⟩ := h
 obtain ⟨t, rfl⟩ := rx
 refine ⟨"str", _, F.slot_str_getitem.lookup, typeIs_str _ z t, ?_⟩
 have fin : ∀ (l u : Option (Int × Tok)), l.map (·.1) = lo → u.map (·.1) = hi → s.heap.IsSlice sl l u none → wpAny (model X.prog X.w) X.A (getItem (.str z t) (.ref sl)) (EP X pins σ Q) X.xe s := fun l u el eu hq => by
  refine wpAny_getItem_str_slice hq rfl ?_
  have hc := strIdx_cut z lo hi
  unfold StrLaws.sliceText at hc
  unfold sliceMade slicePicked
  rw [el, eu]
  show (if ((1 : Int) == 1 && (Builtin.Str.strSliceIndices lo hi 1 z.length).length == z.length) = true then Made.val (.str z t) else .str ⟨((Builtin.Str.strSliceIndices lo hi 1 z.length).filterMap (z.cps[·]?)).toArray⟩).post (EP X pins σ Q) s
  split
  ·rename_i c
   rw [if_pos c] at hc
   exact ⟨.str z, H, I, ⟨t, rfl⟩, q z hc⟩
  ·rename_i c
   rw [if_neg c] at hc
   have hl : (Str.mk ((Builtin.Str.strSliceIndices lo hi 1 z.length).filterMap (z.cps[·]?)).toArray).length ≤ z.length := by
    have e := cutN_length z.cps.toList lo hi
    rw [← hc] at e
    simpa [Str.length] using e
   exact ⟨Nat.le_trans hl hz, .str ⟨((Builtin.Str.strSliceIndices lo hi 1 z.length).filterMap (z.cps[·]?)).toArray⟩, H, I.tok _, ⟨_, rfl⟩, q _ hc⟩
 cases pl with
 | none =>
  cases pu with
  | none => exact fin none none rfl rfl hs
  | int j t' => exact fin none (some (j, t')) rfl rfl hs
 | int i t'' =>
  cases pu with
  | none => exact fin (some (i, t'')) none rfl rfl hs
  | int j t' => exact fin (some (i, t'')) (some (j, t')) rfl rfl hs
section
variable {X : Cx} {x : Expr} {te : TE} {p p2 pos : Pos} {T : Str} {Ty : String}
def tInst (K : PySem.W.Frag) (Ty : String) (te : TE) : TE := fun σ H Q => te σ H fun v H1 => ∃ v', [v, V.ty Ty] = [v', V.ty Ty] ∧ ∃ t b, TyOf K H1 v' t ∧ PySem.W.kitOne K t (.type Ty) = some b ∧ Q (.bl b) H1
theorem pe_inst (hg : Gl X "isinstance") (hm : X.mg "isinstance" = none) (hgT : Gl X T) (hmT : X.mg T = none) (hvT : bootBuiltins T = some (.type Ty)) (he : PE X x te) (hn : T ≠ "__name__" := by decide) (hdT : (T == ("__debug__" : Str)) = false := by decide)
  (hs : starEach [x, .Name T p2] X.env = (false, eval x X.env) :: starEach [.Name T p2] X.env := by rfl) (hs2 : starEach [.Name T p2] X.env = [(false, eval (.Name T p2) X.env)] := by rfl)
  (hpl : (backTo pos (starEach [.Name T p2] X.env)).any (·.1) = false := by rfl) :
  PE X (.Call (.Name "isinstance" p) [x, .Name T p2] [] pos) (tInst X.K Ty te) := by
 have c : CallR X (.builtin "isinstance") (fun xs H Q => ∃ v, xs = [v, .ty Ty] ∧ ∃ t b, TyOf X.K H v t ∧ PySem.W.kitOne X.K t (.type Ty) = some b ∧ Q (.bl b) H) := by
  intro pins s σ H xs us Q I r h
  obtain ⟨v, rfl, t, b, ty, e, q⟩ := h
  obtain ⟨u, w', rfl, ru, rw'⟩ := vals2 r
  cases (show w' = Value.type Ty from rw')
  exact isinst_ok I ru ty e fun tk => ⟨.bl b, H, I.tok tk, rfl, q⟩
 have pa : PA X [x, .Name T p2] (tCons te (tCons (tC (.ty Ty)) tNil)) := pa_cons he (pa_cons (pe_bltn hgT hmT hvT rfl hn hdT) pa_nil hs2) hs
 exact pe_callB (p := p) (pos := pos) c hg hm PyProof.Rows.boot_isinstance pa (by decide) (by decide) hs hpl
end
end L2
set_option Elab.async false
set_option linter.all false
set_option maxRecDepth 100000
namespace L2
open PySem PySem.Spec PyProof.Rows
def Callee (P : Program) (w : World) (K : PySem.W.Frag) (mg : Str → Option Value) (base : Heap) (x : Str) (k : Nat) (ps : List Str) (sp : Sp) : Prop :=
 ∃ f fd, FnOk P w K mg base CX0 k f fd ps sp ∧ mg x = some (.ref f) ∧ PySem.W.keepIn K (.ref f) = true ∧ Binds K fd ps []
theorem Callee.mono {P : Program} {w : World} {K : PySem.W.Frag} {mg : Str → Option Value} {base : Heap} {x : Str} {j k : Nat} {ps : List Str} {sp : Sp} (c : Callee P w K mg base x j ps sp) (h : j ≤ k) : Callee P w K mg base x k ps sp := by
 obtain ⟨f, fd, F, m, kp, b⟩ := c
 exact ⟨f, fd, F.mono h, m, kp, b⟩
theorem Callee.imp {P : Program} {w : World} {K : PySem.W.Frag} {mg : Str → Option Value} {base : Heap} {x : Str} {k : Nat} {ps : List Str} {sp sp' : Sp} (c : Callee P w K mg base x k ps sp) (h : ∀ vs H Q E, sp' vs H Q E → sp vs H Q E) : Callee P w K mg base x k ps sp' := by
 obtain ⟨f, fd, F, m, kp, b⟩ := c
 exact ⟨f, fd, F.imp h, m, kp, b⟩
section
variable {X : Cx} {x : Str} {k j : Nat} {ps : List Str} {sp : Sp} {p pos : Pos} {e : Expr} {es : List Expr} {t : TA}
theorem pe_callC (c : Callee X.prog X.w X.K X.mg X.base x k ps sp) (hr : Room j X.A) (hk : k ≤ j) (hg : Gl X x) (ha : PA X (e :: es) t) (hdb : (x == ("__debug__" : Str)) = false := by decide)
  (he : starEach (e :: es) X.env = (false, eval e X.env) :: starEach es X.env := by rfl) (hpl : (backTo pos (starEach es X.env)).any (·.1) = false := by rfl) : PE X (.Call (.Name x p) (e :: es) [] pos) (tCall sp [] E0 t) := by
 obtain ⟨f, fd, F, m, kp, b⟩ := c
 exact pe_call F (hr.mono hk) hg m kp b .nil pass0 ha hdb he hpl
end
section
variable {X : Cx} {scope : Scope} {own : List Str}
theorem mem_relabel {env : Env} {p : Str × NameKind} (h : p ∈ (relabel scope env).names) : ∃ q ∈ scope.names, q.1 = p.1 ∧ (p.2 = q.2 ∨ (q.2 = .free ∧ p.2 = .cell)) := by
 obtain ⟨q, hq, e⟩ := List.mem_map.mp (show p ∈ scope.names.map _ from h)
 refine ⟨q, hq, ?_⟩
 obtain ⟨n, k⟩ := q
 dsimp only at e
 split at e
 ·rename_i c
  subst e
  refine ⟨rfl, .inr ⟨?_, rfl⟩⟩
  simp only [Bool.and_eq_true, beq_iff_eq] at c
  exact c.1.1
 ·subst e
  exact ⟨rfl, .inl rfl⟩
theorem compOk0 (hk : scope.kind = .function) (hn : ∀ y ∈ scope.names, y.2 ≠ .free ∧ y.2 ≠ .cell) (hl : ∀ y ∈ scope.names, y.2 = .local → scope.names.lookup y.1 = some .local) : CompOk X scope [] own [] where
 clos := closureFor_none fun y hy => (hn y hy).1
 cell := fun y hy => (hn y hy).2
 kind := hk
 names := hl
 sub := fun x c h => nomatch h
 has := fun p hp h => by
  obtain ⟨q, hq, e1, e2⟩ := mem_relabel hp
  have n := hn q hq
  rcases e2 with e2 | ⟨e2, _⟩
  ·rw [e2] at h
   rcases h with h | h
   ·exact absurd h n.2
   ·exact absurd h n.1
  ·exact absurd e2 n.1
 caps := fun p hp => nomatch hp
def AllCl (cells : List (Str × Addr)) : List (Str × Addr) → Prop
 | [] => True
 | p :: r => cells.lookup p.1 = some p.2 ∧ AllCl cells r
theorem AllCl.mem {cells : List (Str × Addr)} : ∀ {cl : List (Str × Addr)}, AllCl cells cl → ∀ p ∈ cl, cells.lookup p.1 = some p.2
 | [], _, p, h => nomatch h
 | q :: r, h, p, hp => by
  rcases List.mem_cons.mp hp with rfl | hp
  ·exact h.1
  ·exact AllCl.mem h.2 p hp
def AllCap (X : Cx) (scope : Scope) : List (Nat × Str) → Prop
 | [] => True
 | p :: r => (X.N[p.1]? = some p.2 ∧ X.env.kindOf p.2 = some .cell ∧ (relabel scope X.env).names.lookup p.2 = some .cell) ∧ AllCap X scope r
theorem AllCap.mem : ∀ {cap : List (Nat × Str)}, AllCap X scope cap → ∀ p ∈ cap, X.N[p.1]? = some p.2 ∧ X.env.kindOf p.2 = some .cell ∧ (relabel scope X.env).names.lookup p.2 = some .cell
 | [], _, p, h => nomatch h
 | q :: r, h, p, hp => by
  rcases List.mem_cons.mp hp with rfl | hp
  ·exact h.1
  ·exact AllCap.mem h.2 p hp
theorem compOkC {cl : List (Str × Addr)} {cap : List (Nat × Str)} (hk : scope.kind = .function) (hn : ∀ y ∈ scope.names, y.2 ≠ .cell) (hl : ∀ y ∈ scope.names, y.2 = .local → scope.names.lookup y.1 = some .local)
  (hc : closureFor scope X.env = pure cl) (ha : AllCl X.env.cells cl) (hh : ((relabel scope X.env).names.all fun p => !(p.2 == .cell || p.2 == .free) || (cl.lookup p.1).isSome) = true) (hcap : AllCap X scope cap) : CompOk X scope cl own cap where
 clos := hc
 cell := hn
 kind := hk
 names := hl
 sub := fun x c h => ha.mem _ (mem_of_lookup h)
 has := fun p hp h => by
  have q := List.all_eq_true.mp hh p hp
  rcases h with h | h <;> · rw [h] at q; simpa using q
 caps := fun p hp => by
  obtain ⟨h1, h2, h3⟩ := hcap.mem p hp
  exact ⟨h1, .inr (.inl h2), by rw [h2]; decide, by rw [h3]; decide, .inl h3⟩
end
theorem bt_bool : bootBuiltins "bool" = some (.type "bool") := by decide +kernel
theorem bt_int : bootBuiltins "int" = some (.type "int") := by decide +kernel
theorem bt_str : bootBuiltins "str" = some (.type "str") := by decide +kernel
theorem bt_tuple : bootBuiltins "tuple" = some (.type "tuple") := by decide +kernel
theorem bt_list : bootBuiltins "list" = some (.type "list") := by decide +kernel
def Kp (l : List Addr) (H H' : Hp) : Prop := ∀ b o, b ∉ l → H b = some o → H' b = some o
theorem Kp.refl {l : List Addr} (H : Hp) : Kp l H H := fun _ _ _ h => h
theorem Kp.trans {l : List Addr} {H H1 H2 : Hp} (a : Kp l H H1) (b : Kp l H1 H2) : Kp l H H2 := fun c o n h => b c o n (a c o n h)
theorem Kp.mono {l l' : List Addr} {H H1 : Hp} (a : Kp l H H1) (s : ∀ b ∈ l, b ∈ l') : Kp l' H H1 := fun c o n h => a c o (fun z => n (s c z)) h
theorem Kp.new {l : List Addr} {H : Hp} {p : Addr} (h : H p = none) (o : HO) : Kp l H (upd H p o) := fun b u _ q => by rw [upd_ne (ne_of_none q h)]; exact q
theorem Kp.set {l : List Addr} {H : Hp} {p : Addr} (h : p ∈ l) (o : HO) : Kp l H (upd H p o) := fun b u n q => by
 have e : b ≠ p := fun z => n (by rw [z]; exact h)
 rw [upd_ne e]; exact q
def Tp (H H' : Hp) : Prop := ∀ b xs, H b = some (.tup xs) → H' b = some (.tup xs)
theorem Tp.refl (H : Hp) : Tp H H := fun _ _ h => h
theorem Tp.trans {H H1 H2 : Hp} (a : Tp H H1) (b : Tp H1 H2) : Tp H H2 := fun c o h => b c o (a c o h)
end L2
set_option Elab.async false
set_option linter.all false
set_option maxRecDepth 100000
namespace Tg
open PySem L2
inductive Kd where
 | num (w : Int)
 | text
 | row (k : Kd)
 | rec_ (fs : List (Str × Kd))
 | pick (fs : List (Str × Kd))
mutual
def Kd.size : Kd → Int
 | .num w => w
 | .text => 1
 | .row _ => 1
 | .rec_ fs => (sizesF fs).sum
 | .pick fs => 1 + topOf (sizesF fs)
def sizesF : List (Str × Kd) → List Int
 | [] => []
 | (_, k) :: r => k.size :: sizesF r
end
mutual
def Kd.depth : Kd → Nat
 | .num _ => 1
 | .text => 1
 | .row k => k.depth + 1
 | .rec_ fs => depthF fs + 1
 | .pick fs => depthF fs + 1
def depthF : List (Str × Kd) → Nat
 | [] => 0
 | (_, k) :: r => max k.depth (depthF r)
end
mutual
def KIn (H : Hp) : V → Kd → Prop
 | v, .num w => ∃ a, v = .ref a ∧ H a = some (.tup [.str "num", .int w])
 | v, .text => ∃ a, v = .ref a ∧ H a = some (.tup [.str "text"])
 | v, .row k => ∃ a u, v = .ref a ∧ H a = some (.tup [.str "row", u]) ∧ KIn H u k
 | v, .rec_ fs => ∃ a f xs, v = .ref a ∧ H a = some (.tup [.str "rec", .ref f]) ∧ H f = some (.tup xs) ∧ FIn H xs fs
 | v, .pick fs => ∃ a f xs, v = .ref a ∧ H a = some (.tup [.str "pick", .ref f]) ∧ H f = some (.tup xs) ∧ FIn H xs fs
def FIn (H : Hp) : List V → List (Str × Kd) → Prop
 | xs, [] => xs = []
 | xs, (nm, k) :: r => ∃ p u ys, xs = .ref p :: ys ∧ H p = some (.tup [.str nm, u]) ∧ KIn H u k ∧ FIn H ys r
end
mutual
theorem KIn.mono {H H' : Hp} (t : Tp H H') : ∀ {k : Kd} {v : V}, KIn H v k → KIn H' v k
 | .num w, v, h => by
  unfold KIn at h ⊢
  obtain ⟨a, e, h⟩ := h
  exact ⟨a, e, t _ _ h⟩
 | .text, v, h => by
  unfold KIn at h ⊢
  obtain ⟨a, e, h⟩ := h
  exact ⟨a, e, t _ _ h⟩
 | .row k, v, h => by
  unfold KIn at h ⊢
  obtain ⟨a, u, e, h, q⟩ := h
  exact ⟨a, u, e, t _ _ h, KIn.mono t q⟩
 | .rec_ fs, v, h => by
  unfold KIn at h ⊢
  obtain ⟨a, f, xs, e, h, h2, q⟩ := h
  exact ⟨a, f, xs, e, t _ _ h, t _ _ h2, FIn.mono t q⟩
 | .pick fs, v, h => by
  unfold KIn at h ⊢
  obtain ⟨a, f, xs, e, h, h2, q⟩ := h
  exact ⟨a, f, xs, e, t _ _ h, t _ _ h2, FIn.mono t q⟩
theorem FIn.mono {H H' : Hp} (t : Tp H H') : ∀ {fs : List (Str × Kd)} {xs : List V}, FIn H xs fs → FIn H' xs fs
 | [], xs, h => by
  unfold FIn at h ⊢
  exact h
 | (nm, k) :: r, xs, h => by
  unfold FIn at h ⊢
  obtain ⟨p, u, ys, e, h, q, z⟩ := h
  exact ⟨p, u, ys, e, t _ _ h, KIn.mono t q, FIn.mono t z⟩
end
theorem FIn.length {H : Hp} : ∀ {fs : List (Str × Kd)} {xs : List V}, FIn H xs fs → xs.length = fs.length
 | [], xs, h => by unfold FIn at h; subst h; rfl
 | (nm, k) :: r, xs, h => by
  unfold FIn at h
  obtain ⟨p, u, ys, e, _, _, z⟩ := h
  rw [e, List.length_cons, List.length_cons, FIn.length z]
theorem FIn.get {H : Hp} : ∀ {fs : List (Str × Kd)} {xs : List V} {i : Nat} {x : V}, FIn H xs fs → xs[i]? = some x → ∃ p nm u k, x = .ref p ∧ H p = some (.tup [.str nm, u]) ∧ KIn H u k ∧ fs[i]? = some (nm, k)
 | [], xs, i, x, h, e => by unfold FIn at h; rw [h] at e; cases e
 | (nm, k) :: r, xs, i, x, h, e => by
  unfold FIn at h
  obtain ⟨p, u, ys, e1, h1, h2, z⟩ := h
  subst e1
  cases i with
  | zero => cases e; exact ⟨p, nm, u, k, rfl, h1, h2, rfl⟩
  | succ i => exact FIn.get (i := i) z e
theorem FIn.snoc {H : Hp} {nm : Str} {k : Kd} {p : Addr} {u : V} : ∀ {fs : List (Str × Kd)} {xs : List V}, FIn H xs fs → H p = some (.tup [.str nm, u]) → KIn H u k → FIn H (xs ++ [.ref p]) (fs ++ [(nm, k)])
 | [], xs, h, h1, h2 => by
  unfold FIn at h
  subst h
  show FIn H [.ref p] [(nm, k)]
  unfold FIn
  exact ⟨p, u, [], rfl, h1, h2, by unfold FIn; rfl⟩
 | (nm', k') :: r, xs, h, h1, h2 => by
  unfold FIn at h
  obtain ⟨q, u', ys, e1, g1, g2, z⟩ := h
  subst e1
  show FIn H (.ref q :: (ys ++ [.ref p])) ((nm', k') :: (r ++ [(nm, k)]))
  unfold FIn
  exact ⟨q, u', _, rfl, g1, g2, FIn.snoc z h1 h2⟩
mutual
/-- a kind as the document tells it: widths, fields one to six, no name twice, names of one to eight small letters -/
def Kd.good : Kd → Prop
 | .num w => 1 ≤ w ∧ w ≤ 4
 | .text => True
 | .row k => k.good
 | .rec_ fs => goodF fs ∧ 1 ≤ fs.length ∧ fs.length ≤ 6 ∧ (fs.map (·.1)).Nodup
 | .pick fs => goodF fs ∧ 1 ≤ fs.length ∧ fs.length ≤ 6 ∧ (fs.map (·.1)).Nodup
def goodF : List (Str × Kd) → Prop
 | [] => True
 | (nm, k) :: r => (1 ≤ nm.length ∧ nm.length ≤ 8 ∧ ∀ c ∈ nm.cps.toList, 97 ≤ c ∧ c ≤ 122) ∧ k.good ∧ goodF r
end
end Tg
set_option Elab.async false
set_option linter.all false
set_option maxRecDepth 100000
namespace Tg
open PySem L2
def Lets (z : Str) : Prop := ∀ c ∈ z.cps.toList, 97 ≤ c ∧ c ≤ 122
def Nm (z : Str) : Prop := 1 ≤ z.length ∧ z.length ≤ 8 ∧ Lets z
theorem len_codes (z : Str) : z.cps.toList.length = z.length := by simp [Str.length]
theorem app_codes (x y : Str) : (x ++ y).cps.toList = x.cps.toList ++ y.cps.toList := by rw [Str.cps_append, Array.toList_append]
theorem app_len (x y : Str) : (x ++ y).length = x.length + y.length := by rw [← len_codes, app_codes, List.length_append, len_codes, len_codes]
theorem Lets.app {x y : Str} (a : Lets x) (b : Lets y) : Lets (x ++ y) := fun c h => by
 rw [app_codes] at h
 rcases List.mem_append.mp h with h | h
 ·exact a c h
 ·exact b c h
theorem Lets.cut {x y : Str} {lo hi : Option Int} (a : Lets x) (e : y.cps.toList = cutN x.cps.toList lo hi) : Lets y := fun c h => by
 rw [e] at h
 exact a c (List.mem_of_mem_drop (List.mem_of_mem_take h))
theorem cut_le {x y : Str} {lo hi : Option Int} (e : y.cps.toList = cutN x.cps.toList lo hi) : y.length ≤ x.length := by
 rw [← len_codes, ← len_codes, e]; exact cutN_length _ _ _
theorem cut_head {x y : Str} {n : Int} (h : 0 ≤ n) (e : y.cps.toList = cutN x.cps.toList none (some n)) : y.length = min n.toNat x.length := by
 rw [← len_codes, e]
 unfold cutN
 have e1 : HT.sIx x.cps.toList.length x.cps.toList.length (some n) = min n.toNat x.cps.toList.length := by
  show (if n < 0 then _ else min n.toNat _) = _
  rw [if_neg (by omega)]
 rw [e1, HT.sIx_none, List.drop_zero, List.length_take, len_codes]
 omega
theorem lets_of {x : Str} (h : (x.cps.toList.all fun c => decide (97 ≤ c) && decide (c ≤ 122)) = true) : Lets x := fun c hc => by
 have q := List.all_eq_true.mp h c hc
 simpa using q
abbrev abc : Str := "abcdefghijklmnopqrstuvwxyz"
theorem at_some {α : Type} {xs : List α} {r : Int} (h0 : 0 ≤ r) (h1 : r < xs.length) : ∃ x, atI xs r = some x ∧ x ∈ xs := by
 have hk : r.toNat < xs.length := by omega
 have e : r = ((r.toNat : Nat) : Int) := by omega
 have q : atI xs ((r.toNat : Nat) : Int) = some xs[r.toNat] := atI_nat (by rw [List.getElem?_eq_getElem hk] <;> rfl)
 rw [← e] at q
 exact ⟨_, q, List.getElem_mem hk⟩
theorem sub_len {α : Type} [BEq α] [LawfulBEq α] : ∀ {l m : List α}, l.Nodup → (∀ x ∈ l, x ∈ m) → l.length ≤ m.length
 | [], m, _, _ => Nat.zero_le _
 | x :: r, m, nd, h => by
  have hx := h x List.mem_cons_self
  have e := List.length_erase_of_mem hx
  have nd' := List.nodup_cons.mp nd
  have ih := sub_len (l := r) (m := m.erase x) nd'.2 fun y hy => by
   refine (List.mem_erase_of_ne ?_).mpr (h y (List.mem_cons_of_mem _ hy))
   rintro rfl
   exact nd'.1 hy
  have : 0 < m.length := List.length_pos_of_mem hx
  rw [List.length_cons]
  omega
theorem inV_strs {x : Str} : ∀ {ss : List Str}, inV (.str x) (ss.map V.str) = decide (x ∈ ss)
 | [] => by simp [inV]
 | y :: r => by
  have ih := inV_strs (x := x) (ss := r)
  unfold inV at ih ⊢
  rw [List.map_cons, List.any_cons, ih]
  show (y == x || decide (x ∈ r)) = decide (x ∈ y :: r)
  rw [Bool.eq_iff_iff]
  simp only [Bool.or_eq_true, beq_iff_eq, decide_eq_true_eq, List.mem_cons]
  constructor
  ·rintro (h | h)
   ·exact .inl h.symm
   ·exact .inr h
  ·rintro (h | h)
   ·exact .inl h.symm
   ·exact .inr h
end Tg
set_option Elab.async false
set_option linter.all false
set_option maxRecDepth 100000
set_option maxHeartbeats 1000000
namespace L2
open PySem PySem.Spec PyProof.Rows PySem.W
structure UnB (fs : List Addr) (H H' : Hp) (h B h' : Heap) : Prop where
 keep : ∀ b o, h.get? b = some o → H b = none → b ∉ fs → B.get? b = some o
 slot : ∀ b o, h.get? b = some o → H b = none → b ∈ fs → ∃ sl, h'.get? b = some { o with slots := sl }
 free : ∀ b o, h.get? b = some o → H b = none → H' b = none
 there : ∀ b o, h.get? b = some o → b ∉ fs → ∃ o', B.get? b = some o'
 tups : ∀ b xs, H b = some (.tup xs) → H' b = some (.tup xs)
 frzs : ∀ b o u, H b = some (.frz o u) → H' b = some (.frz o u)
 tbls : ∀ b ps, H b = some (.tbl ps) → ∃ more, H' b = some (.tbl (ps ++ more))
theorem UnB.un {fs : List Addr} {H H' : Hp} {h B h' : Heap} (u : UnB fs H H' h B h') (st : B.StaysIn h') (hf : ∀ b ∈ fs, H b = none) : Un fs [] H H' h h' :=
 ⟨fun b o e n hb _ => st b o (u.keep b o e n hb), fun b o e n hb _ => u.slot b o e n hb, fun b o e n _ => u.free b o e n, fun b o e _ => by
  by_cases hb : b ∈ fs
  ·obtain ⟨sl, q⟩ := u.slot b o e (hf b hb) hb
   exact ⟨_, q⟩
  ·obtain ⟨o', q⟩ := u.there b o e hb
   exact ⟨o', st b o' q⟩, u.tups, u.frzs, u.tbls⟩
section
variable {X : Cx} {x : Str} {C : Addr} {bmB : List Value} {B newId initId : String} {np cpos pos : Pos} {e₀ : Expr} {rest : List Expr} {t : TA} {E : XK}
end
section
variable {P : Program} {w : World} {K : PySem.W.Frag} {mg : Str → Option Value} {base : Heap} {N : List Str} {qual : Str} {scope : Scope} {f : Addr} {cd : Value} {A : Around} {outer : List Env} {s : Shared} {H : Hp} {E : XK}
end
section
variable {X : Cx} {x : Str} {k j : Nat} {ps : List Str} {sp : Sp} {p pos : Pos} {e : Expr} {es : List Expr} {t : TA} {E : XK}
end
end L2
set_option Elab.async false
set_option linter.all false
set_option maxRecDepth 100000
set_option maxHeartbeats 1000000
namespace L2
open PySem PySem.Spec PyProof.Rows PySem.W
def excAt (x : Addr) (C : Value) : Heap → Prop := fun h => ∃ ob, h.get? x = some ob ∧ ob.cls = C
section
variable {X : Cx} {pins : List (Addr × Obj)} {σ : St} {H : Hp} {s : Shared}
abbrev Cx.tr (X : Cx) (E' : Value → Shared → Prop) (pn : List (Addr × Obj)) : Cx := { X with xe := E', pn := pn }
theorem Cx.Ok.tr (ok : X.Ok) (E' : Value → Shared → Prop) (pn : List (Addr × Obj)) : (X.tr E' pn).Ok :=
 ⟨ok.mod, ok.kind, ok.glob, ok.blt, ok.above, ok.inj, ok.has, ok.cab, ok.hd, ok.frames, ok.stk, ok.exf, ok.bs, ok.bsz, ok.noex, ok.exfs, ok.funs, ok.frf⟩
theorem Inv.tr (I : Inv X pins σ H s) (E' : Value → Shared → Prop) : Inv (X.tr E' (X.pn ++ pins)) [] σ H s :=
 ⟨I.ok.tr E' _, I.os, I.bare, I.base, I.loc, I.cell, I.free, I.freeC, fun p hp => I.pin p (by simpa using hp), I.hok, I.len⟩
end
section
variable {X : Cx} {body suite : List Stmt} {b₀ : Stmt} {y n : Str} {np hpos pos : Pos} {Cy : Addr} {j : Nat} {tb : (St → XK) → TS} {ts : TS}
end
end L2
set_option Elab.async false
set_option linter.all false
set_option maxRecDepth 100000
set_option maxHeartbeats 1000000
namespace L2
open PySem PySem.Spec PyProof.Rows PySem.W
section
variable {X : Cx} {x : Str} {k j : Nat} {ps : List Str} {sp : Sp} {p pos : Pos} {e : Expr} {es : List Expr} {t : TA} {W : St → XK}
end
section
variable {X : Cx} {body suite : List Stmt} {b₀ : Stmt} {y : Str} {np hpos pos : Pos} {Cy : Addr} {tb : (St → XK) → TS} {ts : TS}
end
end L2
set_option Elab.async false
set_option linter.all false
set_option maxRecDepth 100000
namespace L2
open PySem PySem.Spec PyProof.Rows
theorem fm_congr {α β : Type} {f g : α → Option β} : ∀ {l : List α}, (∀ x ∈ l, f x = g x) → l.filterMap f = l.filterMap g
 | [], _ => rfl
 | x :: r, h => by rw [List.filterMap_cons, List.filterMap_cons, h x List.mem_cons_self, fm_congr fun y hy => h y (List.mem_cons_of_mem _ hy)]
section
variable {X : Cx}
def CDivG (i j : Int) : Prop := 0 < j ∧ j < 2 ^ 200
theorem CDivG.noPy {i j : Int} (h : CDivG i j) : Builtin.divisionGoesByPylong i j = false := by
 refine PyProof.noPylong_of_log2 ?_
 have h1 : j.natAbs < 2 ^ 200 := by have := h.1; have := h.2; omega
 have h2 : j.natAbs ≠ 0 := by have := h.1; omega
 have := (Nat.log2_lt h2).mpr h1
 omega
theorem op_fdivG : OpR X (binaryOp .FloorDiv) (rI CDivG fun i j => .int (i / j)) := opI fun i j _ _ _ _ _ hc q => by
 have h1 : (0 : Int) < j := hc.1
 exact floordiv_int (by omega) (by rw [Int.fdiv_eq_ediv_of_nonneg i (by omega)]; exact q) (.inl hc.noPy)
def SlB (X : Cx) (r : V → Hp → VK → Prop) : Prop :=
 ∀ (pins : List (Addr × Obj)) (s : Shared) (σ : St) (H : Hp) (x : V) (v vs : Value) (sl : Addr) (Q : VK), Inv X pins σ H s → RelV x v → s.heap.IsSliceOf sl .none .none vs → IsPart vs (some (-1)) → r x H Q →
  ∃ T id, typeLookup (.type T) "__getitem__" = pure (some (.builtin id)) ∧ s.TypeIs v T ∧ wpAny (model X.prog X.w) X.A (getItem v (.ref sl)) (EP X pins σ Q) X.xe s
theorem pe_rev {r : V → Hp → VK → Prop} {e st : Expr} {te ts : TE} {p2 pos : Pos} (hr : SlB X r) (he : PE X e te) (hs : PE X st ts) :
  PE X (.Subscript e (.Slice none none (some st) p2) pos) (fun σ H Q => te σ H fun x H1 => ts σ H1 fun y H2 => y = .int (-1) ∧ r x H2 Q) := by
 refine .mk ?_
 intro pins s σ H Q I h
 refine Subscript_ (thn (he pins s σ H _ I h) fun v s1 ⟨x, H1, I1, r1, q1⟩ => ?_)
 refine wpAny_Slice ?_
 rw [evalPart_none]
 refine wpAny_pure ?_
 refine wpAny_pure ?_
 rw [evalPart_some]
 refine thn (hs pins s1 σ H1 _ I1 q1) fun vs s2 ⟨y, H2, I2, r2, q2⟩ => ?_
 obtain ⟨rfl, q3⟩ := q2
 obtain ⟨t, rfl⟩ := r2
 have I4 : Inv X pins σ H2 { s2 with heap := s2.heap.push { cls := .type "slice", data := .fields #[.none, .none, .int (-1) t] } } := I2.kept (t' := s2.toks) fun b ob q => Heap.get?_push_of_some _ q
 obtain ⟨T, id, hT, ht, hg⟩ := hr pins { s2 with heap := s2.heap.push { cls := .type "slice", data := .fields #[.none, .none, .int (-1) t] } } σ H2 x v _ s2.heap.objs.size Q I4 r1 (Heap.IsSliceOf.new ..) (.int (-1) t) q3
 show wpAny (model X.prog X.w) X.A (subscriptTail e (.Slice none none (some st) p2) v (.ref s2.heap.objs.size)) (EP X pins σ Q) X.xe { s2 with heap := s2.heap.push { cls := .type "slice", data := .fields #[.none, .none, .int (-1) t] } }
 exact tail_any (ops := [v, .ref s2.heap.objs.size]) ht hT hg (by with_unfolding_all rfl)
theorem rev_pick (its : List Value) : ((List.range its.length).map fun k => its.length - 1 - k).filterMap (its.toArray[·]?) = its.reverse := by
 apply List.ext_getElem?
 intro i
 have e : ((List.range its.length).map fun k => its.length - 1 - k).filterMap (its.toArray[·]?) = (List.range its.length).map fun k => its.getD (its.length - 1 - k) .none := by
  rw [List.filterMap_map]
  rw [← List.filterMap_eq_map]
  apply fm_congr
  intro k hk
  have hk' : k < its.length := List.mem_range.mp hk
  show its.toArray[its.length - 1 - k]? = some (its.getD (its.length - 1 - k) .none)
  have h2 : its.length - 1 - k < its.length := by omega
  simp [List.getD, List.getElem?_eq_getElem h2]
 rw [e, List.getElem?_map]
 by_cases h : i < its.length
 ·rw [List.getElem?_range h, List.getElem?_reverse h]
  have h2 : its.length - 1 - i < its.length := by omega
  simp [List.getD, List.getElem?_eq_getElem h2]
 ·rw [List.getElem?_eq_none (by simpa using h), List.getElem?_eq_none (by simpa using h)]
  rfl
theorem slicePick_rev (its : List Value) : slicePick its.toArray none none (some (-1)) = its.reverse.toArray := by
 unfold slicePick
 have e : sliceRange (sliceBounds none none (some (-1)) its.toArray.size).1 (sliceBounds none none (some (-1)) its.toArray.size).2.1 (sliceBounds none none (some (-1)) its.toArray.size).2.2 = (List.range its.length).map fun k => its.length - 1 - k := picked_rev its.length
 rw [e, rev_pick]
theorem Vals.rev {xs : List V} {us : List Value} (r : Vals xs us) : Vals xs.reverse us.reverse := by
 induction r with
 | nil => exact .nil
 | cons r1 r2 ih =>
  rw [List.reverse_cons, List.reverse_cons]
  exact ih.append (.cons r1 .nil)
def rRevL (K : PySem.W.Frag) : V → Hp → VK → Prop := fun x H Q => ∃ a xs, x = .ref a ∧ SqL K H a xs ∧ ∀ p, H p = none → Q (.ref p) (upd H p (.lst xs.reverse))
theorem rv_list : SlB X (rRevL X.K) := by
 intro pins s σ H x v vs sl Q I rx hs ps h
 obtain ⟨a, xs, rfl, hx, q⟩ := h
 cases rx
 obtain ⟨its, r, ht, hz⟩ := I.list hx
 have hlen := r.length
 refine ⟨"list", _, slot_list_getitem.lookup, ht.isList.typeIs, ?_⟩
 refine wpAny_getItem_list_slice ht.isList hs .none .none ps (by decide) ?_ (by rw [List.size_toArray] <;> omega)
 rw [slicePick_rev]
 refine ⟨.ref s.heap.objs.size, _, I.laid (t' := s.toks) (o := .lst xs.reverse) (fun b ob q => Heap.get?_push_of_some _ q) (Nat.le_refl _) ?_, rfl, q _ (I.hok.fresh (Nat.le_refl _))⟩
 exact ⟨by rw [List.length_reverse]; exact hz, _, 0, Vals.rev r, Heap.get?_push_size _ rfl⟩
def rRevT (K : PySem.W.Frag) : V → Hp → VK → Prop := fun x H Q => ∃ a xs, x = .ref a ∧ SqT K H a xs ∧ ∀ p, H p = none → Q (.ref p) (upd H p (.tup xs.reverse))
theorem sliceApplied_rev {prog : Program} {w : World} {A : Around} {E : Value → Shared → Prop} {s : Shared} {sl : Addr} {vs : Value} {n : Nat} {Q : Int × Int × Nat → Shared → Prop} (hs : s.heap.IsSliceOf sl .none .none vs) (ps : IsPart vs (some (-1)))
  (h : Q ((n : Int) - 1, -1, n) s) : wpAny (model prog w) A (Builtin.Slice.sliceApplied (.ref sl) (pure (n : Int))) Q E s := by
 obtain ⟨os, hos, hcs, hds⟩ := id hs
 unfold Builtin.Slice.sliceApplied Builtin.Slice.sliceFields
 refine wpAny_bind (wpAny_bind (wpAny_field hos hds (x := .none) rfl (wpAny_bind (wpAny_field hos hds (x := .none) rfl (wpAny_bind (wpAny_field hos hds (x := vs) rfl (wpAny_pure ?_)))))))
 refine wpAny_bind (HT.slicePart_ ps ?_)
 show wpAny _ _ (if ((-1 : Int) == 0) = true then _ else _) _ _ s
 rw [if_neg (by decide)]
 refine wpAny_bind (slicePart_none (wpAny_bind (slicePart_none (wpAny_bind (wpAny_pure ?_)))))
 show wpAny _ _ (match Builtin.Slice.sliceAdjust none none (-1) (n : Int) with | (lo, hi) => pure (lo, (-1 : Int), Builtin.Slice.slicePlaces lo hi (-1))) _ _ s
 have e : Builtin.Slice.sliceAdjust none none (-1) (n : Int) = ((n : Int) - 1, -1) := rfl
 rw [e]
 show wpAny _ _ (pure ((n : Int) - 1, (-1 : Int), Builtin.Slice.slicePlaces ((n : Int) - 1) (-1) (-1))) _ _ s
 have e2 : Builtin.Slice.slicePlaces ((n : Int) - 1) (-1) (-1) = n := by
  unfold Builtin.Slice.slicePlaces
  have h1 : ¬ ((-1 : Int) > 0) := by omega
  have h3 : (-(-1) : Int) = 1 := rfl
  simp only [h1, if_false, h3, Int.ediv_one]
  split <;> omega
 rw [e2]
 exact wpAny_pure h
theorem getItem_tuple_rev {prog : Program} {w : World} {A : Around} {E : Value → Shared → Prop} {s : Shared} {t sl : Addr} {its : List Value} {vs : Value} {Q : Value → Shared → Prop} (ht : IsTup s.heap t its.toArray) (hs : s.heap.IsSliceOf sl .none .none vs) (ps : IsPart vs (some (-1)))
  (h : Q (.ref s.heap.objs.size) { s with heap := s.heap.push { cls := .type "tuple", data := .seq its.reverse.toArray } })
  (hsz : its.length ≤ sizeLine) : wpAny (model prog w) A (getItem (.ref t) (.ref sl)) Q E s := by
 have htake : sizeOk (.seq its.reverse.toArray) := by
  show its.reverse.toArray.size ≤ sizeLine
  rw [List.size_toArray, List.length_reverse]
  exact hsz
 obtain ⟨os, hos, hcs, hds⟩ := id hs
 have hTs : s.TypeIs (.ref sl) "slice" := ⟨os, hos, hcs⟩
 unfold getItem
 try with_reducible refine wpAny_holding ?_
 first | refine wpAny_bind (wpAny_pure ?_) | skip
 refine wpAny_bind (wpAny_sequenceKey ht.typeIs (by decide) ?_)
 refine wpAny_bind (wpAny_callSpecial?_slot (name := Str.ofString "__getitem__") ht.typeIs PyProof.Rows.slot_tuple_getitem
  (wpAny_call_entry PyProof.Rows.slot_tuple_getitem ht.typeIs entry_tuple_getitem ?_ (args_tuple_getitem _ _)))
 show wpAny _ _ (Builtin.Tuple.tupleItemsOf (.ref t) >>= _) _ _ s
 refine wpAny_bind (tupleItemsOf_ ht ?_)
 refine wpAny_bind (wpAny_typeOf hTs ?_)
 rw [if_pos (by decide)]
 refine wpAny_bind (sliceApplied_rev hs ps ?_)
 have hno : ¬ (((((its.toArray.size : Nat) : Int) - 1) == 0 && (-1 : Int) == 1 && its.toArray.size == its.toArray.size) = true) := by
  have : ((-1 : Int) == 1) = false := rfl
  rw [this, Bool.and_false, Bool.false_and]
  exact Bool.false_ne_true
 show wpAny _ _ (if ((((its.toArray.size : Nat) : Int) - 1) == 0 && (-1 : Int) == 1 && its.toArray.size == its.toArray.size) = true then _ else _) _ _ s
 rw [if_neg hno]
 have e : ((List.range its.toArray.size).filterMap fun (m : Nat) => its.toArray[((((its.toArray.size : Nat) : Int) - 1) + (m : Int) * (-1)).toNat]?).toArray = its.reverse.toArray := by
  rw [← rev_pick its, List.filterMap_map, List.size_toArray]
  congr 1
  apply fm_congr
  intro k hk
  have hk' : k < its.length := List.mem_range.mp hk
  have e1 : (((its.length : Nat) : Int) - 1 + (k : Int) * (-1)).toNat = its.length - 1 - k := by omega
  show its.toArray[(((its.length : Nat) : Int) - 1 + (k : Int) * (-1)).toNat]? = its.toArray[its.length - 1 - k]?
  rw [e1]
 rw [e]
 first
  | exact wpAny_bind (m := Builtin.Tuple.tupleExact _) (wpAny_newObj_type (wpAny_pure ⟨_, rfl, wpAny_pure h⟩) htake)
  | exact wpAny_bind (m := Builtin.Tuple.tupleExact _) (wpAny_newObj_type (wpAny_bind (wpAny_pure (wpAny_pure ⟨_, rfl, wpAny_pure h⟩))) htake)
  | exact wpAny_bind (wpAny_bind (m := Builtin.Tuple.tupleExact _) (wpAny_newObj_type (wpAny_pure (wpAny_pure ⟨_, rfl, wpAny_pure h⟩)) htake))
  | exact wpAny_bind (wpAny_bind (m := Builtin.Tuple.tupleExact _) (wpAny_newObj_type (wpAny_pure ⟨_, rfl, wpAny_pure h⟩) htake))
theorem rv_tup : SlB X (rRevT X.K) := by
 intro pins s σ H x v vs sl Q I rx hs ps h
 obtain ⟨a, xs, rfl, hx, q⟩ := h
 cases rx
 obtain ⟨its, r, ht, hz⟩ := I.tuple hx
 have hlen := r.length
 refine ⟨"tuple", _, PyProof.Rows.slot_tuple_getitem.lookup, ht.typeIs, ?_⟩
 refine getItem_tuple_rev ht hs ps ?_ (by omega)
 refine ⟨.ref s.heap.objs.size, _, I.laid (t' := s.toks) (o := .tup xs.reverse) (fun b ob q => Heap.get?_push_of_some _ q) (Nat.le_refl _) ?_, rfl, q _ (I.hok.fresh (Nat.le_refl _))⟩
 exact ⟨by rw [List.length_reverse]; exact hz, _, Vals.rev r, IsTup.new _ _⟩
theorem bools_of {bs : List Bool} : ∀ {us : List Value}, Vals (bs.map V.bl) us → us = bs.map Value.bool := by
 induction bs with
 | nil => intro us r; rw [List.map_nil] at r; cases r; rfl
 | cons n ns ih =>
  intro us r
  rw [List.map_cons] at r
  cases r with
  | cons r1 r2 =>
   rw [ih r2]
   cases r1
   rfl
theorem range_all {bs : List Bool} : (List.range bs.length).all (fun i => bs.getD i true) = bs.all id := by
 rw [Bool.eq_iff_iff, List.all_eq_true, List.all_eq_true]
 constructor
 ·intro h b hb
  obtain ⟨i, hi, rfl⟩ := List.getElem_of_mem hb
  have := h i (List.mem_range.mpr hi)
  simpa [List.getD, List.getElem?_eq_getElem hi] using this
 ·intro h i hi
  have hi' := List.mem_range.mp hi
  have := h bs[i] (List.getElem_mem hi')
  simpa [List.getD, List.getElem?_eq_getElem hi'] using this
theorem kept_it {s : Shared} {o₀ : Obj} {h' : Heap} (hk : ∀ b o, b ∉ [s.heap.objs.size] → (s.heap.push o₀).get? b = some o → h'.get? b = some o) : ∀ b o, s.heap.get? b = some o → h'.get? b = some o := fun b o e => by
 refine hk b o (fun hm => ?_) (Heap.get?_push_of_some _ e)
 exact absurd ((List.mem_singleton.mp hm) ▸ Heap.lt_size e) (Nat.lt_irrefl _)
theorem call_allL (hc : X.calm = true) : CallR X (.builtin "all") (fun xs H Q => ∃ (p : Addr) (bs : List Bool), xs = [.ref p] ∧ SqL X.K H p (bs.map V.bl) ∧ Q (.bl (bs.all id)) H) := by
 intro pins s σ H xs us Q I r h
 obtain ⟨p, bs, rfl, hq, q⟩ := h
 obtain ⟨u, rfl, ru⟩ := vals1 r
 cases ru
 obtain ⟨its, rv, pl, hz⟩ := I.list hq
 have eb := bools_of rv
 have hl : s.heap.IsList p its.toArray := pl.isList
 have hlt : p < s.heap.objs.size := by obtain ⟨_, e, _⟩ := hl; exact Heap.lt_size e
 refine call_all_walk (wpAny_pyIter_list hl ?_)
 refine ⟨s.heap.objs.size, _, _, _, _, _, fun i => bs.getD i true, rfl, Walks.list (prog := X.prog) (w := X.w) (A := X.A.in1) (I.ok.hd hc) s.heap.objs.size p (Nat.ne_of_lt hlt) its.toArray, ⟨⟨_, Heap.get?_push_size _ rfl, rfl, rfl⟩, hl.push _⟩, ?_, ?_⟩
 ·intro i v s' Q' E' hP hQ
  have e : v = .bool (bs.getD i true) := by
   rw [eb] at hP
   simp only [List.getElem?_toArray, List.getElem?_map, Option.map_eq_some_iff] at hP
   obtain ⟨b, hb, rfl⟩ := hP
   simp [List.getD, hb]
  rw [e]
  exact wpAny_truthy_bool hQ
 ·intro h' tk hk
  refine ⟨.bl (bs.all id), H, I.kept (kept_it hk), ?_, q⟩
  have e2 : its.toArray.size = bs.length := by rw [eb]; simp
  rw [e2, range_all]
  rfl
theorem Vals.at {xs : List V} {us : List Value} (r : Vals xs us) : ∀ {j : Nat} (h : j < us.length), RelV (xs.getD j .non) us[j] := by
 induction r with
 | nil => intro j h; exact absurd h (Nat.not_lt_zero _)
 | cons r1 r2 ih =>
  intro j h
  cases j with
  | zero => exact r1
  | succ j => exact ih (Nat.lt_of_succ_lt_succ h)
theorem getItem_tuple_whole {prog : Program} {w : World} {A : Around} {E : Value → Shared → Prop} {s : Shared} {t sl : Addr} {items : Array Value} {vl vu : Value} {lo hi : Option Int} {Q : Value → Shared → Prop} (ht : IsTup s.heap t items) (hs : s.heap.IsSliceOf sl vl vu .none) (pl : IsPart vl lo) (pu : IsPart vu hi)
  (h0 : HT.sIx items.size 0 lo = 0) (h1 : HT.sIx items.size items.size hi = items.size) (h : Q (.ref t) s) : wpAny (model prog w) A (getItem (.ref t) (.ref sl)) Q E s := by
 obtain ⟨os, hos, hcs, hds⟩ := id hs
 have hTs : s.TypeIs (.ref sl) "slice" := ⟨os, hos, hcs⟩
 unfold getItem
 try with_reducible refine wpAny_holding ?_
 first | refine wpAny_bind (wpAny_pure ?_) | skip
 refine wpAny_bind (wpAny_sequenceKey ht.typeIs (by decide) ?_)
 refine wpAny_bind (wpAny_callSpecial?_slot (name := Str.ofString "__getitem__") ht.typeIs PyProof.Rows.slot_tuple_getitem
  (wpAny_call_entry PyProof.Rows.slot_tuple_getitem ht.typeIs entry_tuple_getitem ?_ (args_tuple_getitem _ _)))
 show wpAny _ _ (Builtin.Tuple.tupleItemsOf (.ref t) >>= _) _ _ s
 refine wpAny_bind (tupleItemsOf_ ht ?_)
 refine wpAny_bind (wpAny_typeOf hTs ?_)
 rw [if_pos (by decide)]
 refine wpAny_bind (HT.sliceApplied_gen hs pl pu ?_)
 have hyes : ((((HT.sIx items.size 0 lo : Nat) : Int) == 0 && (1 : Int) == 1 && (HT.sIx items.size items.size hi - HT.sIx items.size 0 lo) == items.size) = true) := by
  rw [h0, h1]
  simp
 show wpAny _ _ (if (((HT.sIx items.size 0 lo : Nat) : Int) == 0 && (1 : Int) == 1 && (HT.sIx items.size items.size hi - HT.sIx items.size 0 lo) == items.size) = true then _ else _) _ _ s
 rw [if_pos hyes]
 unfold Builtin.Tuple.tupleIsExact
 refine wpAny_bind (wpAny_bind (wpAny_typeOf ht.typeIs ?_))
 refine wpAny_pure ?_
 rw [if_pos (by decide)]
 refine wpAny_bind (wpAny_rule ?_)
 exact wpAny_pure ⟨_, rfl, wpAny_pure h⟩
def rSlA (K : PySem.W.Frag) : V → Option Int → Option Int → Hp → VK → Prop := fun x lo hi H Q => ∃ a xs, x = .ref a ∧ SqT K H a xs ∧
 ((HT.sIx xs.length 0 lo = 0 ∧ HT.sIx xs.length xs.length hi = xs.length) → Q (.ref a) H) ∧ (¬ (HT.sIx xs.length 0 lo = 0 ∧ HT.sIx xs.length xs.length hi = xs.length) → ∀ p, H p = none → Q (.ref p) (upd H p (.tup (cutV xs lo hi))))
theorem sl_tupA : SlR X (rSlA X.K) := by
 intro pins s σ H x v vl vu lo hi sl Q I rx hs pl pu h
 obtain ⟨a, xs, rfl, hx, q1, q2⟩ := h
 by_cases hw : HT.sIx xs.length 0 lo = 0 ∧ HT.sIx xs.length xs.length hi = xs.length
 ·cases rx
  obtain ⟨its, r, ht, hz⟩ := I.tuple hx
  have hlen : its.toArray.size = xs.length := by rw [List.size_toArray]; exact r.length.symm
  refine ⟨"tuple", _, PyProof.Rows.slot_tuple_getitem.lookup, ht.typeIs, ?_⟩
  exact getItem_tuple_whole ht hs pl pu (by rw [hlen]; exact hw.1) (by rw [hlen]; exact hw.2) ⟨.ref a, H, I, rfl, q1 hw⟩
 ·exact sl_tup pins s σ H _ v vl vu lo hi sl Q I rx hs pl pu ⟨a, xs, rfl, hx, hw, q2 hw⟩
end
section
variable {own : List Str} {cap : List (Nat × Str)} {σ : St} {H1 : Hp} {D : Addr} {g : TG} {tc : TT} {te : TE} {QD : Hp → Prop}
end
end L2
set_option Elab.async false
set_option linter.all false
set_option maxRecDepth 100000
namespace Tg
def val : List Int → Int
 | [] => 0
 | d :: ds => d + 65536 * val ds
end Tg
set_option Elab.async false
set_option linter.all false
set_option maxRecDepth 100000
namespace L2
open PySem PySem.Spec PyProof.Rows
section
variable {X : Cx}
def rCatA : R2 := fun x y H Q => ∃ a b xs ys, x = .ref a ∧ y = .ref b ∧ H a = some (.tup xs) ∧ H b = some (.tup ys) ∧ xs.length + ys.length ≤ sizeLine ∧ ∀ c H', Kp [] H H' → H' c = some (.tup (xs ++ ys)) → Q (.ref c) H'
theorem op_catA : OpR X (binaryOp .Add) rCatA := by
 intro pins s σ H x y v u Q I rx ry h
 obtain ⟨a, b, xs, ys, rfl, rfl, ha, hb, hz, q⟩ := h
 by_cases e : xs = []
 ·subst e
  cases rx
  cases ry
  obtain ⟨its, r1, p1, z1⟩ := I.tuple (SqT.of (K := X.K) ha)
  obtain ⟨its2, r2, p2, z2⟩ := I.tuple (SqT.of (K := X.K) hb)
  cases r1
  obtain ⟨⟨cls, dd, data, sl⟩, ho, hc, n, hd⟩ := id p1
  obtain ⟨⟨cls2, dd2, data2, sl2⟩, ho2, hc2, n2, hd2⟩ := id p2
  simp only at hc hd hc2 hd2
  subst hc hd hc2 hd2
  exact concat_meets ⟨_, ho, rfl⟩ ⟨_, ho2, rfl⟩ noFill_tuple_add seq_tuple_add PySem.F.slot_tuple_add PySem.F.entry_tuple_add (PySem.F.args_tuple_add_2 _ _)
   (tuple_addW0 a b [].toArray its2.toArray n n2 dd dd2 sl sl2 rfl) ⟨ho, ho2, ⟨.ref b, H, I, rfl, q b H (Kp.refl _) hb⟩⟩
 ·exact op_catT pins s σ H _ _ v u Q I rx ry ⟨a, b, xs, ys, rfl, rfl, SqT.of ha, SqT.of hb, e, hz, fun z => by subst z; exact q a H (Kp.refl _) (by rw [List.append_nil]; exact ha), fun _ p hp => q p _ (Kp.new hp _) upd_same⟩
def rSlB : V → Option Int → Option Int → Hp → VK → Prop := fun x lo hi H Q => ∃ a xs, x = .ref a ∧ H a = some (.tup xs) ∧ ∀ c H', Kp [] H H' → H' c = some (.tup (cutV xs lo hi)) → Q (.ref c) H'
theorem sl_tupB : SlR X rSlB := by
 intro pins s σ H x v vl vu lo hi sl Q I rx hs pl pu h
 obtain ⟨a, xs, rfl, ha, q⟩ := h
 refine sl_tupA pins s σ H _ v vl vu lo hi sl Q I rx hs pl pu ⟨a, xs, rfl, SqT.of ha, fun z => q a H (Kp.refl _) ?_, fun _ p hp => q p _ (Kp.new hp _) upd_same⟩
 unfold cutV
 rw [z.1, z.2, List.drop_zero, Nat.sub_zero, List.take_length]
 exact ha
def tDNew : TE := fun _ H Q => ∀ p, H p = none → Q (.ref p) (upd H p (.dK []))
theorem pe_dnew {pos : Pos} : PE X (.Dict [] [] pos) tDNew := by
 refine .mk ?_
 intro pins s σ H Q I h
 refine wpAny_Dict_empty ⟨.ref s.heap.objs.size, _, I.laid (a := s.heap.objs.size) (o := .dK []) (t' := s.toks) (fun _ _ q => Heap.get?_push_of_some _ q) (Nat.le_refl _) ?_, rfl, h _ (I.hok.fresh (Nat.le_refl _))⟩
 have hb : sysModules < s.heap.objs.size := Nat.lt_trans (by decide) (I.mod.glob.keeps I.bk).lt
 exact ⟨Nat.zero_le _, beq_eq_false_iff_ne.mpr fun z => Nat.ne_of_lt hb z.symm, [], .nil, Heap.DictOf.new s.heap⟩
theorem strVals_of {ss : List Str} : ∀ {us : List Value}, Vals (ss.map V.str) us → ∃ l : List (Str × Tok), us = strValues l ∧ l.map (·.1) = ss := by
 induction ss with
 | nil => intro us r; rw [List.map_nil] at r; cases r; exact ⟨[], rfl, rfl⟩
 | cons x r ih =>
  intro us rv
  rw [List.map_cons] at rv
  cases rv with
  | cons r1 r2 =>
   obtain ⟨t, rfl⟩ := r1
   obtain ⟨l, rfl, e⟩ := ih r2
   exact ⟨(x, t) :: l, rfl, by rw [List.map_cons, e]⟩
def catS (ss : List Str) : Str := ⟨(ss.map (·.cps.toList)).flatten.toArray⟩
theorem fold_cat : ∀ (ss : List Str) (x : Array Nat), ss.foldl (fun acc (p : Str) => acc ++ (Str.empty).cps ++ p.cps) x = (x.toList ++ (ss.map (·.cps.toList)).flatten).toArray
 | [], x => by simp
 | y :: r, x => by
  rw [List.foldl_cons, fold_cat r]
  simp [Str.empty, Array.toList_append, List.append_assoc]
theorem glued_empty : ∀ ss : List Str, Builtin.Str.glued Str.empty ss = catS ss
 | [] => rfl
 | y :: r => by
  show (⟨r.foldl (fun acc (p : Str) => acc ++ (Str.empty).cps ++ p.cps) y.cps⟩ : Str) = _
  rw [fold_cat]
  rfl
theorem foldLen (sep : Nat) : ∀ (ss : List Str) (n B : Nat), (∀ y ∈ ss, y.length ≤ B) → ss.foldl (fun a (p : Str) => a + p.length + sep) n ≤ n + ss.length * (B + sep)
 | [], n, B, _ => by simp
 | y :: r, n, B, h => by
  rw [List.foldl_cons]
  have h1 := foldLen sep r (n + y.length + sep) B fun z hz => h z (List.mem_cons_of_mem _ hz)
  have h2 := h y List.mem_cons_self
  rw [List.length_cons, Nat.succ_mul]
  omega
theorem flat_len {α : Type} (B : Nat) : ∀ ls : List (List α), (∀ l ∈ ls, l.length ≤ B) → ls.flatten.length ≤ ls.length * B
 | [], _ => by simp
 | l :: r, h => by
  rw [List.flatten_cons, List.length_append, List.length_cons, Nat.succ_mul]
  have h1 := flat_len B r fun z hz => h z (List.mem_cons_of_mem _ hz)
  have h2 := h l List.mem_cons_self
  omega
theorem catS_len {ss : List Str} {B : Nat} (h : ∀ y ∈ ss, y.length ≤ B) : (catS ss).length ≤ ss.length * B := by
 show (ss.map (·.cps.toList)).flatten.toArray.size ≤ _
 rw [List.size_toArray]
 have := flat_len B (ss.map (·.cps.toList)) fun l hl => by
  obtain ⟨y, hy, rfl⟩ := List.mem_map.mp hl
  rw [Array.length_toList]
  exact h y hy
 rwa [List.length_map] at this
theorem mt_join : MtR X "str.join" (fun x vs H Q => ∃ (p : Addr) (ss : List Str), x = .str Str.empty ∧ vs = [.ref p] ∧ SqL X.K H p (ss.map V.str) ∧ ss.length ≤ 1000 ∧ (∀ y ∈ ss, y.length ≤ 1000) ∧ Q (.str (catS ss)) H) := by
 intro pins s σ H x vs v us Q I rx rv h
 obtain ⟨p, ss, rfl, rfl, hq, l1, l2, q⟩ := h
 obtain ⟨t, rfl⟩ := rx
 obtain ⟨u, rfl, ru⟩ := rv.one
 cases ru
 obtain ⟨its, r, pl, hz⟩ := I.list hq
 obtain ⟨l, rfl, rfl⟩ := strVals_of r
 have hs : (1000 * 1000 : Nat) ≤ sizeLine := by decide
 have hlen : (l.map (·.1)).foldl (fun a (p : Str) => a + p.length + (Str.empty).length) 0 ≤ 1000 * 1000 := by
  have h1 := foldLen (Str.empty).length (l.map (·.1)) 0 1000 l2
  have h2 : (Str.empty).length = 0 := rfl
  rw [h2] at h1 ⊢
  have h3 : (l.map (·.1)).length * (1000 + 0) ≤ 1000 * 1000 := Nat.mul_le_mul l1 (by omega)
  omega
 have hl : Builtin.Str.tooLong ((l.map (·.1)).toArray.foldl (· + ·.length + (Str.empty).length) 0) = false := by
  unfold Builtin.Str.tooLong
  rw [List.foldl_toArray]
  exact decide_eq_false (by omega)
 refine call_meets F.slot_str_join (typeIs_str s _ t) F.entry_str_join (F.args_str_join_2 _ _) (meets_str_join_list Str.empty t p l hl) ⟨pl.isList, ?_⟩
 have fin : ∀ z : Str, z = catS (l.map (·.1)) → Q (.str z) H := fun z e => by rw [e]; exact q
 match l, glued_empty (l.map (·.1)), fin, l1, l2 with
 | [], _, fin, _, _ => exact ⟨by decide, .str Str.empty, H, I.tok _, ⟨_, rfl⟩, fin _ rfl⟩
 | [y], _, fin, _, _ => exact ⟨.str y.1, H, I, ⟨y.2, rfl⟩, fin _ (by simp [catS])⟩
 | y :: z :: r, e, fin, l1, l2 =>
  refine ⟨?_, .str (Builtin.Str.glued Str.empty ((y :: z :: r).map (·.1))), H, I.tok _, ⟨_, rfl⟩, fin _ e⟩
  show (Builtin.Str.glued Str.empty ((y :: z :: r).map (·.1))).length ≤ sizeLine
  rw [e]
  have h1 := catS_len (B := 1000) l2
  have h2 : ((y :: z :: r).map (·.1)).length * 1000 ≤ 1000 * 1000 := Nat.mul_le_mul l1 (Nat.le_refl _)
  omega
end
end L2
set_option Elab.async false
set_option linter.all false
set_option maxRecDepth 100000
namespace L2
open PySem PySem.Spec PyProof.Rows
section
variable {X : Cx} {pins : List (Addr × Obj)} {σ : St} {H : Hp} {s : Shared} {h' : Heap}
end
def signV (c : Nat) : V := .str ⟨#[c]⟩
def Its (x : Str) : It := ⟨fun i _ => i < x.cps.size, fun i H v H' => H' = H ∧ ∃ c, x.cps[i]? = some c ∧ v = signV c, fun i _ => x.cps.size ≤ i⟩
theorem turn_str {P : Program} {w : World} {K : PySem.W.Frag} {tg : Expr} (it : Addr) (x : Str) (t : Tok) (ty : String) (hty : ty = "str_ascii_iterator" ∨ ty = "str_iterator") : Turn P w K tg (Its x) [it] it (fun i h => h.IsStrIter it ty x t i) where
 mem := by simp
 obj := fun i h st b hb => by
  have e : b = it := by simpa using hb
  subst e
  obtain ⟨o, e, c, d⟩ := st
  exact ⟨o, e, fun v z => by rw [d] at z; cases z⟩
 keep := fun i h h' st k => by
  obtain ⟨o, e, r⟩ := st
  exact ⟨o, k it (by simp) o e, r⟩
 item := by
  intro X hP hw hK hc i pins s σ H E I hf st hg
  subst hP hw hK
  obtain ⟨f0, f1, f2, f3, f4, f5⟩ := hf it (by simp)
  have key : ∀ v h' tk, SignAt x i v → h'.IsStrIter it ty x t (i + 1) → (∀ b o, b ∉ [it] → s.heap.get? b = some o → h'.get? b = some o) → ∃ u, some v = some u ∧
    wpAny (model X.prog X.w) X.A (letOwnedTupleGo tg (.ref it) u) (fun _ s2 => ∃ y H', Inv X pins σ H' s2 ∧ RelV y u ∧ (Its x).yld i H y H' ∧ s2.heap.IsStrIter it ty x t (i + 1) ∧ ∀ b ∈ [it], H' b = none) E { s with heap := h', toks := tk } := by
   intro v h' tk hv st' kk
   obtain ⟨c, u, hc', rfl⟩ := hv
   have I1 : Inv X pins σ H { s with heap := h', toks := tk } := I.turned (fun b o hb e => kk b o (by simpa using hb) e) f0 f1 f3 f4 f5
   obtain ⟨o, e, ec, ed⟩ := id st'
   exact ⟨_, rfl, go_of (s := { s with heap := h', toks := tk }) e ec ed (by rcases hty with rfl | rfl <;> decide) ⟨signV c, H, I1, ⟨u, rfl⟩, ⟨rfl, c, hc', rfl⟩, st', fun b hb => (hf b hb).1⟩⟩
  rcases hty with rfl | rfl
  ·exact (Walks.strAscii (prog := X.prog) (w := X.w) (I.ok.hd hc) it x t).item i s _ _ hg st key
  ·exact (Walks.strWide (prog := X.prog) (w := X.w) (I.ok.hd hc) it x t).item i s _ _ hg st key
 done := by
  intro X hP hw hK hc i pins s σ H E I hf st hg
  subst hP hw hK
  obtain ⟨f0, f1, f2, f3, f4, f5⟩ := hf it (by simp)
  have hx : x.cps[i]? = none := Array.getElem?_eq_none hg
  rcases hty with rfl | rfl
  ·exact wpAny_pyNext_ascii_end (I.ok.hd hc) st hx fun h' eb => ⟨rfl, I.turned (t' := s.toks) (fun b o hb e => eb b o hb e) f0 f1 f3 f4 f5⟩
  ·exact wpAny_pyNext_wide_end (I.ok.hd hc) st hx fun h' eb => ⟨rfl, I.turned (t' := s.toks) (fun b o hb e => eb b o hb e) f0 f1 f3 f4 f5⟩
 self := fun _ _ _ _ _ st h => by
  rcases hty with rfl | rfl
  ·exact wpAny_pyIter_striter_ascii st h
  ·exact wpAny_pyIter_striter_wide st h
section
variable {X : Cx} {tg : Expr}
def iStr (tl : TE) : TI := fun σ H R => tl σ H fun x H1 => ∃ z, x = .str z ∧ R (Its z) H1
theorem pi_str {l : Expr} {tl : TE} (hl : PE X l tl) : PI X tg l (iStr tl) := by
 refine .mk ?_
 intro pins s σ H R I h
 refine thn (hl pins s σ H _ I h) fun v s1 ⟨x, H1, I1, r1, q1⟩ => ?_
 obtain ⟨z, e, q⟩ := q1
 subst e
 obtain ⟨t, rfl⟩ := r1
 have fin : ∀ ty : String, (ty = "str_ascii_iterator" ∨ ty = "str_iterator") → PIE X pins σ tg R (.ref s1.heap.objs.size) { s1 with heap := s1.heap.push { cls := .type ty, data := .fields #[.str z t, .int 0 0] } } := by
  intro ty hty
  refine ⟨s1.heap.objs.size, [s1.heap.objs.size], _, _, H1, rfl, I1.kept (t' := s1.toks) fun b o e => Heap.get?_push_of_some _ e, turn_str s1.heap.objs.size z t ty hty, ⟨_, Heap.get?_push_size _ rfl, rfl, rfl⟩, fun b hb => ?_, q⟩
  have e : b = s1.heap.objs.size := by simpa using hb
  subst e
  exact I1.fpOk (Nat.le_refl _) (I1.hok.fresh (Nat.le_refl _))
 cases ha : z.cps.all (· < 128)
 ·exact wpAny_pyIter_wide ha (fin _ (.inr rfl))
 ·exact wpAny_pyIter_ascii ha (fin _ (.inl rfl))
end
section
variable {own : List Str} {cap : List (Nat × Str)} {σ : St} {H1 : Hp} {D : Addr} {g : TG} {tc : TT} {te : TE} {QD : Hp → Prop}
end
end L2
set_option Elab.async false
set_option linter.all false
set_option maxRecDepth 100000
namespace L2
open PySem PySem.Spec PyProof.Rows
section
variable {prog : Program} {w : World} {A : Around} {E : Value → Shared → Prop} {s : Shared}
end
section
variable {X : Cx} {elts : List Expr} {kk : Nat} {tpos : Pos}
end
section
variable {own : List Str} {cap : List (Nat × Str)} {σ : St} {H1 : Hp} {D : Addr} {g : TG} {tc : TT} {te : TE} {QD : Hp → Prop} {K : PySem.W.Frag} {a b : Addr} {xs ys : List V}
end
end L2
set_option Elab.async false
set_option linter.all false
set_option maxRecDepth 100000
namespace L2
open PySem PySem.Spec PyProof.Rows PySem.W PySem.Calls PySem.Builtin PySem.Builtin.ObjectAttr PySem.Builtin.Getset_descriptor
def ExAt (x D : Addr) : Heap → Prop := fun h => ∃ o, h.get? x = some o ∧ o.cls = .ref D
section
variable {K : Frag} {x D : Addr}
theorem ExAt.type {M : Model} {h : Heap} (I : ExAt x D h) : Looks M h (typeOf (.ref x)) (.ref D) := by
 obtain ⟨o, e, c⟩ := I
 exact c ▸ (Looks.ld e).andThen .now
variable {prog : Program} {w : World} {A : Around} {E : Value → Shared → Prop} {s : Shared}
end
end L2
set_option Elab.async false
set_option linter.all false
set_option maxRecDepth 100000
namespace L2
open PySem PySem.Spec PyProof.Rows
theorem compTurn_set (elt target iter : Expr) (ifs : List Expr) (scope : Scope) (pos : Pos) (it acc : Value) (env : Env) :
  compTurn (.SetComp elt [⟨target, iter, ifs, 0⟩] scope pos) 0 it acc env = (do
   standAt iter.pos
   match ← pyNext it with
   | none => pure (.done .next)
   | some v =>
    letOwnedTupleGo target it v
    assign target env v
    let mut ok := true
    for c in ifs do
     if ok then ok ← isTrue c env (eval c env)
    if ok then
     (do let v ← eval elt env; standAt elt.pos; let _ ← call (.builtin "set.add") [acc, v])
    again (.compLoop (.SetComp elt [⟨target, iter, ifs, 0⟩] scope pos) 0 it acc env)) := by rfl
theorem codeAny_compStart_set {prog : Program} {w : World} {A : Around} {R : Result → Shared → Prop} {s : Shared} {elt target iter ifs rest scope pos it acc env}
  (h0 : codeAny (model prog w) A (.compLoop (.SetComp elt (⟨target, iter, ifs, 0⟩ :: rest) scope pos) 0 it acc env) R s)
  (h : wpAny (model prog w) A (pyIter it) (fun it' s' => codeAny (model prog w) A (.compLoop (.SetComp elt (⟨target, iter, ifs, 0⟩ :: rest) scope pos) 0 it' acc env) R s')
   (notedBy (model prog w) A env fun x s' => R (.error x) s') s) :
  codeAny (model prog w) A (.compStart (.SetComp elt (⟨target, iter, ifs, 0⟩ :: rest) scope pos) 0 it acc env) R s := by
 refine codeAny_of_tree ?_
 show wpAny _ _ ((compStart (.SetComp elt (⟨target, iter, ifs, 0⟩ :: rest) scope pos) 0 it acc env).onRaise (fun x => do noteFrame x env; standAt theWindowsPlace)) _ _ s
 refine wpAny_notedAt ?_
 unfold compStart
 show wpAny _ _ (ask >>= _) _ _ s
 refine wpAny_bind (wpAny_askSetting (wpAny_ite ?_))
 split
 ·first
   | exact wpAny_bind (wpAny_pure (wpAny_pure (And.intro rfl h0)))
   | exact wpAny_pure (And.intro rfl h0)
 ·first
   | exact wpAny_bind (wpAny_rule (wpAny_bind (wpAny_standAt (wpAny_bind (wpAny_mono h (fun it' s' h' => wpAny_pure (And.intro rfl h')) fun _ _ x => x)))))
   | (refine wpAny_bind (wpAny_rule ?_); show wpAny _ _ (standAt iter.pos >>= _) _ _ s; exact wpAny_bind (wpAny_standAt (wpAny_bind (wpAny_mono h (fun it' s' h' => wpAny_pure (And.intro rfl h')) fun _ _ x => x))))
theorem compLoop_set {prog : Program} {w : World} {A : Around} {R : Result → Shared → Prop} {s : Shared} {elt target iter : Expr} {scope : Scope} {pos : Pos} {it acc : Value} {env : Env} (I : Nat → Shared → Prop)
  (turn : ∀ n s, I n s → wpAny (model prog w) A (pyNext it) (fun r s₁ => match r with
   | none => R (.ok .next) s₁
   | some v => wpAny (model prog w) A (letOwnedTupleGo target it v) (fun _ s₁' => wpAny (model prog w) A (assign target env v) (fun _ s₂ =>
      wpAny (model prog w) A (eval elt env) (fun x s₄ =>
       wpAny (model prog w) A (call (.builtin "set.add") [acc, x]) (fun _ s₅ => ∃ m, m < n ∧ I m s₅) (notedBy (model prog w) A env fun e s' => R (.error e) s') s₄) (notedBy (model prog w) A env fun e s' => R (.error e) s') s₂) (notedBy (model prog w) A env fun e s' => R (.error e) s') s₁') (notedBy (model prog w) A env fun e s' => R (.error e) s') s₁) (notedBy (model prog w) A env fun e s' => R (.error e) s') s)
  (n : Nat) (h : I n s) :
  codeAny (model prog w) A (.compLoop (.SetComp elt [⟨target, iter, [], 0⟩] scope pos) 0 it acc env) R s := by
 refine codeAny_loop rfl I (fun n s hI => ?_) n h
 show wpAny _ A ((compTurn (.SetComp elt [⟨target, iter, [], 0⟩] scope pos) 0 it acc env).onRaise (fun x => do noteFrame x env; theTreesLotGoes x)) _ _ s
 refine wpAny_noted ?_
 rw [compTurn_set]
 refine wpAny_bind (wpAny_standAt (wpAny_bind (wpAny_mono (turn n s hI) (fun r s₁ h₁ => ?_) fun _ _ h' => h')))
 cases r with
 | none => exact wpAny_pure h₁
 | some v =>
  refine wpAny_bind (wpAny_mono h₁ (fun _ s₁' h₁' => ?_) fun _ _ h' => h')
  refine wpAny_bind (wpAny_mono h₁' (fun _ s₂ h₂ => wpAny_bind (wpAny_tests_nil ?_)) fun _ _ h' => h')
  refine wpAny_bind (wpAny_bind (wpAny_mono h₂ (fun x s₄ h₄ => wpAny_bind (wpAny_standAt (wpAny_bind (wpAny_mono h₄ (fun _ s₅ h₅ => wpAny_pure (wpAny_pure ⟨rfl, h₅⟩)) fun _ _ h' => h')))) fun _ _ h' => h'))
def setAt (P : Program) (w : World) (a : Addr) (S : Str → Bool) (n : Nat) : Heap → Prop := fun h => h.SetOf (strKind P w) a S n
theorem setAt_ok {P : Program} {w : World} {H : Hp} {h : Heap} {a : Addr} {S : Str → Bool} {n : Nat} (q : h.SetOf (strKind P w) a S n) : ObjOk P w H h a (.ext (setAt P w a S n)) := by
 refine ⟨q, ?_, fun h1 h2 q1 k => ?_⟩
 ·obtain ⟨o, _, _, _, e, _⟩ := q
  exact ⟨o, e⟩
 ·obtain ⟨o, es, ep, t, e, r⟩ := q1
  exact ⟨o, es, ep, t, k o e, r⟩
section
variable {X : Cx} {pins : List (Addr × Obj)} {σ : St} {H : Hp} {s : Shared} {scope : Scope} {cl : List (Str × Addr)} {own : List Str} {cap : List (Nat × Str)} {fp : List Addr} {E : Value → Shared → Prop}
theorem comp_invX {o : HO} (c : CompOk X scope cl own cap) (I : Inv X pins σ H s) (hf : ∀ b ∈ fp, FpOk X pins H b) (hlt : ∀ b ∈ fp, b < s.heap.objs.size) {h₁ : Heap} {tk : Nat} {m : Str → Option Value}
  (hk : ∀ b o, s.heap.get? b = some o → h₁.get? b = some o) (hnew : ObjOk X.prog X.w (upd H s.heap.objs.size o) h₁ s.heap.objs.size o) (hn : h₁.Ns (s.heap.objs.size + 1) m) :
  Inv (compCx X (own ++ cap.map (·.2)) scope cl (s.heap.objs.size + 1) s H fp E) [] (compSt own cap σ) (upd H s.heap.objs.size o) { s with heap := h₁, toks := tk } := by
 have hfr : H s.heap.objs.size = none := I.fresh
 have hfr1 : H (s.heap.objs.size + 1) = none := I.hok.fresh (Nat.le_succ _)
 refine ⟨comp_ok c I hf hlt (Nat.le_succ _), rfl, I.bare, Un.laid hk (Nat.le_refl _) hfr, ⟨m, hn, fun i x v e1 e2 _ => ?_⟩, fun x a e => ?_, ?_, fun x a e => ?_, fun p hp => absurd (show p ∈ ([] : List (Addr × Obj)) from hp) (by simp), I.hok.laid hk (Nat.le_refl _) hnew, ?_⟩
 ·obtain ⟨p, hp, ex, es⟩ := compSt_get e1 e2
  obtain ⟨q1, q2, q3, q4, q5⟩ := c.caps p hp
  rw [ex] at q1 q2 q3 q4 q5
  obtain ⟨m', hn', hl⟩ := I.loc
  obtain ⟨u, r, l⟩ := hl p.1 x v q1 es q2
  refine ⟨u, r, ?_⟩
  rcases l with l | ⟨k, a, e, z⟩
  ·exact absurd l.1 q3
  ·obtain ⟨a', e'⟩ := c.hasX x q5
   have ea := c.sub x a' e'
   rw [e] at ea
   cases ea
   exact .inr ⟨q5, a, e', z.keeps hk⟩
 ·obtain ⟨v, z⟩ := I.cell x a (c.sub x a e)
  exact ⟨v, z.keeps hk⟩
 ·show upd H s.heap.objs.size o (s.heap.objs.size + 1) = none
  rw [upd_ne (Nat.succ_ne_self _)]
  exact hfr1
 ·obtain ⟨v, z⟩ := I.cell x a (c.sub x a e)
  show upd H s.heap.objs.size o a = none
  rw [upd_ne (Nat.ne_of_lt z.lt)]
  exact I.freeC x a (c.sub x a e)
 ·show (compSt own cap σ).length = (own ++ cap.map (·.2)).length
  simp [compSt]
end
def more (S : Str → Bool) (n : Nat) (k : Str) : Nat := if S k then n else n + 1
def tSetC (P : Program) (w : World) (wi : TI) (g : TG) (te : TE) (own : List Str) (cap : List (Nat × Str)) : TE := fun σ H Q => wi σ H fun J H1 => ∀ D, H1 D = none →
 ∃ W : Nat → Nat → St → (Str → Bool) → Nat → Hp → Prop, (∃ m, W 0 m (compSt own cap σ) (fun _ => false) 0 (upd H1 D (.ext (setAt P w D (fun _ => false) 0)))) ∧ ∀ i m σ' S n H', W i m σ' S n H' → H' D = some (.ext (setAt P w D S n)) ∧
  ((J.stop i H' ∧ Q (.ref D) H') ∨ (J.go i H' ∧ n < 1000 ∧ ∃ N : St → (Str → Bool) → Nat → Hp → Prop, (∀ σ S n H, N σ S n H → ∃ m', m' < m ∧ W (i + 1) m' σ S n H) ∧ ∀ x H2, J.yld i H' x H2 → g x σ' H2 fun σ3 H3 => te σ3 H3 fun y H5 => ∃ k, y = .str k ∧ H5 D = some (.ext (setAt P w D S n)) ∧
   N σ3 (fun k' => S k' || decide (k' = k)) (more S n k) (upd H5 D (.ext (setAt P w D (fun k' => S k' || decide (k' = k)) (more S n k))))))
section
variable {X : Cx} {scope : Scope} {cl : List (Str × Addr)} {own : List Str} {cap : List (Nat × Str)} {tg iter elt : Expr} {wi : TI} {g : TG} {te : TE} {pos : Pos}
theorem pe_setc (c : CompOk X scope cl own cap) (hc : X.calm = true) (hi : PI X tg iter wi)
  (hg : ∀ C s H fp, PG (compCx X (own ++ cap.map (·.2)) scope cl C s H fp fun _ _ => False) tg g)
  (he : ∀ C s H fp, PE (compCx X (own ++ cap.map (·.2)) scope cl C s H fp fun _ _ => False) elt te) (hs : ∀ x, foldedSetIterable iter X.env x = pure x := by intro _; rfl) :
  PE X (.SetComp elt [⟨tg, iter, [], 0⟩] scope pos) (tSetC X.prog X.w wi g te own cap) := by
 refine .mk ?_
 intro pins s σ H Q I h
 show wpAny _ X.A (comprehension (.SetComp elt [⟨tg, iter, [], 0⟩] scope pos) scope X.env _ (newSet (.type "set")) false (eval iter X.env)) _ _ s
 refine wpAny_comprehension_free (use := none) rfl hs c.clos c.kind c.names (thn (hi pins s σ H _ I h) fun v s1 h1 => thn h1 fun itv s2 h2 => ?_)
 obtain ⟨it, fp, tn, J, H2, e, I2, T, st2, f2, hw⟩ := h2
 subst e
 refine wpAny_newSet_of (knd := strKind X.prog X.w) fun led hS => wpAny_newFunctionEnv c.cell (by intro y hy; simp at hy) (fun h₁ hns₁ hsb₁ => ?_) c.kind
 dsimp only at hns₁ hsb₁ ⊢
 generalize hO : ({ cls := .type "set", dict := none, data := .set #[] 0 (.fresh 0 0 led) } : Obj) = O at hS hns₁ hsb₁ ⊢
 have hsz : (s2.heap.push O).objs.size = s2.heap.objs.size + 1 := Heap.size_push _ _
 have kk : ∀ b o, s2.heap.get? b = some o → h₁.get? b = some o := fun b o e => hsb₁.extBut b o (by rw [hsz]; exact Nat.ne_of_lt (Nat.lt_succ_of_lt (Heap.lt_size e))) (Heap.get?_push_of_some _ (Heap.get?_push_of_some _ e))
 have hS1 : h₁.SetOf (strKind X.prog X.w) s2.heap.objs.size (fun _ => false) 0 := by
  obtain ⟨o, es, ep, t, e, r⟩ := hS
  exact ⟨o, es, ep, t, hsb₁.extBut _ _ (by rw [hsz]; exact Nat.ne_of_lt (Nat.lt_succ_self _)) (Heap.get?_push_of_some _ e), r⟩
 rw [hsz] at hns₁ ⊢
 have hlt : ∀ b ∈ fp, b < s2.heap.objs.size := fun b hb => by
  obtain ⟨o, e, _⟩ := T.obj _ _ st2 b hb
  exact Heap.lt_size e
 obtain ⟨W, ⟨m0, w0⟩, turn⟩ := hw s2.heap.objs.size I2.fresh
 have J1 := comp_invX (E := fun _ _ => False) c I2 f2 hlt (tk := s2.toks + ([] : List (Str × Value)).length) kk (setAt_ok hS1) hns₁
 generalize hX' : compCx X (own ++ cap.map (·.2)) scope cl (s2.heap.objs.size + 1) s2 H2 fp (fun _ _ => False) = X' at J1
 have hg' : PG X' tg g := hX' ▸ hg _ _ _ _
 have he' : PE X' elt te := hX' ▸ he _ _ _ _
 have pX : X'.prog = X.prog := by rw [← hX']; rfl
 have wX : X'.w = X.w := by rw [← hX']; rfl
 have kX : X'.K = X.K := by rw [← hX']; rfl
 have aX : X'.A = X.A := by rw [← hX']; rfl
 have cX : X'.calm = true := by rw [← hX']; exact hc
 have nX : X'.env = compEnvC scope cl (s2.heap.objs.size + 1) X.env := by rw [← hX']; rfl
 have xX : X'.xe = fun _ _ => False := by rw [← hX']; rfl
 have fX : ∀ b ∈ fp, ∀ {H' : Hp}, H' b = none → FpOk X' [] H' b := fun b hb {H'} hn => by
  have o1 := (comp_ok (E := fun _ _ => False) c I2 f2 hlt (C := s2.heap.objs.size + 1) (Nat.le_succ _)).exf b hb
  have o2 := (comp_ok (E := fun _ _ => False) c I2 f2 hlt (C := s2.heap.objs.size + 1) (Nat.le_succ _)).exfs b hb
  rw [← hX']
  exact ⟨hn, o1.1, o2, .inl hb, o1.2, fun p hp => absurd (show p ∈ ([] : List (Addr × Obj)) from hp) (by simp)⟩
 have hRR : ∀ D C s' H' m, Inv X pins σ H' s' → FpOk X pins H' C → s'.heap.Ns C m → Q (.ref D) H' → compPost (model X.prog X.w) X.A X.xe none (EP X pins σ Q) (.ref D) C (.ok .next) s' := by
  intro D C s' H' m I' hC hm q
  refine ⟨m, hm, fun h' hs' => ⟨.ref D, H', ?_, rfl, q⟩⟩
  exact I'.turned (t' := s'.toks) (fun b o hb e => (hs'.2 b hb).trans e) hC.1 hC.2.1 hC.2.2.2.1 hC.2.2.2.2.1 hC.2.2.2.2.2
 have fin : ∀ {σ' : St} {H' : Hp} {s' : Shared}, Inv X' [] σ' H' s' → Q (.ref s2.heap.objs.size) H' → compPost (model X.prog X.w) X.A X.xe none (EP X pins σ Q) (.ref s2.heap.objs.size) (s2.heap.objs.size + 1) (.ok .next) s' := fun {σ' H' s'} J' q => by
  rw [← hX'] at J'
  obtain ⟨A1, A2⟩ := comp_after I2 f2 (Nat.le_succ _) J'
  obtain ⟨m, hm, _⟩ := J'.loc
  exact hRR _ _ s' H' m A1 A2 hm q
 have loop : codeAny (model X.prog X.w) X.A (.compLoop (.SetComp elt [⟨tg, iter, [], 0⟩] scope pos) 0 (.ref it) (.ref s2.heap.objs.size) (compEnvC scope cl (s2.heap.objs.size + 1) X.env)) (compPost (model X.prog X.w) X.A X.xe none (EP X pins σ Q) (.ref s2.heap.objs.size) (s2.heap.objs.size + 1))
   { s2 with heap := h₁, toks := s2.toks + ([] : List (Str × Value)).length } := by
  refine compLoop_set (fun n s' => ∃ i σ' S z H', Inv X' [] σ' H' s' ∧ tn i s'.heap ∧ (∀ b ∈ fp, H' b = none) ∧ W i n σ' S z H') ?_ m0
   ⟨0, _, _, 0, _, J1, T.keep _ _ _ st2 fun b _ o e => kk b o e, fun b hb => by rw [upd_ne (Nat.ne_of_lt (hlt b hb))]; exact (f2 b hb).1, w0⟩
  rintro n s3 ⟨i, σ3, S, z, H3, I3, st3, fr3, w3⟩
  obtain ⟨hDl, w4⟩ := turn i n σ3 S z H3 w3
  rw [← nX, ← aX, ← pX, ← wX]
  have nox : ∀ {α : Type} {t : Sem α} {Q1 : α → Shared → Prop} {E1 : Value → Shared → Prop} {s : Shared}, wpAny (model X'.prog X'.w) X'.A t Q1 X'.xe s → wpAny (model X'.prog X'.w) X'.A t Q1 E1 s := fun {α t Q1 E1 s} h => by
   rw [xX] at h
   exact wpAny_mono h (fun _ _ q => q) fun _ _ f => f.elim
  rcases w4 with ⟨stop, qn⟩ | ⟨go, hz, N, hN, step⟩
  ·have d := T.done X' pX wX kX cX i [] s3 σ3 H3 X'.xe I3 (fun b hb => fX b hb (fr3 b hb)) st3 stop
   rw [← pX, ← wX] at d
   refine nox (thn d fun r s4 ⟨hr, I4⟩ => ?_)
   subst hr
   have f4 := fin I4 qn
   rw [← pX, ← wX, ← aX] at f4
   exact f4
  ·have d := T.item X' pX wX kX cX i [] s3 σ3 H3 X'.xe I3 (fun b hb => fX b hb (fr3 b hb)) st3 go
   rw [← pX, ← wX] at d
   refine nox (thn d fun r s4 ⟨u, hr, h4⟩ => ?_)
   subst hr
   refine nox (thn h4 fun _ s5 ⟨x, H5, I5, r5, y5, st5, fr5⟩ => ?_)
   have I5' := I5.pinned (fun b hb => fX b hb (fr5 b hb)) (T.obj _ _ st5)
   have again : ∀ {σ7 : St} {H7 : Hp} {s7 : Shared} {S' : Str → Bool} {z' : Nat}, Inv X' ([] ++ pinsAt fp s5.heap) σ7 H7 s7 → N σ7 S' z' H7 →
     ∃ m, m < n ∧ ∃ i σ' S z H', Inv X' [] σ' H' s7 ∧ tn i s7.heap ∧ (∀ b ∈ fp, H' b = none) ∧ W i m σ' S z H' := fun {σ7 H7 s7 S' z'} I7 n7 => by
    obtain ⟨m', hm, w7⟩ := hN _ _ _ _ n7
    refine ⟨m', hm, i + 1, σ7, S', z', H7, I7.unpinned, T.keep _ _ _ st5 fun b hb o e => (I7.pin (b, o) (List.mem_append_right _ (List.mem_append_right _ (mem_pinsAt hb e)))).1, fun b hb => ?_, w7⟩
    obtain ⟨o, e, d⟩ := T.obj _ _ st5 b hb
    exact (I7.pin (b, o) (List.mem_append_right _ (List.mem_append_right _ (mem_pinsAt hb e)))).2.1
   refine nox (thn (hg' _ s5 σ3 H5 x u _ I5' r5 (step x H5 y5)) fun _ s6 ⟨σ6, H6, I6, q6⟩ => ?_)
   refine nox (thn (he' _ s6 σ6 H6 _ I6 q6) fun u8 s8 ⟨y8, H8, I8, r8, k8, e8, d8, q8⟩ => ?_)
   subst e8
   obtain ⟨t8, rfl⟩ := r8
   have ok8 := (I8.hok _ _ d8).1
   have ok9 : s8.heap.SetOf (strKind X'.prog X'.w) s2.heap.objs.size S z := by rw [pX, wX]; exact ok8
   refine nox (call_set_add (k := k8) (knd := strKind X'.prog X'.w) (by show Value.isStrOf k8 (.str k8 t8) = true; simp [Value.isStrOf]) rfl ok9 (Nat.lt_of_le_of_lt (Nat.succ_le_of_lt hz) (by decide)) fun h' hsb hS' => ?_)
   refine again (I8.write (x := s2.heap.objs.size) (e := s2.heap.objs.size) (o := .ext (setAt X.prog X.w s2.heap.objs.size (fun k' => S k' || decide (k' = k8)) (more S z k8))) (by rw [d8]; exact trivial) (.inl rfl) (fun b' u hb hu => (hsb.2 b' hb).trans hu) ?_ ?_) q8
   ·obtain ⟨o, _, _, _, e, _⟩ := hS'
    exact ⟨o, e⟩
   ·rw [← pX, ← wX]
    exact setAt_ok hS'
 exact codeAny_compStart_set loop (T.self X.A 0 _ _ _ (T.keep _ _ _ st2 fun b _ o e => kk b o e) loop)
theorem call_lenS : CallR X (.builtin "len") (fun xs H Q => ∃ (p : Addr) (S : Str → Bool) (n : Nat), xs = [.ref p] ∧ H p = some (.ext (setAt X.prog X.w p S n)) ∧ Q (.int n) H) := by
 intro pins s σ H vs us Q I rv h
 obtain ⟨p, S, n, rfl, hp, q⟩ := h
 obtain ⟨u, rfl, ru⟩ := rv.one
 cases ru
 obtain ⟨o, es, ep, t, e, ex, d, hel, hm, hb, hf, hn⟩ := (I.hok p _ hp).1
 have hb' : es.size < 4096 := hb
 exact call_len_set e ex d hf (by omega) ⟨.int n, H, I.tok _, ⟨s.toks + 1, by rw [hn]⟩, q⟩
end
section
variable {P : Program} {w : World} {K : PySem.W.Frag} {a : Addr} {xs : List V} {g : TG} {te : TE} {own : List Str} {cap : List (Nat × Str)} {σ : St} {H1 : Hp} {QD : Hp → Prop} {D : Addr}
end
end L2
set_option Elab.async false
set_option linter.all false
set_option maxRecDepth 100000
namespace L2
open PySem PySem.Spec PyProof.Rows
section
variable {X : Cx}
theorem mt_upper : MtR X "str.upper" (fun x vs H Q => ∃ z : Str, x = .str z ∧ vs = [] ∧ z.length ≤ 1000 ∧ ∀ y : Str, y.length ≤ 3 * z.length → Q (.str y) H) := by
 intro pins s σ H x vs v us Q I rx rv h
 obtain ⟨z, rfl, rfl, hz, q⟩ := h
 obtain ⟨t, rfl⟩ := rx
 cases rv
 have hl := PyProof.Rows.len_upper z
 have hf : Builtin.Str.tooLong (Txt.upper z).length = false := PyProof.Rows.fit_upper (by omega)
 exact call_givesAt F.slot_str_upper (typeIs_str s z t) F.entry_str_upper (F.args_str_upper_1 _) (P := fun _ => True) (Gives.at (gives_str_upper z t hf)) trivial ⟨fit_le hf, .str (Txt.upper z), H, I.tok _, ⟨_, rfl⟩, q _ hl⟩
theorem call_maxL (hc : X.calm = true) : CallR X (.builtin "max") (fun xs H Q => ∃ (p : Addr) (ns : List Int), xs = [.ref p] ∧ SqL X.K H p (ns.map V.int) ∧ ns ≠ [] ∧ Q (.int (topOf ns)) H) := by
 intro pins s σ H xs us Q I r h
 obtain ⟨p, ns, rfl, hq, hne, q⟩ := h
 obtain ⟨u, rfl, ru⟩ := vals1 r
 cases ru
 obtain ⟨its, rv, pl, hz⟩ := I.list hq
 have hi := intsAre_of rv
 obtain ⟨xs, hxs⟩ := hi.allInts.items
 have hn : numsOf its = ns := hi.numsOf
 have hl : s.heap.IsList p (intItems xs) := by rw [← hxs]; exact pl.isList
 obtain ⟨o, ho, _⟩ := id hl
 have hlt : p < s.heap.objs.size := Heap.lt_size ho
 have hlen : 0 < (intItems xs).size := by
  rw [← hxs, List.size_toArray, ← rv.length, List.length_map]
  exact List.length_pos_iff.mpr hne
 refine call_max_walk (wpAny_pyIter_list hl ?_)
 refine ⟨s.heap.objs.size, _, _, _, _, _, _, rfl, Walks.list (prog := X.prog) (w := X.w) (A := X.A.in1) (I.ok.hd hc) s.heap.objs.size p (Nat.ne_of_lt hlt) (intItems xs), ⟨⟨_, Heap.get?_push_size _ rfl, rfl, rfl⟩, hl.at fun o e => Heap.get?_push_of_some _ e⟩, fun b hb => ?_, hlen, CmpOf.ints_gt (numAt xs) (fun _ _ => intItems_at), fun v h' tk hP hk => ?_⟩
 ·rcases List.mem_cons.mp hb with rfl | hb
  ·exact Heap.lt_size (Heap.get?_push_size _ rfl)
  ·obtain rfl := List.mem_singleton.mp hb
   exact Heap.lt_size (Heap.get?_push_of_some _ ho)
 ·obtain ⟨t, rfl⟩ := intItems_at hP
  have e3 : (intItems xs).size = xs.size := by simp [intItems]
  obtain ⟨h1, h2⟩ := argBest_gt (numAt xs) ((intItems xs).size - 1)
  have e : numsOf (intItems xs).toList = ns := by rw [← hxs]; exact hn
  rw [nums_intItems] at e
  have M1 : numAt xs (argBest (fun i j => decide (numAt xs i > numAt xs j)) ((intItems xs).size - 1)) ∈ ns := by
   rw [← e, numAt_eq]; exact getD_mem (by rw [List.length_map, Array.length_toList]; omega)
  have M2 : ∀ b ∈ ns, b ≤ numAt xs (argBest (fun i j => decide (numAt xs i > numAt xs j)) ((intItems xs).size - 1)) := fun b hb => by
   rw [← e] at hb
   obtain ⟨j, hj, rfl⟩ := mem_getD hb
   rw [List.length_map, Array.length_toList] at hj
   rw [← numAt_eq]; exact h2 j (by omega)
  exact ⟨.int (topOf ns), H, I.kept (kept_it hk), ⟨t, by rw [topOf_of M1 M2]⟩, q⟩
end
end L2
set_option Elab.async false
set_option linter.all false
set_option maxRecDepth 100000
namespace L2
open PySem PySem.Spec PyProof.Rows
section
variable {X : Cx}
end
section
variable {X : Cx} {elts : List Expr} {kk : Nat} {tpos : Pos}
end
end L2
set_option Elab.async false
set_option linter.all false
set_option maxRecDepth 100000
namespace L2
open PySem PySem.Spec PyProof.Rows
section
variable {prog : Program} {w : World} {A : Around} {E : Value → Shared → Prop} {s : Shared}
end
section
variable {X : Cx} {pins : List (Addr × Obj)} {σ : St} {H : Hp} {s : Shared} {z p r j1 j2 u1 u2 t : Addr} {xs ys : List V}
theorem FpOk.upd {b T : Addr} {o : HO} (h : FpOk X pins H b) (n : b ≠ T) : FpOk X pins (L2.upd H T o) b := ⟨by rw [upd_ne n]; exact h.1, h.2⟩
def Prs (H : Hp) (xs ys : List V) (ts : List Addr) : Prop := ∀ (j : Nat) (t : Addr), ts[j]? = some t → ∃ x y, xs[j]? = some x ∧ ys[j]? = some y ∧ H t = some (.tup [x, y])
theorem Prs.keep {H' : Hp} {ts : List Addr} (h : Prs H xs ys ts) (k : ∀ b v, H b = some (.tup v) → H' b = some (.tup v)) : Prs H' xs ys ts := fun j t e => by
 obtain ⟨x, y, a, b, c⟩ := h j t e
 exact ⟨x, y, a, b, k _ _ c⟩
theorem Prs.snoc {T : Addr} {x y : V} {ts : List Addr} (h : Prs H xs ys ts) (hx : xs[ts.length]? = some x) (hy : ys[ts.length]? = some y) (hT : H T = some (.tup [x, y])) : Prs H xs ys (ts ++ [T]) := fun j t e => by
 by_cases hj : j < ts.length
 ·rw [List.getElem?_append_left hj] at e; exact h j t e
 ·rw [List.getElem?_append_right (by omega)] at e
  have : j - ts.length = 0 := by
   by_cases h0 : j - ts.length = 0
   ·exact h0
   ·rw [List.getElem?_eq_none (by simp; omega)] at e; cases e
  have ej : j = ts.length := by omega
  subst ej
  simp at e
  subst e
  exact ⟨x, y, hx, hy, hT⟩
theorem SqT.step {K : PySem.W.Frag} {H' : Hp} {S a : Addr} {ls vs : List V} (k : ∀ b o, b ≠ S → H b = some o → H' b = some o) (hS : H S = some (.lst ls)) (h : SqT K H a vs) : SqT K H' a vs := by
 rcases h with (h | ⟨o, h⟩) | h
 ·exact .inl (.inl (k a _ (ne_of h hS (by intro z; cases z)) h))
 ·exact .inl (.inr ⟨o, k a _ (ne_of h hS (by intro z; cases z)) h⟩)
 ·exact .inr h
end
section
variable {X : Cx} {pins : List (Addr × Obj)} {σ : St} {H : Hp} {s : Shared} {z p r j1 j2 u1 u2 : Addr} {xs ys : List V}
end
end L2
set_option Elab.async false
set_option linter.all false
set_option maxRecDepth 100000
namespace L2
open PySem PySem.Spec PyProof.Rows
section
variable {X : Cx} {a b : Expr} {ta : TA} {p1 p2 pos1 pos2 : Pos}
end
end L2
set_option Elab.async false
set_option linter.all false
set_option maxRecDepth 100000
namespace L2
open PySem PySem.Spec PyProof.Rows
section
variable {X : Cx}
theorem op_eqNil (hu : X.A.units < cLine) : OpR X (compareOp .Eq) (fun x y H Q => ∃ a b xs, x = .ref a ∧ y = .ref b ∧ SqL X.K H a xs ∧ SqL X.K H b [] ∧ Q (.bl xs.isEmpty) H) := by
 intro pins s σ H x y v u Q I rx ry h
 obtain ⟨a, b, xs, rfl, rfl, ha, hb, q⟩ := h
 cases rx
 cases ry
 obtain ⟨its, rv, pl, hz⟩ := I.list ha
 obtain ⟨its2, rv2, pl2, hz2⟩ := I.list hb
 cases rv2
 cases xs with
 | nil =>
  cases rv
  exact SeqAt.eq_listAt (e := fun _ => true) pl.isList pl2.isList rfl hu (fun j h1 _ => absurd h1 (by simp)) ⟨.bl true, H, I, rfl, q⟩
 | cons x r =>
  cases rv with
  | cons r1 r2 => exact SeqAt.eq_list_lengthsAt pl.isList pl2.isList (by simp) hu ⟨.bl false, H, I, rfl, q⟩
end
end L2
set_option Elab.async false
set_option linter.all false
set_option maxRecDepth 100000
namespace L2
open PySem PySem.Spec PyProof.Rows
section
variable {X : Cx}
end
end L2
namespace L2
open PySem PySem.Spec PyProof.Rows
section
variable {X : Cx}
end
end L2
set_option Elab.async false
set_option linter.all false
set_option maxRecDepth 100000
namespace L3
open PySem PySem.Spec L2
open PyProof.Rows hiding St
inductive T where
 | non | bl (b : Bool) | int (i : Int) | str (z : Str) | tup (ts : List T) | ref (a : Addr) | ty (n : String)
 /-- a list that nobody changes (the script) -/
 | scr (K : PySem.W.Frag) (a : Addr) (ts : List T)
def SqC (K : PySem.W.Frag) (H : Hp) (a : Addr) (vs : List V) : Prop := (∃ o, H a = some (.frz o (.lst vs))) ∨
 ∃ (o : Obj) (its : Array Value) (n : Nat), K.lookup a = some o ∧ o.cls = .type "list" ∧ o.dict = none ∧ o.data = .seq its n ∧ its.size ≤ sizeLine ∧ Vals vs its.toList
inductive O where
 | lst (ts : List T)
 | ins (C dx : Addr) (fs : List (Str × T))
 | own (x : Addr)
 | dK (kvs : List (Key × T))
 | ext (φ : Heap → Prop)
abbrev Gp := Addr → Option O
def up (Γ : Gp) (a : Addr) (o : O) : Gp := fun b => if b = a then some o else Γ b
theorem up_same {Γ : Gp} {a : Addr} {o : O} : up Γ a o a = some o := by unfold up; rw [if_pos rfl]
theorem up_ne {Γ : Gp} {a b : Addr} {o : O} (h : b ≠ a) : up Γ a o b = Γ b := by unfold up; rw [if_neg h]
theorem up_up {Γ : Gp} {a : Addr} {o u : O} : up (up Γ a o) a u = up Γ a u := by
 funext b; unfold up; split <;> rfl
theorem gnn {Γ : Gp} {a b : Addr} {o : O} (h : Γ a = some o) (h' : Γ b = none) : a ≠ b := by
 intro e; subst e; rw [h] at h'; cases h'
section
mutual
def R (H : Hp) : V → T → Prop
 | v, .non => v = .non
 | v, .bl b => v = .bl b
 | v, .int i => v = .int i
 | v, .str z => v = .str z
 | v, .ref a => v = .ref a
 | v, .ty n => v = .ty n
 | v, .tup ts => ∃ a vs, v = .ref a ∧ H a = some (.tup vs) ∧ Rs H vs ts
 | v, .scr K a ts => v = .ref a ∧ ∃ vs, SqC K H a vs ∧ Rs H vs ts
def Rs (H : Hp) : List V → List T → Prop
 | vs, [] => vs = []
 | vs, t :: r => ∃ v ws, vs = v :: ws ∧ R H v t ∧ Rs H ws r
end
def Tq (H H' : Hp) : Prop := (∀ a vs, H a = some (.tup vs) → H' a = some (.tup vs)) ∧ ∀ a o u, H a = some (.frz o u) → H' a = some (.frz o u)
end
section
variable {H H' : Hp}
theorem Tq.refl : Tq H H := ⟨fun _ _ h => h, fun _ _ _ h => h⟩
theorem Tq.trans {H1 : Hp} (a : Tq H H1) (b : Tq H1 H') : Tq H H' := ⟨fun x vs h => b.1 x vs (a.1 x vs h), fun x o u h => b.2 x o u (a.2 x o u h)⟩
theorem SqC.mono (t : Tq H H') {K : PySem.W.Frag} {a : Addr} {vs : List V} (h : SqC K H a vs) : SqC K H' a vs := by
 rcases h with ⟨o, h⟩ | h
 ·exact .inl ⟨o, t.2 _ _ _ h⟩
 ·exact .inr h
mutual
theorem R.mono (t : Tq H H') : ∀ {x : T} {v : V}, R H v x → R H' v x
 | .non, v, h => by unfold R at h ⊢; exact h
 | .bl _, v, h => by unfold R at h ⊢; exact h
 | .int _, v, h => by unfold R at h ⊢; exact h
 | .str _, v, h => by unfold R at h ⊢; exact h
 | .ref _, v, h => by unfold R at h ⊢; exact h
 | .ty _, v, h => by unfold R at h ⊢; exact h
 | .tup ts, v, h => by
  unfold R at h ⊢
  obtain ⟨a, vs, e, s, q⟩ := h
  exact ⟨a, vs, e, t.1 a vs s, Rs.mono t q⟩
 | .scr K a ts, v, h => by
  unfold R at h ⊢
  obtain ⟨e, vs, s, q⟩ := h
  exact ⟨e, vs, s.mono t, Rs.mono t q⟩
theorem Rs.mono (t : Tq H H') : ∀ {xs : List T} {vs : List V}, Rs H vs xs → Rs H' vs xs
 | [], vs, h => by unfold Rs at h ⊢; exact h
 | x :: r, vs, h => by
  unfold Rs at h ⊢
  obtain ⟨v, ws, e, p, q⟩ := h
  exact ⟨v, ws, e, R.mono t p, Rs.mono t q⟩
end
theorem Rs.length : ∀ {xs : List T} {vs : List V}, Rs H vs xs → vs.length = xs.length
 | [], vs, h => by unfold Rs at h; subst h; rfl
 | x :: r, vs, h => by
  unfold Rs at h
  obtain ⟨v, ws, e, _, q⟩ := h
  rw [e, List.length_cons, List.length_cons, Rs.length q]
theorem Rs.get : ∀ {xs : List T} {vs : List V} {i : Nat} {x : T}, Rs H vs xs → xs[i]? = some x → ∃ v, vs[i]? = some v ∧ R H v x
 | [], vs, i, x, h, e => by simp at e
 | y :: r, vs, i, x, h, e => by
  unfold Rs at h
  obtain ⟨v, ws, e1, p, q⟩ := h
  subst e1
  cases i with
  | zero => cases e; exact ⟨v, rfl, p⟩
  | succ i => exact Rs.get (i := i) q e
theorem Rs.getV {xs : List T} {vs : List V} {i : Nat} {v : V} (h : Rs H vs xs) (e : vs[i]? = some v) : ∃ x, xs[i]? = some x ∧ R H v x := by
 have hl := h.length
 obtain ⟨hi, _⟩ := List.getElem?_eq_some_iff.mp e
 have hi' : i < xs.length := by omega
 obtain ⟨v', e', r⟩ := h.get (i := i) (x := xs[i]) (by simp [hi'])
 rw [e] at e'; cases e'
 exact ⟨xs[i], by simp [hi'], r⟩
theorem Rs.app : ∀ {xs ys : List T} {vs ws : List V}, Rs H vs xs → Rs H ws ys → Rs H (vs ++ ws) (xs ++ ys)
 | [], ys, vs, ws, h, h' => by unfold Rs at h; subst h; exact h'
 | x :: r, ys, vs, ws, h, h' => by
  unfold Rs at h
  obtain ⟨v, us, e, p, q⟩ := h
  subst e
  show Rs H (v :: (us ++ ws)) (x :: (r ++ ys))
  unfold Rs
  exact ⟨v, _, rfl, p, Rs.app q h'⟩
theorem rs_nil : Rs H [] [] := by unfold Rs; rfl
theorem rs_cons {v : V} {x : T} {vs : List V} {xs : List T} (a : R H v x) (b : Rs H vs xs) : Rs H (v :: vs) (x :: xs) := by
 unfold Rs; exact ⟨v, vs, rfl, a, b⟩
theorem rs_inv {vs : List V} {x : T} {xs : List T} (h : Rs H vs (x :: xs)) : ∃ v ws, vs = v :: ws ∧ R H v x ∧ Rs H ws xs := by unfold Rs at h; exact h
theorem rs_inv0 {vs : List V} (h : Rs H vs []) : vs = [] := by unfold Rs at h; exact h
theorem Rs.drop : ∀ {xs : List T} {vs : List V} (n : Nat), Rs H vs xs → Rs H (vs.drop n) (xs.drop n)
 | xs, vs, 0, h => h
 | [], vs, n + 1, h => by rw [rs_inv0 h]; exact rs_nil
 | x :: r, vs, n + 1, h => by
  obtain ⟨v, ws, e, _, q⟩ := rs_inv h
  subst e
  exact Rs.drop n q
theorem Rs.take : ∀ {xs : List T} {vs : List V} (n : Nat), Rs H vs xs → Rs H (vs.take n) (xs.take n)
 | xs, vs, 0, h => by rw [List.take_zero, List.take_zero]; exact rs_nil
 | [], vs, n + 1, h => by rw [rs_inv0 h]; exact rs_nil
 | x :: r, vs, n + 1, h => by
  obtain ⟨v, ws, e, p, q⟩ := rs_inv h
  subst e
  exact rs_cons p (Rs.take n q)
theorem Rs.reverse : ∀ {xs : List T} {vs : List V}, Rs H vs xs → Rs H vs.reverse xs.reverse
 | [], vs, h => by rw [rs_inv0 h]; exact rs_nil
 | x :: r, vs, h => by
  obtain ⟨v, ws, e, p, q⟩ := rs_inv h
  subst e
  rw [List.reverse_cons, List.reverse_cons]
  exact Rs.app (Rs.reverse q) (rs_cons p rs_nil)
theorem Rs.set : ∀ {xs : List T} {vs : List V} {v : V} {x : T} (n : Nat), Rs H vs xs → R H v x → Rs H (vs.set n v) (xs.set n x)
 | [], vs, v, x, n, h, p => by rw [rs_inv0 h]; exact rs_nil
 | y :: r, vs, v, x, 0, h, p => by
  obtain ⟨u, ws, e, _, q⟩ := rs_inv h
  subst e
  exact rs_cons p q
 | y :: r, vs, v, x, n + 1, h, p => by
  obtain ⟨u, ws, e, p', q⟩ := rs_inv h
  subst e
  exact rs_cons p' (Rs.set n q p)
end
def Fs (H : Hp) : List (Str × V) → List (Str × T) → Prop := Paired fun (p : Str × V) (q : Str × T) => p.1 = q.1 ∧ R H p.2 q.2
def Ks (H : Hp) : List (Key × V) → List (Key × T) → Prop := Paired fun (p : Key × V) (q : Key × T) => p.1 = q.1 ∧ R H p.2 q.2
theorem paired_imp {α β : Type} {P Q : α → β → Prop} (h : ∀ a b, P a b → Q a b) : ∀ {xs : List α} {ys : List β}, Paired P xs ys → Paired Q xs ys
 | _, _, .nil => .nil
 | _, _, .cons a b => .cons (h _ _ a) (paired_imp h b)
theorem Fs.mono {H H' : Hp} (t : Tq H H') {a : List (Str × V)} {b : List (Str × T)} (h : Fs H a b) : Fs H' a b := paired_imp (fun _ _ q => ⟨q.1, q.2.mono t⟩) h
theorem Ks.mono {H H' : Hp} (t : Tq H H') {a : List (Key × V)} {b : List (Key × T)} (h : Ks H a b) : Ks H' a b := paired_imp (fun _ _ q => ⟨q.1, q.2.mono t⟩) h
def Ho (H : Hp) (a : Addr) : O → Prop
 | .lst ts => ∃ vs, H a = some (.lst vs) ∧ Rs H vs ts
 | .ins C dx fs => ∃ gs, H a = some (.ins C dx gs) ∧ Fs H gs fs
 | .own x => H a = some (.own x)
 | .dK kvs => ∃ us, H a = some (.dK us) ∧ Ks H us kvs
 | .ext φ => H a = some (.ext φ)
def HR (H : Hp) (Γ : Gp) : Prop := ∀ a o, Γ a = some o → Ho H a o
structure Stp (H : Hp) (Γ : Gp) (H' : Hp) (Γ' : Gp) : Prop where
 tq : Tq H H'
 dom : ∀ a, H a ≠ none → H' a ≠ none
 new : ∀ a, H a ≠ none → Γ a = none → Γ' a = none
 frm : ∀ a o, H a = some o → Γ a = none → H' a = some o
section
variable {H H' H1 : Hp} {Γ Γ' Γ1 : Gp}
theorem Stp.refl : Stp H Γ H Γ := ⟨.refl, fun _ h => h, fun _ _ h => h, fun _ _ h _ => h⟩
theorem Stp.trans (a : Stp H Γ H1 Γ1) (b : Stp H1 Γ1 H' Γ') : Stp H Γ H' Γ' :=
 ⟨a.tq.trans b.tq, fun x h => b.dom x (a.dom x h), fun x h g => b.new x (a.dom x h) (a.new x h g), fun x o h g => b.frm x o (a.frm x o h g) (a.new x (by rw [h]; exact fun z => (nomatch z)) g)⟩
theorem Ho.mono {a : Addr} {o : O} (t : Tq H H') (e : ∀ u, H a = some u → H' a = some u) (h : Ho H a o) : Ho H' a o := by
 cases o with
 | lst ts => obtain ⟨vs, h, r⟩ := h; exact ⟨vs, e _ h, r.mono t⟩
 | ins C dx fs => obtain ⟨vs, h, r⟩ := h; exact ⟨vs, e _ h, r.mono t⟩
 | own x => exact e _ h
 | dK kvs => obtain ⟨vs, h, r⟩ := h; exact ⟨vs, e _ h, r.mono t⟩
 | ext φ => exact e _ h
theorem Ho.some {a : Addr} {o : O} (h : Ho H a o) : ∃ u, H a = some u ∧ (∀ vs : List V, u ≠ .tup vs) ∧ ∀ b w, u ≠ .frz b w := by
 cases o with
 | lst ts => obtain ⟨vs, h, r⟩ := h; exact ⟨_, h, ⟨fun _ z => (nomatch z), fun _ _ z => (nomatch z)⟩⟩
 | ins C dx fs => obtain ⟨vs, h, r⟩ := h; exact ⟨_, h, ⟨fun _ z => (nomatch z), fun _ _ z => (nomatch z)⟩⟩
 | own x => exact ⟨_, h, ⟨fun _ z => (nomatch z), fun _ _ z => (nomatch z)⟩⟩
 | dK kvs => obtain ⟨vs, h, r⟩ := h; exact ⟨_, h, ⟨fun _ z => (nomatch z), fun _ _ z => (nomatch z)⟩⟩
 | ext φ => exact ⟨_, h, ⟨fun _ z => (nomatch z), fun _ _ z => (nomatch z)⟩⟩
theorem HR.free (h : HR H Γ) {a : Addr} (n : H a = none) : Γ a = none := by
 cases e : Γ a with
 | none => rfl
 | some o =>
  obtain ⟨u, hu, _⟩ := (h a o e).some
  rw [n] at hu; cases hu
theorem tq_kp (k : ∀ b o, H b = some o → H' b = some o) : Tq H H' := ⟨fun a vs h => k _ _ h, fun a o u h => k _ _ h⟩
theorem Stp.keep (k : ∀ b o, H b = some o → H' b = some o) : Stp H Γ H' Γ :=
 ⟨tq_kp k, fun a h z => by
  cases e : H a with
  | none => exact h e
  | some o => exact (by rw [k a o e] at z; cases z), fun _ _ h => h, fun a o h _ => k a o h⟩
theorem HR.keep (h : HR H Γ) (k : ∀ b o, H b = some o → H' b = some o) : HR H' Γ := fun a o e => (h a o e).mono (tq_kp k) (k a)
theorem keep_new {p : Addr} {o : HO} (h : H p = none) : ∀ b u, H b = some u → upd H p o b = some u := fun b u q => by rw [upd_ne (ne_of_none q h)]; exact q
theorem Stp.make {p : Addr} {o : HO} {o3 : O} (h : H p = none) : Stp H Γ (upd H p o) (up Γ p o3) := by
 refine ⟨tq_kp (keep_new h), fun a q z => ?_, fun a q g => ?_, fun a u q _ => keep_new h a u q⟩
 ·by_cases e : a = p
  ·subst e; exact q h
  ·rw [upd_ne e] at z; exact q z
 ·have e : a ≠ p := fun e => q (by rw [e]; exact h)
  rw [up_ne e]; exact g
theorem HR.make (hr : HR H Γ) {p : Addr} {o : HO} {o3 : O} (h : H p = none) (k : Ho (upd H p o) p o3) : HR (upd H p o) (up Γ p o3) := fun a u e => by
 by_cases z : a = p
 ·subst z; rw [up_same] at e; cases e; exact k
 ·rw [up_ne z] at e
  exact (hr a u e).mono (tq_kp (keep_new h)) fun _ q => by rw [upd_ne z]; exact q
theorem tq_set {a : Addr} {o u : HO} (h : H a = some u) (n : (∀ vs : List V, u ≠ .tup vs) ∧ ∀ b w, u ≠ .frz b w) : Tq H (upd H a o) := ⟨fun x vs q => by
 have : x ≠ a := fun e => by subst e; rw [h] at q; exact n.1 vs (Option.some.inj q)
 rw [upd_ne this]; exact q, fun x b w q => by
 have : x ≠ a := fun e => by subst e; rw [h] at q; exact n.2 b w (Option.some.inj q)
 rw [upd_ne this]; exact q⟩
theorem Stp.set {a : Addr} {o : HO} {o2 o3 : O} (hr : HR H Γ) (g : Γ a = some o2) : Stp H Γ (upd H a o) (up Γ a o3) := by
 obtain ⟨u, hu, n⟩ := (hr a o2 g).some
 refine ⟨tq_set hu n, fun x q z => ?_, fun x q g' => ?_, fun x w q g' => ?_⟩
 ·by_cases e : x = a
  ·subst e; rw [upd_same] at z; cases z
  ·rw [upd_ne e] at z; exact q z
 ·have e : x ≠ a := fun e => by subst e; rw [g] at g'; cases g'
  rw [up_ne e]; exact g'
 ·have e : x ≠ a := fun e => by subst e; rw [g] at g'; cases g'
  rw [upd_ne e]; exact q
theorem HR.set {a : Addr} {o : HO} {o2 o3 : O} (hr : HR H Γ) (g : Γ a = some o2) (k : Ho (upd H a o) a o3) : HR (upd H a o) (up Γ a o3) := fun x u e => by
 obtain ⟨w, hw, n⟩ := (hr a o2 g).some
 by_cases z : x = a
 ·subst z; rw [up_same] at e; cases e; exact k
 ·rw [up_ne z] at e
  exact (hr x u e).mono (tq_set hw n) fun _ q => by rw [upd_ne z]; exact q
theorem HR.hide {a : Addr} {o u : HO} (hr : HR H Γ) (g : Γ a = none) (h : H a = some u) (n : (∀ vs : List V, u ≠ .tup vs) ∧ ∀ b w, u ≠ .frz b w) : HR (upd H a o) Γ := fun x w e => by
 have z : x ≠ a := fun z => by subst z; rw [g] at e; cases e
 exact (hr x w e).mono (tq_set h n) fun _ q => by rw [upd_ne z]; exact q
end
abbrev S3 := List (Option T)
abbrev X3 := S3 → Value → Gp → Prop
abbrev K3 := T → Gp → Prop
abbrev E3 := X3 → S3 → Gp → K3 → Prop
abbrev T3 := X3 → S3 → Gp → (Bool → Gp → Prop) → Prop
abbrev A3 := X3 → S3 → Gp → (List T → Gp → Prop) → Prop
structure D3 where
 nx : S3 → Gp → Prop
 rt : K3
 bk : S3 → Gp → Prop := fun _ _ => False
 ct : S3 → Gp → Prop := fun _ _ => False
abbrev C3 := X3 → D3 → S3 → Gp → Prop
def RO1 (H : Hp) : Option V → Option T → Prop
 | _, none => True
 | some v, some x => R H v x
 | none, some _ => False
def RS (H : Hp) : St → S3 → Prop
 | [], [] => True
 | v :: r, x :: q => RO1 H v x ∧ RS H r q
 | _, _ => False
section
variable {H H' : Hp} {Γ Γ' : Gp}
theorem RO1.mono (t : Tq H H') {v : Option V} {x : Option T} (h : RO1 H v x) : RO1 H' v x := by
 cases x with
 | none => exact trivial
 | some x => cases v with
  | none => exact h.elim
  | some v => exact R.mono t h
theorem RS.mono (t : Tq H H') : ∀ {σ : St} {τ : S3}, RS H σ τ → RS H' σ τ
 | [], [], _ => trivial
 | _ :: _, _ :: _, h => ⟨h.1.mono t, RS.mono t h.2⟩
 | [], _ :: _, h => h.elim
 | _ :: _, [], h => h.elim
theorem RS.get : ∀ {σ : St} {τ : S3} {i : Nat} {x : T}, RS H σ τ → τ[i]? = some (some x) → ∃ v, σ[i]? = some (some v) ∧ R H v x
 | [], [], i, x, _, e => by simp at e
 | v :: r, y :: q, i, x, h, e => by
  cases i with
  | zero =>
   cases e
   cases v with
   | none => exact h.1.elim
   | some v => exact ⟨v, rfl, h.1⟩
  | succ i => exact RS.get (i := i) h.2 e
 | [], _ :: _, _, _, h, _ => h.elim
 | _ :: _, [], _, _, h, _ => h.elim
theorem RS.set {v : V} {x : T} (r : R H v x) : ∀ {σ : St} {τ : S3} (i : Nat), RS H σ τ → RS H (σ.set i (some v)) (τ.set i (some x))
 | [], [], _, _ => trivial
 | _ :: _, _ :: _, 0, h => ⟨r, h.2⟩
 | _ :: _, _ :: _, i + 1, h => ⟨h.1, RS.set r i h.2⟩
 | [], _ :: _, _, h => h.elim
 | _ :: _, [], _, h => h.elim
theorem RS.len : ∀ {σ : St} {τ : S3}, RS H σ τ → σ.length = τ.length
 | [], [], _ => rfl
 | _ :: _, _ :: _, h => by rw [List.length_cons, List.length_cons, RS.len h.2]
 | [], _ :: _, h => h.elim
 | _ :: _, [], h => h.elim
def XR (H : Hp) (Γ : Gp) (Y : X3) (E : St → XK) : Prop := ∀ σ τ C H' Γ', Stp H Γ H' Γ' → HR H' Γ' → RS H' σ τ → Y τ C Γ' → E σ C none H'
theorem XR.mono {Y : X3} {E : St → XK} (x : XR H Γ Y E) (s : Stp H Γ H' Γ') : XR H' Γ' Y E := fun σ τ C H2 Γ2 s2 h2 r y => x σ τ C H2 Γ2 (s.trans s2) h2 r y
def VR (H : Hp) (Γ : Gp) (Z : K3) (Q : VK) : Prop := ∀ v x H' Γ', Stp H Γ H' Γ' → HR H' Γ' → R H' v x → Z x Γ' → Q v H'
theorem VR.mono {Z : K3} {Q : VK} (x : VR H Γ Z Q) (s : Stp H Γ H' Γ') : VR H' Γ' Z Q := fun v x' H2 Γ2 s2 h2 r y => x v x' H2 Γ2 (s.trans s2) h2 r y
def NR (H : Hp) (Γ : Gp) (Z : S3 → Gp → Prop) (Q : St → Hp → Prop) : Prop := ∀ σ τ H' Γ', Stp H Γ H' Γ' → HR H' Γ' → RS H' σ τ → Z τ Γ' → Q σ H'
theorem NR.mono {Z : S3 → Gp → Prop} {Q : St → Hp → Prop} (x : NR H Γ Z Q) (s : Stp H Γ H' Γ') : NR H' Γ' Z Q := fun v x' H2 Γ2 s2 h2 r y => x v x' H2 Γ2 (s.trans s2) h2 r y
structure DR (H : Hp) (Γ : Gp) (Z : D3) (Q : Ends) : Prop where
 nx : NR H Γ Z.nx Q.nx
 rt : VR H Γ Z.rt Q.rt
 bk : NR H Γ Z.bk Q.bk
 ct : NR H Γ Z.ct Q.ct
theorem DR.mono {Z : D3} {Q : Ends} (x : DR H Γ Z Q) (s : Stp H Γ H' Γ') : DR H' Γ' Z Q := ⟨x.nx.mono s, x.rt.mono s, x.bk.mono s, x.ct.mono s⟩
end
section
variable (E : St → XK)
def liE (t : E3) : TE := fun σ H Q => ∃ τ Γ Y Z, RS H σ τ ∧ HR H Γ ∧ t Y τ Γ Z ∧ VR H Γ Z Q ∧ XR H Γ Y E
def liT (t : T3) : TT := fun σ H Q => ∃ τ Γ Y Z, RS H σ τ ∧ HR H Γ ∧ t Y τ Γ Z ∧ (∀ b H' Γ', Stp H Γ H' Γ' → HR H' Γ' → Z b Γ' → Q b H') ∧ XR H Γ Y E
def liA (t : A3) : TA := fun σ H Q => ∃ τ Γ Y Z, RS H σ τ ∧ HR H Γ ∧ t Y τ Γ Z ∧ (∀ vs xs H' Γ', Stp H Γ H' Γ' → HR H' Γ' → Rs H' vs xs → Z xs Γ' → Q vs H') ∧ XR H Γ Y E
def liS (t : C3) : TS := fun D σ H => ∃ τ Γ Y Z, RS H σ τ ∧ HR H Γ ∧ t Y Z τ Γ ∧ DR H Γ Z D ∧ XR H Γ Y E
end
end L3
set_option Elab.async false
set_option linter.all false
set_option maxRecDepth 100000
namespace L3
open PySem PySem.Spec L2
open PyProof.Rows hiding St
section
variable {X : Cx} {E : St → XK}
theorem weakE {e : Expr} {t t' : TE} (h : PE X e t) (w : ∀ σ H Q, t' σ H Q → t σ H Q) : PE X e t' := ⟨fun pins s σ H Q I q => h.run pins s σ H Q I (w _ _ _ q)⟩
theorem weakT {e : Expr} {t t' : TT} (h : PT X e t) (w : ∀ σ H Q, t' σ H Q → t σ H Q) : PT X e t' := ⟨fun pins s σ H Q I q => h.run pins s σ H Q I (w _ _ _ q)⟩
theorem weakW {e : Expr} {t t' : TT} (h : PW X e t) (w : ∀ σ H Q, t' σ H Q → t σ H Q) : PW X e t' := ⟨fun wh pins s σ H Q I q => h.run wh pins s σ H Q I (w _ _ _ q)⟩
theorem weakA {e : List Expr} {t t' : TA} (h : PA X e t) (w : ∀ σ H Q, t' σ H Q → t σ H Q) : PA X e t' := ⟨fun pos pins s σ H Q I q => h.run pos pins s σ H Q I (w _ _ _ q)⟩
theorem weakS {e : Stmt} {t t' : TS} (h : PS X e t) (w : ∀ D σ H, t' D σ H → t D σ H) : PS X e t' := ⟨fun pins s σ H D I q => h.run pins s σ H D I (w _ _ _ q)⟩
theorem weakSs {e : List Stmt} {t t' : TS} (h : PSs X e t) (w : ∀ D σ H, t' D σ H → t D σ H) : PSs X e t' := ⟨fun pins s σ H D I q => h.run pins s σ H D I (w _ _ _ q)⟩
theorem weakG {e : Expr} {t t' : TG} (h : PG X e t) (w : ∀ v σ H Q, t' v σ H Q → t v σ H Q) : PG X e t' := ⟨fun pins s σ H v u Q I r q => h.run pins s σ H v u Q I r (w _ _ _ _ q)⟩
theorem weakGs {e : List Expr} {t t' : TGs} (h : PGs X e t) (w : ∀ v σ H Q, t' v σ H Q → t v σ H Q) : PGs X e t' := ⟨fun pins s σ H v u Q I r q => h.run pins s σ H v u Q I r (w _ _ _ _ q)⟩
theorem weakI {tg e : Expr} {t t' : TI} (h : PI X tg e t) (w : ∀ σ H Q, t' σ H Q → t σ H Q) : PI X tg e t' := ⟨fun pins s σ H Q I q => h.run pins s σ H Q I (w _ _ _ q)⟩
theorem weakTs {e : List Expr} {t t' : TT} (h : PTs X e t) (w : ∀ σ H Q, t' σ H Q → t σ H Q) : PTs X e t' := ⟨fun pins s σ H Q I q => h.run pins s σ H Q I (w _ _ _ q)⟩
theorem weakE3 {e : Expr} {t0 : TE} {t : E3} (h : PE X e t0) (w : ∀ σ H Q τ Γ Y Z, RS H σ τ → HR H Γ → t Y τ Γ Z → VR H Γ Z Q → XR H Γ Y E → t0 σ H Q) : PE X e (liE E t) :=
 weakE h (by rintro σ H Q ⟨τ, Γ, Y, Z, rs, hr, q, vr, xr⟩; exact w σ H Q τ Γ Y Z rs hr q vr xr)
theorem weakT3 {e : Expr} {t0 : TT} {t : T3} (h : PT X e t0) (w : ∀ σ H Q τ Γ Y Z, RS H σ τ → HR H Γ → t Y τ Γ Z → (∀ b H' Γ', Stp H Γ H' Γ' → HR H' Γ' → Z b Γ' → Q b H') → XR H Γ Y E → t0 σ H Q) : PT X e (liT E t) :=
 weakT h (by rintro σ H Q ⟨τ, Γ, Y, Z, rs, hr, q, vr, xr⟩; exact w σ H Q τ Γ Y Z rs hr q vr xr)
theorem weakW3 {e : Expr} {t0 : TT} {t : T3} (h : PW X e t0) (w : ∀ σ H Q τ Γ Y Z, RS H σ τ → HR H Γ → t Y τ Γ Z → (∀ b H' Γ', Stp H Γ H' Γ' → HR H' Γ' → Z b Γ' → Q b H') → XR H Γ Y E → t0 σ H Q) : PW X e (liT E t) :=
 weakW h (by rintro σ H Q ⟨τ, Γ, Y, Z, rs, hr, q, vr, xr⟩; exact w σ H Q τ Γ Y Z rs hr q vr xr)
theorem weakA3 {e : List Expr} {t0 : TA} {t : A3} (h : PA X e t0) (w : ∀ σ H Q τ Γ Y Z, RS H σ τ → HR H Γ → t Y τ Γ Z → (∀ vs xs H' Γ', Stp H Γ H' Γ' → HR H' Γ' → Rs H' vs xs → Z xs Γ' → Q vs H') → XR H Γ Y E → t0 σ H Q) : PA X e (liA E t) :=
 weakA h (by rintro σ H Q ⟨τ, Γ, Y, Z, rs, hr, q, vr, xr⟩; exact w σ H Q τ Γ Y Z rs hr q vr xr)
theorem weakTs3 {e : List Expr} {t0 : TT} {t : T3} (h : PTs X e t0) (w : ∀ σ H Q τ Γ Y Z, RS H σ τ → HR H Γ → t Y τ Γ Z → (∀ b H' Γ', Stp H Γ H' Γ' → HR H' Γ' → Z b Γ' → Q b H') → XR H Γ Y E → t0 σ H Q) : PTs X e (liT E t) :=
 weakTs h (by rintro σ H Q ⟨τ, Γ, Y, Z, rs, hr, q, vr, xr⟩; exact w σ H Q τ Γ Y Z rs hr q vr xr)
theorem weakS3 {e : Stmt} {t0 : TS} {t : C3} (h : PS X e t0) (w : ∀ D σ H τ Γ Y Z, RS H σ τ → HR H Γ → t Y Z τ Γ → DR H Γ Z D → XR H Γ Y E → t0 D σ H) : PS X e (liS E t) :=
 weakS h (by rintro D σ H ⟨τ, Γ, Y, Z, rs, hr, q, dr, xr⟩; exact w D σ H τ Γ Y Z rs hr q dr xr)
theorem weakSs3 {e : List Stmt} {t0 : TS} {t : C3} (h : PSs X e t0) (w : ∀ D σ H τ Γ Y Z, RS H σ τ → HR H Γ → t Y Z τ Γ → DR H Γ Z D → XR H Γ Y E → t0 D σ H) : PSs X e (liS E t) :=
 weakSs h (by rintro D σ H ⟨τ, Γ, Y, Z, rs, hr, q, dr, xr⟩; exact w D σ H τ Γ Y Z rs hr q dr xr)
section
variable {H : Hp}
theorem r_non : R H .non .non := by unfold R; rfl
theorem r_bl {b : Bool} : R H (.bl b) (.bl b) := by unfold R; rfl
theorem r_int {i : Int} : R H (.int i) (.int i) := by unfold R; rfl
theorem r_str {z : Str} : R H (.str z) (.str z) := by unfold R; rfl
theorem r_ref {a : Addr} : R H (.ref a) (.ref a) := by unfold R; rfl
theorem r_tup {a : Addr} {vs : List V} {ts : List T} (h : H a = some (.tup vs)) (r : Rs H vs ts) : R H (.ref a) (.tup ts) := by unfold R; exact ⟨a, vs, rfl, h, r⟩
theorem i_non {v : V} (h : R H v .non) : v = .non := by unfold R at h; exact h
theorem i_bl {v : V} {b : Bool} (h : R H v (.bl b)) : v = .bl b := by unfold R at h; exact h
theorem i_int {v : V} {b : Int} (h : R H v (.int b)) : v = .int b := by unfold R at h; exact h
theorem i_str {v : V} {b : Str} (h : R H v (.str b)) : v = .str b := by unfold R at h; exact h
theorem i_ref {v : V} {b : Addr} (h : R H v (.ref b)) : v = .ref b := by unfold R at h; exact h
theorem i_ty {v : V} {b : String} (h : R H v (.ty b)) : v = .ty b := by unfold R at h; exact h
theorem i_scr {K : PySem.W.Frag} {v : V} {a : Addr} {ts : List T} (h : R H v (.scr K a ts)) : v = .ref a ∧ ∃ vs, SqC K H a vs ∧ Rs H vs ts := by unfold R at h; exact h
theorem r_scr {K : PySem.W.Frag} {a : Addr} {vs : List V} {ts : List T} (h : SqC K H a vs) (q : Rs H vs ts) : R H (.ref a) (.scr K a ts) := by unfold R; exact ⟨rfl, vs, h, q⟩
theorem SqC.sq {K : PySem.W.Frag} {a : Addr} {vs : List V} (h : SqC K H a vs) : SqL K H a vs := by
 rcases h with ⟨o, h⟩ | h
 ·exact .inl (.inr ⟨o, h⟩)
 ·exact .inr h
theorem i_tup {v : V} {ts : List T} (h : R H v (.tup ts)) : ∃ a vs, v = .ref a ∧ H a = some (.tup vs) ∧ Rs H vs ts := by unfold R at h; exact h
end
def eVar (i : Nat) : E3 := fun _ τ Γ Z => ∃ x, τ[i]? = some (some x) ∧ Z x Γ
def eC (x : T) : E3 := fun _ _ Γ Z => Z x Γ
theorem qv (i : Nat) {x : Str} {pos : Pos} (hN : X.N[i]? = some x := by rfl) (hv : Vis X.env.scope x := by first | exact Or.inl rfl | exact Or.inr (Or.inl rfl) | exact Or.inr (Or.inr rfl)) (hd : (x == ("__debug__" : Str)) = false := by decide)
  (hcd : (x == ("__classdict__" : Str)) = false := by decide) : PE X (.Name x pos) (liE E (eVar i)) :=
 weakE3 (pe_var hN hv hd hcd) fun σ H Q τ Γ Y Z rs hr q0 vr xr => by
  obtain ⟨x, e, z⟩ := q0
  obtain ⟨v, hv, r⟩ := rs.get e
  exact ⟨v, hv, vr v x H Γ .refl hr r z⟩
theorem q_c {e : Expr} {v : V} {x : T} (h : PE X e (tC v)) (r : ∀ H, R H v x) : PE X e (liE E (eC x)) :=
 weakE3 h fun σ H Q τ Γ Y Z rs hr z vr xr => vr v x H Γ .refl hr (r H) z
theorem qe_int {i j pos} : PE X (.Constant (.int i) j pos) (liE E (eC (.int i))) := q_c pe_int fun _ => r_int
theorem qe_bl {b j pos} : PE X (.Constant (.bool b) j pos) (liE E (eC (.bl b))) := q_c pe_bl fun _ => r_bl
theorem qe_non {j pos} : PE X (.Constant .none j pos) (liE E (eC .non)) := q_c pe_non fun _ => r_non
theorem qe_str {x j pos} : PE X (.Constant (.str x) j pos) (liE E (eC (.str x))) := q_c pe_str fun _ => r_str
def GlobIs (u : Value) (x : T) : Prop := ∃ v, RelV v u ∧ ∀ H, R H v x
theorem qe_glob {x : Str} {t : T} {u : Value} {pos : Pos} (hg : Gl X x) (hm : X.mg x = some u) (r : GlobIs u t) (hd : (x == ("__debug__" : Str)) = false := by decide) : PE X (.Name x pos) (liE E (eC t)) := by
 obtain ⟨v, r, h⟩ := r
 exact q_c (pe_glob hg hm r hd) h
theorem gl_int {i : Int} {u : Value} (h : RelV (.int i) u) : GlobIs u (.int i) := ⟨_, h, fun _ => r_int⟩
theorem gl_str {i : Str} {u : Value} (h : RelV (.str i) u) : GlobIs u (.str i) := ⟨_, h, fun _ => r_str⟩
theorem gl_ref {i : Addr} : GlobIs (.ref i) (.ref i) := ⟨.ref i, rfl, fun _ => r_ref⟩
abbrev R3 := T → T → Gp → K3 → Prop
def OpQ (X : Cx) (f : Value → Value → Sem Value) (r3 : R3) : Prop := ∃ r : R2, OpR X f r ∧ ∀ x y a b H Γ Q Z, R H x a → R H y b → HR H Γ → r3 a b Γ Z → VR H Γ Z Q → r x y H Q
def eOp (r3 : R3) (ta tb : E3) : E3 := fun Y τ Γ Z => ta Y τ Γ fun x Γ1 => tb Y τ Γ1 fun y Γ2 => r3 x y Γ2 Z
theorem op_sim {r : R2} {r3 : R3} {ta tb : E3} (h : ∀ x y a b H Γ Q Z, R H x a → R H y b → HR H Γ → r3 a b Γ Z → VR H Γ Z Q → r x y H Q) (σ : St) (H : Hp) (Q : VK) (q : liE E (eOp r3 ta tb) σ H Q) : tOp r (liE E ta) (liE E tb) σ H Q := by
 obtain ⟨τ, Γ, Y, Z, rs, hr, t, vr, xr⟩ := q
 refine ⟨τ, Γ, Y, _, rs, hr, t, fun v x H1 Γ1 s1 h1 r1 z1 => ?_, xr⟩
 refine ⟨τ, Γ1, Y, _, rs.mono s1.tq, h1, z1, fun u y H2 Γ2 s2 h2 r2 z2 => ?_, xr.mono s1⟩
 exact h v u x y H2 Γ2 Q Z (r1.mono s2.tq) r2 h2 z2 (vr.mono (s1.trans s2))
section
variable {a b c : Expr} {ta tb tc : E3} {pos : Pos} {op op' : CmpOp} {r3 r3' : R3}
theorem qe_op {op : Operator} (ho : OpQ X (binaryOp op) r3) (ha : PE X a (liE E ta)) (hb : PE X b (liE E tb)) : PE X (.BinOp a op b pos) (liE E (eOp r3 ta tb)) := by
 obtain ⟨r, ho, h⟩ := ho
 exact weakE (pe_op ho ha hb) (op_sim h)
theorem qe_cmpR (ho : OpQ X (compareOp op) r3) (ha : PE X a (liE E ta)) (hb : PE X b (liE E tb)) (hm : behindInMarks op b = false) : PE X (.Compare a [op] [b] pos) (liE E (eOp r3 ta tb)) := by
 obtain ⟨r, ho, h⟩ := ho
 exact weakE (pe_cmpR ho ha hb hm) (op_sim h)
def eT (t : E3) : T3 := fun Y τ Γ Z => t Y τ Γ fun x Γ1 => ∃ k, x = .bl k ∧ Z k Γ1
theorem test_sim {t2 : TE} {t : E3} (h : ∀ σ H Q, liE E t σ H Q → t2 σ H Q) (σ : St) (H : Hp) (Q : Bool → Hp → Prop) (q : liT E (eT t) σ H Q) : tTest t2 σ H Q := by
 obtain ⟨τ, Γ, Y, Z, rs, hr, t, vr, xr⟩ := q
 refine h σ H _ ⟨τ, Γ, Y, _, rs, hr, t, fun v x H1 Γ1 s1 h1 r1 z1 => ?_, xr⟩
 obtain ⟨k, rfl, z⟩ := z1
 exact ⟨k, i_bl r1, vr k H1 Γ1 s1 h1 z⟩
theorem qt_cmpR (ho : OpQ X (compareOp op) r3) (ha : PE X a (liE E ta)) (hb : PE X b (liE E tb)) (hm : behindInMarks op b = false) : PT X (.Compare a [op] [b] pos) (liT E (eT (eOp r3 ta tb))) := by
 obtain ⟨r, ho, h⟩ := ho
 exact weakT (pt_cmpR ho ha hb hm) (test_sim (op_sim h))
def eChain (r r' : R3) (ta tb tc : E3) : E3 := fun Y τ Γ Z => ta Y τ Γ fun x Γ1 => tb Y τ Γ1 fun y Γ2 => r x y Γ2 fun z Γ3 => ∃ k, z = .bl k ∧ (if k = true then tc Y τ Γ3 fun w' Γ4 => r' y w' Γ4 Z else Z (.bl false) Γ3)
theorem chain_sim {r r' : R2} (h : ∀ x y a b H Γ Q Z, R H x a → R H y b → HR H Γ → r3 a b Γ Z → VR H Γ Z Q → r x y H Q) (h' : ∀ x y a b H Γ Q Z, R H x a → R H y b → HR H Γ → r3' a b Γ Z → VR H Γ Z Q → r' x y H Q)
  (σ : St) (H : Hp) (Q : VK) (q : liE E (eChain r3 r3' ta tb tc) σ H Q) : tChain r r' (liE E ta) (liE E tb) (liE E tc) σ H Q := by
 obtain ⟨τ, Γ, Y, Z, rs, hr, t, vr, xr⟩ := q
 refine ⟨τ, Γ, Y, _, rs, hr, t, fun v x H1 Γ1 s1 h1 r1 z1 => ?_, xr⟩
 refine ⟨τ, Γ1, Y, _, rs.mono s1.tq, h1, z1, fun u y H2 Γ2 s2 h2 r2 z2 => ?_, xr.mono s1⟩
 refine h v u x y H2 Γ2 _ _ (r1.mono s2.tq) r2 h2 z2 fun d z H3 Γ3 s3 h3 r3 z3 => ?_
 obtain ⟨k, rfl, z3⟩ := z3
 refine ⟨k, i_bl r3, ?_⟩
 cases k with
 | false => exact vr _ _ H3 Γ3 ((s1.trans s2).trans s3) h3 r_bl z3
 | true =>
  refine ⟨τ, Γ3, Y, _, rs.mono ((s1.trans s2).trans s3).tq, h3, z3, fun w' y' H4 Γ4 s4 h4 r4 z4 => ?_, xr.mono ((s1.trans s2).trans s3)⟩
  exact h' u w' y y' H4 Γ4 Q Z (r2.mono (s3.trans s4).tq) r4 h4 z4 (vr.mono (((s1.trans s2).trans s3).trans s4))
theorem qe_chain (ho : OpQ X (compareOp op) r3) (ho' : OpQ X (compareOp op') r3') (ha : PE X a (liE E ta)) (hb : PE X b (liE E tb)) (hc : PE X c (liE E tc)) (hm : lastMarks [op, op'] [b, c] = false := by with_unfolding_all rfl) :
  PE X (.Compare a [op, op'] [b, c] pos) (liE E (eChain r3 r3' ta tb tc)) := by
 obtain ⟨r, ho, h⟩ := ho
 obtain ⟨r', ho', h'⟩ := ho'
 exact weakE (pe_chain ho ho' ha hb hc hm) (chain_sim h h')
theorem qt_chain (ho : OpQ X (compareOp op) r3) (ho' : OpQ X (compareOp op') r3') (ha : PE X a (liE E ta)) (hb : PE X b (liE E tb)) (hc : PE X c (liE E tc)) (hm : lastMarks [op, op'] [b, c] = false := by with_unfolding_all rfl) :
  PT X (.Compare a [op, op'] [b, c] pos) (liT E (eT (eChain r3 r3' ta tb tc))) := by
 obtain ⟨r, ho, h⟩ := ho
 obtain ⟨r', ho', h'⟩ := ho'
 exact weakT (pt_chain ho ho' ha hb hc hm) (test_sim (chain_sim h h'))
def eAnd (ta tb : E3) : E3 := fun Y τ Γ Z => ta Y τ Γ fun x Γ1 => ∃ c, x = .bl c ∧ if c = true then tb Y τ Γ1 Z else Z (.bl false) Γ1
def eOr (ta tb : E3) : E3 := fun Y τ Γ Z => ta Y τ Γ fun x Γ1 => ∃ c, x = .bl c ∧ if c = true then Z (.bl true) Γ1 else tb Y τ Γ1 Z
def eNot (ta : E3) : E3 := fun Y τ Γ Z => ta Y τ Γ fun x Γ1 => ∃ c, x = .bl c ∧ Z (.bl (!c)) Γ1
theorem qe_one {op} (h : PE X a (liE E ta)) : PE X (.BoolOp op [a] pos) (liE E ta) := pe_one h
theorem qe_and {rest : List Expr} (ha : PE X a (liE E ta)) (hb : PE X (.BoolOp .And (b :: rest) pos) (liE E tb)) : PE X (.BoolOp .And (a :: b :: rest) pos) (liE E (eAnd ta tb)) :=
 weakE3 (pe_and ha hb) fun σ H Q τ Γ Y Z rs hr t vr xr => by
  refine ⟨τ, Γ, Y, _, rs, hr, t, fun v x H1 Γ1 s1 h1 r1 z1 => ?_, xr⟩
  obtain ⟨k, rfl, z1⟩ := z1
  refine ⟨k, i_bl r1, ?_⟩
  cases k with
  | false => exact vr _ _ H1 Γ1 s1 h1 r_bl z1
  | true => exact ⟨τ, Γ1, Y, Z, rs.mono s1.tq, h1, z1, vr.mono s1, xr.mono s1⟩
theorem qe_or {rest : List Expr} (ha : PE X a (liE E ta)) (hb : PE X (.BoolOp .Or (b :: rest) pos) (liE E tb)) : PE X (.BoolOp .Or (a :: b :: rest) pos) (liE E (eOr ta tb)) :=
 weakE3 (pe_or ha hb) fun σ H Q τ Γ Y Z rs hr t vr xr => by
  refine ⟨τ, Γ, Y, _, rs, hr, t, fun v x H1 Γ1 s1 h1 r1 z1 => ?_, xr⟩
  obtain ⟨k, rfl, z1⟩ := z1
  refine ⟨k, i_bl r1, ?_⟩
  cases k with
  | true => exact vr _ _ H1 Γ1 s1 h1 r_bl z1
  | false => exact ⟨τ, Γ1, Y, Z, rs.mono s1.tq, h1, z1, vr.mono s1, xr.mono s1⟩
theorem qe_not (ha : PE X a (liE E ta)) : PE X (.UnaryOp .Not a pos) (liE E (eNot ta)) :=
 weakE3 (pe_not ha) fun σ H Q τ Γ Y Z rs hr t vr xr => by
  refine ⟨τ, Γ, Y, _, rs, hr, t, fun v x H1 Γ1 s1 h1 r1 z1 => ?_, xr⟩
  obtain ⟨k, rfl, z1⟩ := z1
  exact ⟨k, i_bl r1, vr _ _ H1 Γ1 s1 h1 r_bl z1⟩
variable {tA tB : T3}
def bAnd (t u : T3) : T3 := fun Y τ Γ Z => t Y τ Γ fun c Γ1 => if c = true then u Y τ Γ1 Z else Z false Γ1
def bOr (t u : T3) : T3 := fun Y τ Γ Z => t Y τ Γ fun c Γ1 => if c = true then Z true Γ1 else u Y τ Γ1 Z
def bNot (t : T3) : T3 := fun Y τ Γ Z => t Y τ Γ fun c Γ1 => Z (!c) Γ1
theorem qw_and1 (ha : PT X a (liT E tA)) : PW X (.BoolOp .And [a] pos) (liT E tA) := pw_and1 ha
theorem qw_or1 (ha : PT X a (liT E tA)) : PW X (.BoolOp .Or [a] pos) (liT E tA) := pw_or1 ha
theorem qw_and {rest : List Expr} (ha : PT X a (liT E tA)) (hb : PW X (.BoolOp .And (b :: rest) pos) (liT E tB)) : PW X (.BoolOp .And (a :: b :: rest) pos) (liT E (bAnd tA tB)) :=
 weakW3 (pw_and ha hb) fun σ H Q τ Γ Y Z rs hr t vr xr => by
  refine ⟨τ, Γ, Y, _, rs, hr, t, fun k H1 Γ1 s1 h1 z1 => ?_, xr⟩
  cases k with
  | false => exact vr _ H1 Γ1 s1 h1 z1
  | true => exact ⟨τ, Γ1, Y, Z, rs.mono s1.tq, h1, z1, fun b H2 Γ2 s2 h2 z2 => vr b H2 Γ2 (s1.trans s2) h2 z2, xr.mono s1⟩
theorem qw_or {rest : List Expr} (ha : PT X a (liT E tA)) (hb : PW X (.BoolOp .Or (b :: rest) pos) (liT E tB)) : PW X (.BoolOp .Or (a :: b :: rest) pos) (liT E (bOr tA tB)) :=
 weakW3 (pw_or ha hb) fun σ H Q τ Γ Y Z rs hr t vr xr => by
  refine ⟨τ, Γ, Y, _, rs, hr, t, fun k H1 Γ1 s1 h1 z1 => ?_, xr⟩
  cases k with
  | true => exact vr _ H1 Γ1 s1 h1 z1
  | false => exact ⟨τ, Γ1, Y, Z, rs.mono s1.tq, h1, z1, fun b H2 Γ2 s2 h2 z2 => vr b H2 Γ2 (s1.trans s2) h2 z2, xr.mono s1⟩
theorem qt_not (ha : PT X a (liT E tA)) : PT X (.UnaryOp .Not a pos) (liT E (bNot tA)) :=
 weakT3 (pt_not ha) fun σ H Q τ Γ Y Z rs hr t vr xr => ⟨τ, Γ, Y, _, rs, hr, t, fun k H1 Γ1 s1 h1 z1 => vr _ H1 Γ1 s1 h1 z1, xr⟩
theorem qt_val {e : Expr} {t : E3} (h : PE X e (liE E t)) (he : ∀ whole, isTrue e X.env whole = (do let v ← whole; standAt e.pos; holding [v] (truthy v)) := by intro _; rfl) : PT X e (liT E (eT t)) :=
 weakT (pt_val h he) (test_sim (t2 := liE E t) fun _ _ _ q => q)
def eIf (c : T3) (ta tb : E3) : E3 := fun Y τ Γ Z => c Y τ Γ fun k Γ1 => if k = true then ta Y τ Γ1 Z else tb Y τ Γ1 Z
end
section
variable {e : Expr} {es : List Expr} {te : E3} {t : A3} {pos : Pos}
def aNil : A3 := fun _ _ Γ Z => Z [] Γ
def aCons (ta : E3) (tr : A3) : A3 := fun Y τ Γ Z => ta Y τ Γ fun x Γ1 => tr Y τ Γ1 fun xs Γ2 => Z (x :: xs) Γ2
theorem qa_nil : PA X [] (liA E aNil) := weakA3 pa_nil fun σ H Q τ Γ Y Z rs hr t vr xr => vr [] [] H Γ .refl hr rs_nil t
theorem qa_cons (ha : PE X e (liE E te)) (hr : PA X es (liA E t)) (hs : starEach (e :: es) X.env = (false, eval e X.env) :: starEach es X.env := by rfl) : PA X (e :: es) (liA E (aCons te t)) :=
 weakA3 (pa_cons ha hr hs) fun σ H Q τ Γ Y Z rs hr t vr xr => by
  refine ⟨τ, Γ, Y, _, rs, hr, t, fun v x H1 Γ1 s1 h1 r1 z1 => ?_, xr⟩
  exact ⟨τ, Γ1, Y, _, rs.mono s1.tq, h1, z1, fun vs xs H2 Γ2 s2 h2 r2 z2 => vr (v :: vs) (x :: xs) H2 Γ2 (s1.trans s2) h2 (rs_cons (r1.mono s2.tq) r2) z2, xr.mono s1⟩
def eTup (t : A3) : E3 := fun Y τ Γ Z => t Y τ Γ fun xs Γ1 => xs.length ≤ sizeLine ∧ Z (.tup xs) Γ1
def eLst (t : A3) : E3 := fun Y τ Γ Z => t Y τ Γ fun xs Γ1 => xs.length ≤ sizeLine ∧ ∀ p, Γ1 p = none → Z (.ref p) (up Γ1 p (.lst xs))
theorem qe_tup {x1} (h : PA X es (liA E t)) : PE X (.Tuple es x1 pos) (liE E (eTup t)) :=
 weakE3 (pe_tup h) fun σ H Q τ Γ Y Z rs hr t vr xr => by
  refine ⟨τ, Γ, Y, _, rs, hr, t, fun vs xs H1 Γ1 s1 h1 r1 z1 => ?_, xr⟩
  refine ⟨by rw [r1.length]; exact z1.1, fun p hp => ?_⟩
  have k := keep_new (o := .tup vs) hp
  exact vr _ _ _ Γ1 (s1.trans (.keep k)) (h1.keep k) (r_tup upd_same (r1.mono (tq_kp k))) z1.2
theorem qe_lst (h : PA X es (liA E t)) : PE X (.List es pos) (liE E (eLst t)) :=
 weakE3 (pe_lst h) fun σ H Q τ Γ Y Z rs hr t vr xr => by
  refine ⟨τ, Γ, Y, _, rs, hr, t, fun vs xs H1 Γ1 s1 h1 r1 z1 => ?_, xr⟩
  refine ⟨by rw [r1.length]; exact z1.1, fun p hp => ?_⟩
  have k := keep_new (o := .lst vs) hp
  exact vr _ _ _ _ (s1.trans (.make hp)) (h1.make (o3 := .lst xs) hp ⟨vs, upd_same, r1.mono (tq_kp k)⟩) r_ref (z1.2 p (h1.free hp))
end
abbrev Sp3 := List T → Gp → K3 → (Value → Gp → Prop) → Prop
def liSp (sp : Sp3) : Sp := fun vs H Q E => ∃ ts Γ Z Y, Rs H vs ts ∧ HR H Γ ∧ sp ts Γ Z Y ∧ VR H Γ Z Q ∧ ∀ C H' Γ', Stp H Γ H' Γ' → HR H' Γ' → Y C Γ' → E C none H'
abbrev Cl3 (P : Program) (w : World) (K : PySem.W.Frag) (mg : Str → Option Value) (base : Heap) (x : Str) (k : Nat) (ps : List Str) (sp : Sp3) : Prop := Callee P w K mg base x k ps (liSp sp)
def eCall (sp : Sp3) (t : A3) : E3 := fun Y τ Γ Z => t Y τ Γ fun xs Γ1 => sp xs Γ1 Z fun _ _ => False
def eCallX (sp : Sp3) (t : A3) : E3 := fun Y τ Γ Z => t Y τ Γ fun xs Γ1 => sp xs Γ1 Z (Y τ)
section
variable {x : Str} {k j : Nat} {ps : List Str} {sp : Sp3} {p pos : Pos} {e : Expr} {es : List Expr} {t : A3}
theorem qe_call (c : Cl3 X.prog X.w X.K X.mg X.base x k ps sp) (hr : Room j X.A) (hk : k ≤ j) (hg : Gl X x) (ha : PA X (e :: es) (liA E t)) (hdb : (x == ("__debug__" : Str)) = false := by decide)
  (he : starEach (e :: es) X.env = (false, eval e X.env) :: starEach es X.env := by rfl) (hpl : (backTo pos (starEach es X.env)).any (·.1) = false := by rfl) : PE X (.Call (.Name x p) (e :: es) [] pos) (liE E (eCall sp t)) :=
 weakE3 (pe_callC c hr hk hg ha hdb he hpl) fun σ H Q τ Γ Y Z rs hr t vr xr => by
  refine ⟨τ, Γ, Y, _, rs, hr, t, fun vs xs H1 Γ1 s1 h1 r1 z1 => ?_, xr⟩
  show liSp sp (vs ++ []) H1 Q E0
  rw [List.append_nil]
  exact ⟨xs, Γ1, Z, _, r1, h1, z1, vr.mono s1, fun _ _ _ _ _ z => z.elim⟩
end
end
end L3
set_option Elab.async false
set_option linter.all false
set_option maxRecDepth 100000
namespace L3
open PySem PySem.Spec L2
open PyProof.Rows hiding St
section
variable {X : Cx} {E : St → XK} {st : Stmt} {sts : List Stmt} {e : Expr} {te : E3} {pos : Pos} {t u : C3}
def cNext : C3 := fun _ D τ Γ => D.nx τ Γ
def cCont : C3 := fun _ D τ Γ => D.ct τ Γ
def cSeq (t u : C3) : C3 := fun Y D τ Γ => t Y { D with nx := u Y D } τ Γ
def cDrop (te : E3) : C3 := fun Y D τ Γ => te Y τ Γ fun _ Γ1 => D.nx τ Γ1
def cRet (te : E3) : C3 := fun Y D τ Γ => te Y τ Γ D.rt
def cRetN : C3 := fun _ D _ Γ => D.rt .non Γ
def cIf (c : T3) (t u : C3) : C3 := fun Y D τ Γ => c Y τ Γ fun b Γ1 => if b = true then t Y D τ Γ1 else u Y D τ Γ1
theorem qss_nil : PSs X [] (liS E cNext) := weakSs3 pss_nil fun D σ H τ Γ Y Z rs hr t dr xr => dr.nx σ τ H Γ .refl hr rs t
theorem qss_cons (h1 : PS X st (liS E t)) (h2 : PSs X sts (liS E u)) : PSs X (st :: sts) (liS E (cSeq t u)) :=
 weakSs3 (pss_cons h1 h2) fun D σ H τ Γ Y Z rs hr t dr xr =>
  ⟨τ, Γ, Y, _, rs, hr, t, ⟨fun σ' τ' H' Γ' s h r z => ⟨τ', Γ', Y, Z, r, h, z, dr.mono s, xr.mono s⟩, dr.rt, dr.bk, dr.ct⟩, xr⟩
theorem qs_expr (he : PE X e (liE E te)) (hs : swapsWith e none pos.line X.env = pure false := by rfl) : PS X (.Expr e pos) (liS E (cDrop te)) :=
 weakS3 (ps_expr he hs) fun D σ H τ Γ Y Z rs hr t dr xr => ⟨τ, Γ, Y, _, rs, hr, t, fun v x H' Γ' s h r z => dr.nx σ τ H' Γ' s h (rs.mono s.tq) z, xr⟩
theorem qs_ret (he : PE X e (liE E te)) : PS X (.Return (some e) pos) (liS E (cRet te)) :=
 weakS3 (ps_ret he) fun D σ H τ Γ Y Z rs hr t dr xr => ⟨τ, Γ, Y, _, rs, hr, t, dr.rt, xr⟩
theorem qs_if {c : Expr} {a b : List Stmt} {tc : T3} (hc : PT X c (liT E tc)) (ha : PSs X a (liS E t)) (hb : PSs X b (liS E u)) : PS X (.If c a b pos) (liS E (cIf tc t u)) :=
 weakS3 (ps_if hc ha hb) fun D σ H τ Γ Y Z rs hr t dr xr => by
  refine ⟨τ, Γ, Y, _, rs, hr, t, fun k H1 Γ1 s1 h1 z1 => ?_, xr⟩
  cases k with
  | true => exact ⟨τ, Γ1, Y, Z, rs.mono s1.tq, h1, z1, dr.mono s1, xr.mono s1⟩
  | false => exact ⟨τ, Γ1, Y, Z, rs.mono s1.tq, h1, z1, dr.mono s1, xr.mono s1⟩
def cCut (t : C3) : C3 := fun Y D τ Γ => ∃ P : S3 → Gp → Prop, t Y { D with nx := P } τ Γ ∧ ∀ τ Γ, P τ Γ → D.nx τ Γ
theorem qs_cut (h : PS X st (liS E t)) : PS X st (liS E (cCut t)) :=
 weakS3 h fun D σ H τ Γ Y Z rs hr q0 dr xr => by obtain ⟨P, t, k⟩ := q0; exact ⟨τ, Γ, Y, _, rs, hr, t, ⟨fun σ' τ' H' Γ' s h r z => dr.nx σ' τ' H' Γ' s h r (k _ _ z), dr.rt, dr.bk, dr.ct⟩, xr⟩
abbrev G3 := X3 → T → S3 → Gp → (S3 → Gp → Prop) → Prop
abbrev Gs3 := X3 → List T → S3 → Gp → (S3 → Gp → Prop) → Prop
def liG (E : St → XK) (g : G3) : TG := fun v σ H Q => ∃ x τ Γ Y Z, R H v x ∧ RS H σ τ ∧ HR H Γ ∧ g Y x τ Γ Z ∧ NR H Γ Z Q ∧ XR H Γ Y E
def liGs (E : St → XK) (g : Gs3) : TGs := fun v σ H Q => ∃ x τ Γ Y Z, Rs H v x ∧ RS H σ τ ∧ HR H Γ ∧ g Y x τ Γ Z ∧ NR H Γ Z Q ∧ XR H Γ Y E
theorem weakG3 {e : Expr} {t0 : TG} {t : G3} (h : PG X e t0) (w : ∀ v σ H Q x τ Γ Y Z, R H v x → RS H σ τ → HR H Γ → t Y x τ Γ Z → NR H Γ Z Q → XR H Γ Y E → t0 v σ H Q) : PG X e (liG E t) :=
 weakG h (by rintro v σ H Q ⟨x, τ, Γ, Y, Z, r, rs, hr, q, nr, xr⟩; exact w v σ H Q x τ Γ Y Z r rs hr q nr xr)
theorem weakGs3 {e : List Expr} {t0 : TGs} {t : Gs3} (h : PGs X e t0) (w : ∀ v σ H Q x τ Γ Y Z, Rs H v x → RS H σ τ → HR H Γ → t Y x τ Γ Z → NR H Γ Z Q → XR H Γ Y E → t0 v σ H Q) : PGs X e (liGs E t) :=
 weakGs h (by rintro v σ H Q ⟨x, τ, Γ, Y, Z, r, rs, hr, q, nr, xr⟩; exact w v σ H Q x τ Γ Y Z r rs hr q nr xr)
def hName (i : Nat) : G3 := fun _ x τ Γ Z => Z (τ.set i (some x)) Γ
def hNil : Gs3 := fun _ xs τ Γ Z => xs = [] ∧ Z τ Γ
def hCons (g : G3) (gs : Gs3) : Gs3 := fun Y xs τ Γ Z => ∃ x r, xs = x :: r ∧ g Y x τ Γ fun τ1 Γ1 => gs Y r τ1 Γ1 Z
def hTup (n : Nat) (gs : Gs3) : G3 := fun Y x τ Γ Z => ∃ ts, x = .tup ts ∧ ts.length = n ∧ gs Y ts τ Γ Z
theorem qg_name {i : Nat} {x : Str} (hN : X.N.Nodup) (hi : X.N[i]? = some x) (hx : Loc X.env.scope x) (hf : X.fn x = true ∨ X.env.scope.names.lookup x = some .local := by first | exact .inl rfl | exact .inr rfl | assumption) : PG X (.Name x pos) (liG E (hName i)) :=
 weakG3 (pg_name hN hi hx hf) fun v σ H Q x τ Γ Y Z r rs hr t nr xr => nr _ _ H Γ .refl hr (rs.set r i) t
theorem qgs_nil : PGs X [] (liGs E hNil) := weakGs3 pgs_nil fun v σ H Q x τ Γ Y Z r rs hr q0 nr xr => by
 obtain ⟨e, t⟩ := q0
 subst e
 exact ⟨rs_inv0 r, nr _ _ H Γ .refl hr rs t⟩
theorem qgs_cons {es : List Expr} {g : G3} {gs : Gs3} (h1 : PG X e (liG E g)) (h2 : PGs X es (liGs E gs)) (hs : (assignEach (e :: es) X.env).map (·.2) = assign e X.env :: (assignEach es X.env).map (·.2) := by rfl) : PGs X (e :: es) (liGs E (hCons g gs)) :=
 weakGs3 (pgs_cons h1 h2 hs) fun v σ H Q x τ Γ Y Z r rs hr q0 nr xr => by
  obtain ⟨y, ys, e, t⟩ := q0
  subst e
  obtain ⟨w, ws, rfl, r1, r2⟩ := rs_inv r
  refine ⟨w, ws, rfl, y, τ, Γ, Y, _, r1, rs, hr, t, fun σ' τ' H' Γ' s h r z => ?_, xr⟩
  exact ⟨ys, τ', Γ', Y, Z, r2.mono s.tq, r, h, z, nr.mono s, xr.mono s⟩
theorem qg_tup {es : List Expr} {k : Nat} {gs : Gs3} {n : Nat} (hc : X.calm = true) (h : PGs X es (liGs E gs))
  (hn : (assignEach es X.env).length = n := by rfl) (hst : (assignEach es X.env).findIdx? (·.1) = none := by rfl) : PG X (.Tuple es k pos) (liG E (hTup n gs)) :=
 weakG3 (pg_tup hc h hn hst) fun v σ H Q x τ Γ Y Z r rs hr q0 nr xr => by
  obtain ⟨ts, e, l, t⟩ := q0
  subst e
  obtain ⟨a, vs, rfl, ha, r⟩ := i_tup r
  exact ⟨a, vs, rfl, SqT.of ha, by rw [r.length]; exact l, ts, τ, Γ, Y, Z, r, rs, hr, t, nr, xr⟩
def hSub (to ti : E3) : G3 := fun Y v τ Γ Z => to Y τ Γ fun o Γ1 => ti Y τ Γ1 fun i Γ2 => ∃ a ts k j, o = .ref a ∧ i = .int k ∧ Γ2 a = some (.lst ts) ∧ ixN ts.length k = some j ∧ Z τ (up Γ2 a (.lst (ts.set j v)))
def cAsg (te : E3) (g : G3) : C3 := fun Y D τ Γ => te Y τ Γ fun x Γ1 => g Y x τ Γ1 D.nx
theorem asg_sim {te : E3} {g : G3} (D : Ends) (σ : St) (H : Hp) (q : liS E (cAsg te g) D σ H) : tAsg (liE E te) (liG E g) D σ H := by
 obtain ⟨τ, Γ, Y, Z, rs, hr, t, dr, xr⟩ := q
 exact ⟨τ, Γ, Y, _, rs, hr, t, fun v x H1 Γ1 s1 h1 r1 z1 => ⟨x, τ, Γ1, Y, _, r1, rs.mono s1.tq, h1, z1, dr.nx.mono s1, xr.mono s1⟩, xr⟩
theorem qs_asg {tg e : Expr} {te : E3} {g : G3} (he : PE X e (liE E te)) (hg : PG X tg (liG E g)) (hs : swapsWithSole [tg] e pos.line X.env = pure false := by rfl) (hw : swappedStores [tg] e X.env = pure none := by rfl)
  (h1 : (assignEach [tg] X.env).map (·.2) = [assign tg X.env] := by rfl) : PS X (.Assign [tg] e pos) (liS E (cAsg te g)) := weakS (ps_asg he hg hs hw h1) asg_sim
def cSet (i : Nat) (te : E3) : C3 := fun Y D τ Γ => te Y τ Γ fun x Γ1 => D.nx (τ.set i (some x)) Γ1
theorem qs_set {i : Nat} {x : Str} {e : Expr} {te : E3} {pos' : Pos} (hN : X.N.Nodup) (hi : X.N[i]? = some x) (hx : Loc X.env.scope x) (he : PE X e (liE E te)) (hs : swapsWith e (some (.Name x pos')) pos.line X.env = pure false := by rfl) (hf : X.fn x = true ∨ X.env.scope.names.lookup x = some .local := by first | exact .inl rfl | exact .inr rfl | assumption) :
  PS X (.Assign [.Name x pos'] e pos) (liS E (cSet i te)) := weakS3 (ps_set hN hi hx he hs hf) fun D σ H τ Γ Y Z rs hr t dr xr =>
   ⟨τ, Γ, Y, _, rs, hr, t, fun v x H1 Γ1 s1 h1 r1 z1 => dr.nx _ _ H1 Γ1 s1 h1 ((rs.mono s1.tq).set r1 i) z1, xr⟩
structure Walks (J : It) (ts : List T) (gd : Gp → Prop) (H0 : Hp) : Prop where
 go : ∀ i H Γ, Tq H0 H → HR H Γ → gd Γ → i < ts.length → J.go i H
 yld : ∀ i H Γ x H', Tq H0 H → HR H Γ → gd Γ → i < ts.length → J.yld i H x H' → Stp H Γ H' Γ ∧ HR H' Γ ∧ ∃ t, ts[i]? = some t ∧ R H' x t
 stop : ∀ H Γ, Tq H0 H → HR H Γ → gd Γ → J.stop ts.length H
abbrev I3 := X3 → S3 → Gp → (List T → (Gp → Prop) → Gp → Prop) → Prop
def liI (E : St → XK) (wi : I3) : TI := fun σ H Q => ∃ τ Γ Y Z, RS H σ τ ∧ HR H Γ ∧ wi Y τ Γ Z ∧ (∀ J ts gd H' Γ', Stp H Γ H' Γ' → HR H' Γ' → Walks J ts gd H' → Z ts gd Γ' → Q J H') ∧ XR H Γ Y E
theorem weakI3 {tg e : Expr} {t0 : TI} {t : I3} (h : PI X tg e t0) (w : ∀ σ H Q τ Γ Y Z, RS H σ τ → HR H Γ → t Y τ Γ Z → (∀ J ts gd H' Γ', Stp H Γ H' Γ' → HR H' Γ' → Walks J ts gd H' → Z ts gd Γ' → Q J H') → XR H Γ Y E → t0 σ H Q) : PI X tg e (liI E t) :=
 weakI h (by rintro σ H Q ⟨τ, Γ, Y, Z, rs, hr, q, vr, xr⟩; exact w σ H Q τ Γ Y Z rs hr q vr xr)
def wFor (gd : Gp → Prop) (g : G3) (tb : C3) (Y : X3) (D : D3) (ts : List T) (τ : S3) (Γ : Gp) : Prop := ∃ P : List T → S3 → Gp → Prop, P ts τ Γ ∧ (∀ τ Γ, P [] τ Γ → gd Γ ∧ D.nx τ Γ) ∧
 ∀ x r τ Γ, P (x :: r) τ Γ → gd Γ ∧ g Y x τ Γ fun τ2 Γ2 => tb Y { D with nx := P r, ct := P r, bk := D.nx } τ2 Γ2
def cFor (wi : I3) (g : G3) (tb : C3) : C3 := fun Y D τ Γ => wi Y τ Γ fun ts gd Γ1 => wFor gd g tb Y D ts τ Γ1
theorem drop_cons {α : Type} {xs : List α} {i : Nat} (h : i < xs.length) : xs.drop i = xs[i] :: xs.drop (i + 1) := List.drop_eq_getElem_cons h
theorem qs_for {iter : Expr} {body : List Stmt} {wi : I3} {g : G3} {tb : C3} {tg : Expr} (hp : PassesOwn (model X.prog X.w) X.A X.env X.xe) (hc : X.calm = true) (hi : PI X tg iter (liI E wi)) (hg : PG X tg (liG E g)) (hb : PSs X body (liS E tb))
  (hs : ∀ x, foldedSetIterable iter X.env x = pure x := by intro _; rfl) : PS X (.For tg iter body [] pos) (liS E (cFor wi g tb)) :=
 weakS3 (ps_for hp hc hi hg hb hs) fun D σ H τ Γ Y Z rs hr t dr xr => by
  refine ⟨τ, Γ, Y, _, rs, hr, t, fun J ts gd H1 Γ1 s1 h1 wk ⟨P, z1, p0, pc⟩ => ?_, xr⟩
  refine ⟨fun i m σ' H' => ∃ τ' Γ', i ≤ ts.length ∧ m = ts.length - i ∧ RS H' σ' τ' ∧ HR H' Γ' ∧ Stp H1 Γ1 H' Γ' ∧ P (ts.drop i) τ' Γ', ⟨ts.length, τ, Γ1, Nat.zero_le _, rfl, rs.mono s1.tq, h1, .refl, z1⟩, ?_⟩
  rintro i m σ2 H2 ⟨τ2, Γ2, hi, rfl, rs2, h2, s2, w2⟩
  by_cases hlt : i < ts.length
  ·rw [drop_cons hlt] at w2
   obtain ⟨g2, w2⟩ := pc _ _ _ _ w2
   refine .inr ⟨wk.go i H2 Γ2 s2.tq h2 g2 hlt, fun σ' H' => ∃ τ' Γ', RS H' σ' τ' ∧ HR H' Γ' ∧ Stp H1 Γ1 H' Γ' ∧ P (ts.drop (i + 1)) τ' Γ', fun σ' H' ⟨τ', Γ', a, b, c, d⟩ => ⟨ts.length - (i + 1), by omega, τ', Γ', hlt, rfl, a, b, c, d⟩, fun x H3 yl => ?_⟩
   obtain ⟨s3, h3, x3, e3, r3⟩ := wk.yld i H2 Γ2 x H3 s2.tq h2 g2 hlt yl
   rw [List.getElem?_eq_getElem hlt] at e3
   cases e3
   refine ⟨_, τ2, Γ2, Y, _, r3, rs2.mono s3.tq, h3, w2, fun σ4 τ4 H4 Γ4 s4 h4 r4 z4 => ?_, xr.mono ((s1.trans s2).trans s3)⟩
   have s5 := (s2.trans s3).trans s4
   refine ⟨τ4, Γ4, Y, _, r4, h4, z4, ⟨fun σ' τ' H' Γ' s h r z => ⟨τ', Γ', r, h, s5.trans s, z⟩, dr.rt.mono (s1.trans s5), dr.nx.mono (s1.trans s5), fun σ' τ' H' Γ' s h r z => ⟨τ', Γ', r, h, s5.trans s, z⟩⟩, xr.mono (s1.trans s5)⟩
  ·have e : i = ts.length := by omega
   subst e
   rw [List.drop_length] at w2
   have w2 := p0 _ _ w2
   exact .inl ⟨wk.stop H2 Γ2 s2.tq h2 w2.1, dr.nx σ2 τ2 H2 Γ2 (s1.trans s2) h2 rs2 w2.2⟩
def cWhile (c : T3) (tb : C3) : C3 := fun Y D τ Γ => ∃ W : Nat → S3 → Gp → Prop, (∃ m, W m τ Γ) ∧ ∀ m τ Γ, W m τ Γ →
 c Y τ Γ fun b Γ1 => if b = true then ∃ N : S3 → Gp → Prop, (∀ τ' Γ', N τ' Γ' → ∃ m', m' < m ∧ W m' τ' Γ') ∧ tb Y { D with nx := N, ct := N, bk := D.nx } τ Γ1 else D.nx τ Γ1
theorem qs_while {c : Expr} {body : List Stmt} {tc : T3} {tb : C3} (hp : PassesOwn (model X.prog X.w) X.A X.env X.xe) (hc : PT X c (liT E tc)) (hb : PSs X body (liS E tb)) : PS X (.While c body [] pos) (liS E (cWhile tc tb)) :=
 weakS3 (ps_while hp hc hb) fun D σ H τ Γ Y Z rs hr q0 dr xr => by
  obtain ⟨W, ⟨m0, w0⟩, turn⟩ := q0
  refine ⟨fun m σ' H' => ∃ τ' Γ', RS H' σ' τ' ∧ HR H' Γ' ∧ Stp H Γ H' Γ' ∧ W m τ' Γ', ⟨m0, τ, Γ, rs, hr, .refl, w0⟩, ?_⟩
  rintro m σ1 H1 ⟨τ1, Γ1, rs1, h1, s1, w1⟩
  refine ⟨τ1, Γ1, Y, _, rs1, h1, turn m τ1 Γ1 w1, fun k H2 Γ2 s2 h2 z2 => ?_, xr.mono s1⟩
  cases k with
  | false => exact dr.nx σ1 τ1 H2 Γ2 (s1.trans s2) h2 (rs1.mono s2.tq) z2
  | true =>
   obtain ⟨N, hN, z2⟩ := z2
   refine ⟨fun σ' H' => ∃ τ' Γ', RS H' σ' τ' ∧ HR H' Γ' ∧ Stp H Γ H' Γ' ∧ N τ' Γ', fun σ' H' ⟨τ', Γ', a, b, c, d⟩ => ?_, ?_⟩
   ·obtain ⟨m', hm, w'⟩ := hN τ' Γ' d
    exact ⟨m', hm, τ', Γ', a, b, c, w'⟩
   ·have s3 := s1.trans s2
    exact ⟨τ1, Γ2, Y, _, rs1.mono s2.tq, h2, z2, ⟨fun σ' τ' H' Γ' s h r z => ⟨τ', Γ', r, h, s3.trans s, z⟩, dr.rt.mono s3, dr.nx.mono s3, fun σ' τ' H' Γ' s h r z => ⟨τ', Γ', r, h, s3.trans s, z⟩⟩, xr.mono s3⟩
def cSt (own : List Str) (cap : List (Nat × Str)) (τ : S3) : S3 := List.replicate own.length none ++ cap.map fun p => (τ[p.1]?).getD none
theorem rs_app {H : Hp} : ∀ {a : St} {b : S3} {c : St} {d : S3}, RS H a b → RS H c d → RS H (a ++ c) (b ++ d)
 | [], [], _, _, _, h => h
 | _ :: _, _ :: _, _, _, h, q => ⟨h.1, rs_app h.2 q⟩
 | [], _ :: _, _, _, h, _ => h.elim
 | _ :: _, [], _, _, h, _ => h.elim
theorem rs_rep {H : Hp} : ∀ n : Nat, RS H (List.replicate n none) (List.replicate n none)
 | 0 => trivial
 | n + 1 => ⟨trivial, rs_rep n⟩
theorem rs_comp {H : Hp} {σ : St} {τ : S3} (own : List Str) (h : RS H σ τ) : ∀ cap : List (Nat × Str), RS H (compSt own cap σ) (cSt own cap τ) := fun cap => by
 refine rs_app (rs_rep _) ?_
 induction cap with
 | nil => exact trivial
 | cons p r ih =>
  refine ⟨?_, ih⟩
  show RO1 H ((σ[p.1]?).getD none) ((τ[p.1]?).getD none)
  cases e : τ[p.1]? with
  | none => exact trivial
  | some o =>
   cases o with
   | none => exact trivial
   | some x =>
    obtain ⟨v, ev, rv⟩ := h.get e
    rw [ev]
    exact rv
abbrev Y0 : X3 := fun _ _ _ => False
def wComp (gd : Gp → Prop) (g : G3) (tc : T3) (te : E3) (C : List T → Gp → Prop) (ts : List T) (τ : S3) (ys : List T) (Γ : Gp) : Prop := ∃ P : List T → S3 → List T → Gp → Prop, P ts τ ys Γ ∧ (∀ τ ys Γ, P [] τ ys Γ → gd Γ ∧ C ys Γ) ∧
 ∀ x r τ ys Γ, P (x :: r) τ ys Γ → gd Γ ∧ g Y0 x τ Γ fun τ3 Γ3 => tc Y0 τ3 Γ3 fun b Γ4 => if b = true then te Y0 τ3 Γ4 fun y Γ5 => P r τ3 (ys ++ [y]) Γ5 else P r τ3 ys Γ4
def eComp (wi : I3) (g : G3) (tc : T3) (te : E3) (own : List Str) (cap : List (Nat × Str)) : E3 := fun Y τ Γ Z => wi Y τ Γ fun ts gd Γ1 => ts.length ≤ sizeLine ∧
 wComp gd g tc te (fun ys Γ2 => ∀ D, Γ2 D = none → Z (.ref D) (up Γ2 D (.lst ys))) ts (cSt own cap τ) [] Γ1
abbrev EN : St → XK := fun _ => E0
theorem xr0 {H : Hp} {Γ : Gp} : XR H Γ Y0 EN := fun _ _ _ _ _ _ _ _ z => z.elim
theorem comp_sim {wi : I3} {g : G3} {tc : T3} {te : E3} {own : List Str} {cap : List (Nat × Str)} (σ : St) (H : Hp) (Q : VK) (q : liE E (eComp wi g tc te own cap) σ H Q) : tComp (liI E wi) (liG EN g) (liT EN tc) (liE EN te) own cap σ H Q := by
 obtain ⟨τ, Γ, Y, Z, rs, hr, t, vr, xr⟩ := q
 refine ⟨τ, Γ, Y, _, rs, hr, t, fun J ts gd H1 Γ1 s1 h1 wk ⟨hz, P, z1, p0, pc⟩ => ?_, xr⟩
 intro D hD
 have nl : ∀ vs : List V, (∀ us : List V, HO.lst vs ≠ .tup us) ∧ ∀ b w, HO.lst vs ≠ .frz b w := fun _ => ⟨fun _ z => (nomatch z), fun _ _ z => (nomatch z)⟩
 refine ⟨fun i m σ' vs H' => ∃ τ' ys Γ', i ≤ ts.length ∧ m = ts.length - i ∧ vs.length ≤ i ∧ RS H' σ' τ' ∧ HR H' Γ' ∧ H' D = some (.lst vs) ∧ Γ' D = none ∧ Rs H' vs ys ∧ Stp H1 Γ1 H' Γ' ∧ P (ts.drop i) τ' ys Γ',
  ⟨ts.length, cSt own cap τ, [], Γ1, Nat.zero_le _, rfl, Nat.le_refl _, (rs_comp own (rs.mono s1.tq) cap).mono (tq_kp (keep_new hD)), h1.keep (keep_new hD), upd_same, h1.free hD, rs_nil, .keep (keep_new hD), z1⟩, ?_⟩
 rintro i m σ2 vs H2 ⟨τ2, ys, Γ2, hi, rfl, hv, rs2, h2, d2, gD, ry, s2, w2⟩
 refine ⟨d2, ?_⟩
 by_cases hlt : i < ts.length
 ·rw [drop_cons hlt] at w2
  obtain ⟨g2, w2⟩ := pc _ _ _ _ _ w2
  refine .inr ⟨wk.go i H2 Γ2 s2.tq h2 g2 hlt, by omega, fun σ' ws H' => ∃ τ' ys Γ', ws.length ≤ i + 1 ∧ RS H' σ' τ' ∧ HR H' Γ' ∧ H' D = some (.lst ws) ∧ Γ' D = none ∧ Rs H' ws ys ∧ Stp H1 Γ1 H' Γ' ∧ P (ts.drop (i + 1)) τ' ys Γ',
   fun σ' ws H' ⟨τ', ys, Γ', a, b, c, d, e, f, k, l⟩ => ⟨ts.length - (i + 1), by omega, τ', ys, Γ', hlt, rfl, a, b, c, d, e, f, k, l⟩, fun x H3 yl => ?_⟩
  obtain ⟨s3, h3, x3, e3, r3⟩ := wk.yld i H2 Γ2 x H3 s2.tq h2 g2 hlt yl
  rw [List.getElem?_eq_getElem hlt] at e3
  cases e3
  refine ⟨_, τ2, Γ2, Y0, _, r3, rs2.mono s3.tq, h3, w2, fun σ4 τ4 H4 Γ4 s4 h4 r4 z4 => ?_, xr0⟩
  refine ⟨τ4, Γ4, Y0, _, r4, h4, z4, fun k H5 Γ5 s5 h5 z5 => ?_, xr0⟩
  have s35 := (s3.trans s4).trans s5
  have d5 : H5 D = some (.lst vs) := s35.frm D _ d2 gD
  have g5 : Γ5 D = none := s35.new D (by rw [d2]; exact fun z => nomatch z) gD
  cases k with
  | false => exact ⟨τ4, ys, Γ5, Nat.le_succ_of_le hv, r4.mono s5.tq, h5, d5, g5, ry.mono s35.tq, s2.trans s35, z5⟩
  | true =>
   refine ⟨τ4, Γ5, Y0, _, r4.mono s5.tq, h5, z5, fun y y' H6 Γ6 s6 h6 r6 z6 => ?_, xr0⟩
   have s36 := s35.trans s6
   have d6 : H6 D = some (.lst vs) := s36.frm D _ d2 gD
   have g6 : Γ6 D = none := s36.new D (by rw [d2]; exact fun z => nomatch z) gD
   have tq : Tq H6 (upd H6 D (.lst (vs ++ [y]))) := tq_set d6 (nl vs)
   refine ⟨d6, τ4, ys ++ [y'], Γ6, by rw [List.length_append]; exact Nat.succ_le_succ hv, (r4.mono (s5.trans s6).tq).mono tq, h6.hide g6 d6 (nl vs), upd_same, g6, Rs.app ((ry.mono s36.tq).mono tq) (rs_cons (r6.mono tq) rs_nil), ?_, z6⟩
   have s7 := s2.trans s36
   refine ⟨s7.tq.trans tq, fun a h z => ?_, s7.new, fun a o h g => ?_⟩
   ·by_cases e : a = D
    ·subst e; exact h hD
    ·rw [upd_ne e] at z; exact s7.dom a h z
   ·have e : a ≠ D := fun e => by subst e; rw [hD] at h; cases h
    rw [upd_ne e]; exact s7.frm a o h g
 ·have e : i = ts.length := by omega
  subst e
  rw [List.drop_length] at w2
  have w2 := p0 _ _ _ w2
  refine .inl ⟨wk.stop H2 Γ2 s2.tq h2 w2.1, ?_⟩
  have s12 := s1.trans s2
  refine vr (.ref D) (.ref D) H2 (up Γ2 D (.lst ys)) ⟨s12.tq, s12.dom, fun a h g => ?_, s12.frm⟩ (fun a o g => ?_) r_ref (w2.2 D gD)
  ·have e : a ≠ D := fun e => by subst e; exact s1.dom _ h hD
   rw [up_ne e]; exact s12.new a h g
  ·by_cases e : a = D
   ·subst e; rw [up_same] at g; cases g; exact ⟨vs, d2, ry⟩
   ·rw [up_ne e] at g; exact h2 a o g
section
variable {scope : Scope} {cl : List (Str × Addr)} {own : List Str} {cap : List (Nat × Str)} {tg iter elt : Expr} {ifs : List Expr} {wi : I3} {g : G3} {tc : T3} {te : E3}
theorem qe_comp (c : CompOk X scope cl own cap) (hc : X.calm = true) (hi : PI X tg iter (liI E wi))
  (hg : ∀ C s H fp, PG (compCx X (own ++ cap.map (·.2)) scope cl C s H fp fun _ _ => False) tg (liG EN g)) (ht : ∀ C s H fp, PTs (compCx X (own ++ cap.map (·.2)) scope cl C s H fp fun _ _ => False) ifs (liT EN tc))
  (he : ∀ C s H fp, PE (compCx X (own ++ cap.map (·.2)) scope cl C s H fp fun _ _ => False) elt (liE EN te)) (hs : ∀ x, foldedSetIterable iter X.env x = pure x := by intro _; rfl) :
  PE X (.ListComp elt [⟨tg, iter, ifs, 0⟩] scope pos) (liE E (eComp wi g tc te own cap)) := weakE (pe_comp c hc hi hg ht he hs) comp_sim
def bTrue : T3 := fun _ _ Γ Z => Z true Γ
theorem qts_nil : PTs X [] (liT E bTrue) := weakTs3 pts_nil fun σ H Q τ Γ Y Z rs hr t vr xr => vr true H Γ .refl hr t
theorem qts_one {c : Expr} {t : T3} (h : PT X c (liT E t)) : PTs X [c] (liT E t) := pts_one h
end
end
def start3 : List Str → List T → S3
 | [], _ => []
 | _ :: N, [] => none :: start3 N []
 | _ :: N, t :: ts => some t :: start3 N ts
theorem rs_start0 {H : Hp} : ∀ N : List Str, RS H (List.replicate N.length none) (start3 N [])
 | [] => trivial
 | _ :: N => ⟨trivial, rs_start0 N⟩
theorem rs_start {H : Hp} : ∀ (N : List Str) {vs : List V} {ts : List T}, Rs H vs ts → ts.length ≤ N.length → RS H (L2.start N vs) (start3 N ts)
 | N, vs, [], h, _ => by
  rw [rs_inv0 h]
  exact rs_start0 N
 | [], vs, t :: ts, h, l => absurd l (by simp)
 | n :: N, vs, t :: ts, h, l => by
  obtain ⟨v, ws, rfl, a, b⟩ := rs_inv h
  have := rs_start N b (by simpa using l)
  refine ⟨a, ?_⟩
  unfold L2.start at this
  rw [List.length_cons, List.length_cons, Nat.add_sub_add_right]
  exact this
theorem sc_len {N ps : List Str} {sc : Scope} (S : FnScope N ps sc) : ps.length ≤ N.length := by
 have := congrArg List.length S.pre
 rw [List.length_take] at this
 omega
section
variable {P : Program} {w : World} {K : PySem.W.Frag} {mg : Str → Option Value} {base : Heap}
end
section
variable {X : Cx} {x : Str} {C : Addr} {bmB : List Value} {B newId initId : String} {np cpos pos : Pos} {e₀ : Expr} {rest : List Expr} {t : A3} {E : XK}
def cRaise (C : Addr) (t : A3) : C3 := fun Y D τ Γ => t Y τ Γ fun xs Γ1 => xs.length ≤ sizeLine ∧ Y τ (.ref C) Γ1
end
section
variable {X : Cx} {E : St → XK} {body suite : List Stmt} {b₀ : Stmt} {y n : Str} {np hpos pos : Pos} {Cy : Addr} {j : Nat} {tb ts : C3}
def cTry (K : PySem.W.Frag) (Cy : Addr) (j : Nat) (tb ts : C3) : C3 := fun _ D τ Γ => tb (fun τ' C Γ' => PySem.W.exmOne K C (.ref Cy) = some true ∧ ∀ x, Γ' x = none →
 ts Y0 { nx := fun τ2 Γ2 => D.nx (τ2.set j none) Γ2, rt := D.rt, bk := fun τ2 Γ2 => D.bk (τ2.set j none) Γ2, ct := fun τ2 Γ2 => D.ct (τ2.set j none) Γ2 } (τ'.set j (some (.ref x))) (up Γ' x (.ext (excAt x C)))) D τ Γ
end
end L3
set_option Elab.async false
set_option linter.all false
set_option maxRecDepth 100000
namespace L3
open PySem PySem.Spec L2
open PyProof.Rows hiding St
def sc : T → Option V
 | .non => some .non | .bl b => some (.bl b) | .int i => some (.int i) | .str z => some (.str z) | _ => none
theorem sc_r {H : Hp} {v u : V} {x : T} (r : R H v x) (h : sc x = some u) : v = u := by
 cases x with
 | non => cases h; exact i_non r
 | bl b => cases h; exact i_bl r
 | int i => cases h; exact i_int r
 | str z => cases h; exact i_str r
 | tup ts => cases h
 | ref a => cases h
 | ty n => cases h
 | scr K a ts => cases h
def scs : List T → Option (List V)
 | [] => some []
 | x :: r => match sc x, scs r with | some v, some vs => some (v :: vs) | _, _ => none
theorem scs_r {H : Hp} : ∀ {ts : List T} {vs us : List V}, Rs H vs ts → scs ts = some us → vs = us
 | [], vs, us, r, h => by cases h; exact rs_inv0 r
 | x :: q, vs, us, r, h => by
  obtain ⟨v, ws, rfl, a, b⟩ := rs_inv r
  unfold scs at h
  split at h
  ·rename_i v' vs' e1 e2
   cases h
   rw [sc_r a e1, scs_r b e2]
  ·cases h
def it3 (Γ : Gp) : T → Option (List T)
 | .tup ts => some ts
 | .ref a => match Γ a with | some (.lst ts) => some ts | _ => none
 | _ => none
theorem it3_l {Γ : Gp} {a : Addr} {ts : List T} (h : Γ a = some (.lst ts)) : it3 Γ (.ref a) = some ts := by
 show (match Γ a with | some (.lst ts) => some ts | _ => none) = _
 rw [h]
theorem it3_a {K : PySem.W.Frag} {H : Hp} {Γ : Gp} {a : Addr} {ts : List T} (hr : HR H Γ) (h : it3 Γ (.ref a) = some ts) : ∃ vs, SqL K H a vs ∧ Rs H vs ts := by
 have h : (match Γ a with | some (.lst ts) => some ts | _ => none) = some ts := h
 split at h
 ·rename_i ts' g; cases h; obtain ⟨vs, ha, q⟩ := hr a _ g; exact ⟨vs, SqL.of ha, q⟩
 ·cases h
theorem it3_r {K : PySem.W.Frag} {H : Hp} {Γ : Gp} {v : V} {x : T} {ts : List T} (r : R H v x) (hr : HR H Γ) (h : it3 Γ x = some ts) : ∃ p vs, v = .ref p ∧ (SqL K H p vs ∨ SqT K H p vs) ∧ Rs H vs ts := by
 cases x with
 | tup us => cases h; obtain ⟨a, vs, e, ha, q⟩ := i_tup r; exact ⟨a, vs, e, .inr (SqT.of ha), q⟩
 | ref a => obtain ⟨vs, s, q⟩ := it3_a (K := K) hr h; exact ⟨a, vs, i_ref r, .inl s, q⟩
 | _ => cases h
section
variable {X : Cx} {E : St → XK}
def r3I (C : Int → Int → Prop) (g : Int → Int → T) : R3 := fun x y Γ Z => ∃ i j, x = .int i ∧ y = .int j ∧ C i j ∧ Z (g i j) Γ
def r3J (g : Int → Int → T) : R3 := fun x y Γ Z => ∃ i j, x = .int i ∧ y = .int j ∧ Z (g i j) Γ
theorem oq_I {f : Value → Value → Sem Value} {C : Int → Int → Prop} {g : Int → Int → V} {g3 : Int → Int → T} (h : OpR X f (rI C g)) (e : ∀ i j H, R H (g i j) (g3 i j)) : OpQ X f (r3I C g3) :=
 ⟨_, h, fun x y a b H Γ Q Z ra rb hr q0 vr => by obtain ⟨i, j, ea, eb, c, z⟩ := q0; subst ea eb; exact ⟨i, j, i_int ra, i_int rb, c, vr _ _ H Γ .refl hr (e i j H) z⟩⟩
theorem oq_J {f : Value → Value → Sem Value} {g : Int → Int → V} {g3 : Int → Int → T} (h : OpR X f (rI0 g)) (e : ∀ i j H, R H (g i j) (g3 i j)) : OpQ X f (r3J g3) :=
 ⟨_, h, fun x y a b H Γ Q Z ra rb hr q0 vr => by obtain ⟨i, j, ea, eb, z⟩ := q0; subst ea eb; exact ⟨i, j, i_int ra, i_int rb, vr _ _ H Γ .refl hr (e i j H) z⟩⟩
theorem oq_add : OpQ X (binaryOp .Add) (r3J fun i j => .int (i + j)) := oq_J op_add fun _ _ _ => r_int
theorem oq_sub : OpQ X (binaryOp .Sub) (r3J fun i j => .int (i - j)) := oq_J op_sub fun _ _ _ => r_int
theorem oq_mul : OpQ X (binaryOp .Mult) (r3I CMul fun i j => .int (i * j)) := oq_I op_mul fun _ _ _ => r_int
theorem oq_fdiv : OpQ X (binaryOp .FloorDiv) (r3I CDivG fun i j => .int (i / j)) := oq_I op_fdivG fun _ _ _ => r_int
theorem oq_mod : OpQ X (binaryOp .Mod) (r3I (fun _ j => 0 < j) fun i j => .int (i % j)) := oq_I op_mod fun _ _ _ => r_int
theorem oq_pow : OpQ X (binaryOp .Pow) (r3I CPow fun i j => .int (i ^ j.toNat)) := oq_I op_pow fun _ _ _ => r_int
theorem oq_lt : OpQ X (compareOp .Lt) (r3J fun i j => .bl (decide (i < j))) := oq_J op_lt fun _ _ _ => r_bl
theorem oq_le : OpQ X (compareOp .LtE) (r3J fun i j => .bl (decide (i ≤ j))) := oq_J op_le fun _ _ _ => r_bl
theorem oq_gt : OpQ X (compareOp .Gt) (r3J fun i j => .bl (decide (j < i))) := oq_J op_gt fun _ _ _ => r_bl
theorem oq_ge : OpQ X (compareOp .GtE) (r3J fun i j => .bl (decide (j ≤ i))) := oq_J op_ge fun _ _ _ => r_bl
theorem oq_adds : OpQ X (binaryOp .Add) (fun x y Γ Z => ∃ i j, x = .str i ∧ y = .str j ∧ i.length + j.length ≤ sizeLine ∧ Z (.str (i ++ j)) Γ) :=
 ⟨_, op_add_str, fun x y a b H Γ Q Z ra rb hr q0 vr => by obtain ⟨i, j, ea, eb, c, z⟩ := q0; subst ea eb; exact ⟨i, j, i_str ra, i_str rb, c, vr _ _ H Γ .refl hr r_str z⟩⟩
theorem oq_ins : OpQ X (compareOp .In) (fun x y Γ Z => ∃ i j, x = .str i ∧ y = .str j ∧ Z (.bl (!(Builtin.Str.occurrences j i 0 j.length 1).isEmpty)) Γ) :=
 ⟨_, op_in_str, fun x y a b H Γ Q Z ra rb hr q0 vr => by obtain ⟨i, j, ea, eb, z⟩ := q0; subst ea eb; exact ⟨i, j, i_str ra, i_str rb, vr _ _ H Γ .refl hr r_bl z⟩⟩
theorem oq_nins : OpQ X (compareOp .NotIn) (fun x y Γ Z => ∃ i j, x = .str i ∧ y = .str j ∧ Z (.bl (!(!(Builtin.Str.occurrences j i 0 j.length 1).isEmpty))) Γ) :=
 ⟨_, op_notin_str, fun x y a b H Γ Q Z ra rb hr q0 vr => by obtain ⟨i, j, ea, eb, z⟩ := q0; subst ea eb; exact ⟨i, j, i_str ra, i_str rb, vr _ _ H Γ .refl hr r_bl z⟩⟩
def r3Eq : R3 := fun x y Γ Z => ∃ u v, sc x = some u ∧ sc y = some v ∧ scal u v = true ∧ Z (.bl (decide (u = v))) Γ
def r3Ne : R3 := fun x y Γ Z => ∃ u v, sc x = some u ∧ sc y = some v ∧ scal u v = true ∧ Z (.bl (!decide (u = v))) Γ
theorem oq_eq : OpQ X (compareOp .Eq) r3Eq :=
 ⟨_, op_eq, fun x y a b H Γ Q Z ra rb hr q0 vr => by obtain ⟨u, v, ea, eb, c, z⟩ := q0; rw [sc_r ra ea, sc_r rb eb]; exact ⟨c, vr _ _ H Γ .refl hr r_bl z⟩⟩
theorem oq_ne : OpQ X (compareOp .NotEq) r3Ne :=
 ⟨_, op_ne, fun x y a b H Γ Q Z ra rb hr q0 vr => by obtain ⟨u, v, ea, eb, c, z⟩ := q0; rw [sc_r ra ea, sc_r rb eb]; exact ⟨c, vr _ _ H Γ .refl hr r_bl z⟩⟩
def isNon : T → Bool | .non => true | _ => false
theorem isNon_r {H : Hp} {v : V} {x : T} (r : R H v x) : decide (v = .non) = isNon x := by
 cases x with
 | non => rw [i_non r]; rfl
 | bl b => rw [i_bl r]; rfl
 | int i => rw [i_int r]; rfl
 | str z => rw [i_str r]; rfl
 | tup ts => obtain ⟨a, vs, e, _⟩ := i_tup r; rw [e]; rfl
 | ref a => rw [i_ref r]; rfl
 | ty n => rw [i_ty r]; rfl
 | scr K a ts => rw [(i_scr r).1]; rfl
theorem oq_isN : OpQ X (compareOp .Is) (fun x y Γ Z => y = .non ∧ Z (.bl (isNon x)) Γ) :=
 ⟨_, op_isN, fun x y a b H Γ Q Z ra rb hr q0 vr => by obtain ⟨eb, z⟩ := q0; subst eb; exact ⟨i_non rb, by rw [isNon_r ra]; exact vr _ _ H Γ .refl hr r_bl z⟩⟩
def r3In (neg : Bool) : R3 := fun x y Γ Z => ∃ u ts us, sc x = some u ∧ it3 Γ y = some ts ∧ scs ts = some us ∧ flatV u = true ∧ us.all flatV = true ∧ Z (.bl (if neg then !inV u us else inV u us)) Γ
theorem in_sim {neg : Bool} (x y : V) (a b : T) (H : Hp) (Γ : Gp) (Q : VK) (Z : K3) (ra : R H x a) (rb : R H y b) (hr : HR H Γ) (h : r3In neg a b Γ Z) (vr : VR H Γ Z Q) : rIn X.K neg x y H Q := by
 obtain ⟨u, ts, us, ea, eb, es, f1, f2, z⟩ := h
 obtain ⟨p, vs, rfl, sq, q⟩ := it3_r (K := X.K) rb hr eb
 rw [sc_r ra ea]
 cases scs_r q es
 exact ⟨p, _, rfl, sq, f1, f2, vr _ _ H Γ .refl hr r_bl z⟩
theorem oq_in : OpQ X (compareOp .In) (r3In false) := ⟨_, op_in_seq, in_sim⟩
theorem oq_nin : OpQ X (compareOp .NotIn) (r3In true) := ⟨_, op_notIn_seq, in_sim⟩
theorem empty_r {H : Hp} {vs : List V} {ts : List T} (q : Rs H vs ts) : vs.isEmpty = ts.isEmpty := by
 have := q.length
 cases vs <;> cases ts <;> simp_all
theorem oq_eqNil (hu : X.A.units < cLine) : OpQ X (compareOp .Eq) (fun x y Γ Z => ∃ a b ts, x = .ref a ∧ y = .ref b ∧ Γ a = some (.lst ts) ∧ Γ b = some (.lst []) ∧ Z (.bl ts.isEmpty) Γ) :=
 ⟨_, op_eqNil hu, fun x y a b H Γ Q Z ra rb hr q0 vr => by
  obtain ⟨p, p', ts, ea, eb, g1, g2, z⟩ := q0
  subst ea eb
  obtain ⟨vs, hv, q⟩ := hr p _ g1
  obtain ⟨vs', hv', q'⟩ := hr p' _ g2
  rw [rs_inv0 q'] at hv'
  exact ⟨p, p', vs, i_ref ra, i_ref rb, SqL.of hv, SqL.of hv', by rw [empty_r q]; exact vr _ _ H Γ .refl hr r_bl z⟩⟩
def r3Cat : R3 := fun x y Γ Z => ∃ ts us, x = .tup ts ∧ y = .tup us ∧ ts.length + us.length ≤ sizeLine ∧ Z (.tup (ts ++ us)) Γ
theorem kp0 {H H' : Hp} (k : Kp [] H H') : ∀ b o, H b = some o → H' b = some o := fun b o h => k b o (by simp) h
theorem oq_cat : OpQ X (binaryOp .Add) r3Cat :=
 ⟨_, op_catA, fun x y a b H Γ Q Z ra rb hr q0 vr => by
  obtain ⟨ts, us, ea, eb, l, z⟩ := q0
  subst ea eb
  obtain ⟨p, vs, rfl, hp, q⟩ := i_tup ra
  obtain ⟨p', vs', rfl, hp', q'⟩ := i_tup rb
  refine ⟨p, p', vs, vs', rfl, rfl, hp, hp', by rw [q.length, q'.length]; exact l, fun c H' k hc => ?_⟩
  exact vr _ _ H' Γ (.keep (kp0 k)) (hr.keep (kp0 k)) (r_tup hc (Rs.app (q.mono (tq_kp (kp0 k))) (q'.mono (tq_kp (kp0 k))))) z⟩
def r3CatL : R3 := fun x y Γ Z => ∃ a b ts us, x = .ref a ∧ y = .ref b ∧ Γ a = some (.lst ts) ∧ Γ b = some (.lst us) ∧ ts.length + us.length ≤ sizeLine ∧ ∀ p, Γ p = none → Z (.ref p) (up Γ p (.lst (ts ++ us)))
theorem oq_catL : OpQ X (binaryOp .Add) r3CatL :=
 ⟨_, op_cat, fun x y a b H Γ Q Z ra rb hr q0 vr => by
  obtain ⟨p, p', ts, us, ea, eb, g1, g2, l, z⟩ := q0
  subst ea eb
  obtain ⟨vs, hv, q⟩ := hr p _ g1
  obtain ⟨vs', hv', q'⟩ := hr p' _ g2
  refine ⟨p, p', vs, vs', i_ref ra, i_ref rb, hv, hv', by rw [q.length, q'.length]; exact l, fun c hc => ?_⟩
  have k := keep_new (o := .lst (vs ++ vs')) hc
  exact vr _ _ _ _ (.make hc) (hr.make (o3 := .lst (ts ++ us)) hc ⟨_, upd_same, Rs.app (q.mono (tq_kp k)) (q'.mono (tq_kp k))⟩) r_ref (z c (hr.free hc))⟩
theorem rs_flat {H : Hp} {vs : List V} {ts : List T} (q : Rs H vs ts) : ∀ n : Nat, Rs H (List.replicate n vs).flatten (List.replicate n ts).flatten
 | 0 => rs_nil
 | n + 1 => by
  rw [List.replicate_succ, List.replicate_succ, List.flatten_cons, List.flatten_cons]
  exact Rs.app q (rs_flat q n)
theorem at_r {H : Hp} {vs : List V} {ts : List T} {i : Int} {t : T} (q : Rs H vs ts) (h : atI ts i = some t) : ∃ v, atI vs i = some v ∧ R H v t := by
 unfold atI at h ⊢
 rw [q.length]
 cases e : ixN ts.length i with
 | none => rw [e] at h; cases h
 | some j =>
  rw [e] at h
  have h' : ts[j]? = some t := h
  obtain ⟨v, hv, r⟩ := q.get h'
  exact ⟨v, hv, r⟩
def r3Ix : R3 := fun x y Γ Z => ∃ ts i t, it3 Γ x = some ts ∧ y = .int i ∧ atI ts i = some t ∧ Z t Γ
def r3IxS : R3 := fun x y Γ Z => ∃ z i c, x = .str z ∧ y = .int i ∧ z.length ≤ sizeLine ∧ atI z.cps.toList i = some c ∧ Z (.str ⟨#[c]⟩) Γ
variable {a b e : Expr} {ta tb te : E3} {pos p2 : Pos}
theorem qe_ix (ha : PE X a (liE E ta)) (hb : PE X b (liE E tb)) (hs : PlainIx b) : PE X (.Subscript a b pos) (liE E (eOp r3Ix ta tb)) :=
 weakE (pe_ix ix_seq ha hb hs) (op_sim fun x y a b H Γ Q Z ra rb hr q0 vr => by
  obtain ⟨ts, i, t, ea, eb, h, z⟩ := q0
  subst eb
  obtain ⟨p, vs, rfl, sq, q⟩ := it3_r (K := X.K) ra hr ea
  obtain ⟨v, hv, r⟩ := at_r q h
  rcases sq with sq | sq
  ·exact .inl ⟨p, vs, i, v, rfl, i_int rb, sq, hv, vr _ _ H Γ .refl hr r z⟩
  ·exact .inr (.inl ⟨p, vs, i, v, rfl, i_int rb, sq, hv, vr _ _ H Γ .refl hr r z⟩))
theorem qe_ixS (ha : PE X a (liE E ta)) (hb : PE X b (liE E tb)) (hs : PlainIx b) : PE X (.Subscript a b pos) (liE E (eOp r3IxS ta tb)) :=
 weakE (pe_ix ix_str ha hb hs) (op_sim fun x y a b H Γ Q Z ra rb hr q0 vr => by
  obtain ⟨w, i, c, ea, eb, l, h, z⟩ := q0
  subst ea eb
  exact ⟨w, i, c, i_str ra, i_int rb, l, h, vr _ _ H Γ .refl hr r_str z⟩)
abbrev O3 := X3 → S3 → Gp → (Option Int → Gp → Prop) → Prop
def liO (E : St → XK) (t : O3) : TO := fun σ H Q => ∃ τ Γ Y Z, RS H σ τ ∧ HR H Γ ∧ t Y τ Γ Z ∧ (∀ i H' Γ', Stp H Γ H' Γ' → HR H' Γ' → Z i Γ' → Q i H') ∧ XR H Γ Y E
theorem weakO {e : Option Expr} {t t' : TO} (h : PO X e t) (w : ∀ σ H Q, t' σ H Q → t σ H Q) : PO X e t' := ⟨fun pins s σ H Q I q => h.run pins s σ H Q I (w _ _ _ q)⟩
theorem weakO3 {e : Option Expr} {t0 : TO} {t : O3} (h : PO X e t0) (w : ∀ σ H Q τ Γ Y Z, RS H σ τ → HR H Γ → t Y τ Γ Z → (∀ i H' Γ', Stp H Γ H' Γ' → HR H' Γ' → Z i Γ' → Q i H') → XR H Γ Y E → t0 σ H Q) : PO X e (liO E t) :=
 weakO h (by rintro σ H Q ⟨τ, Γ, Y, Z, rs, hr, q, vr, xr⟩; exact w σ H Q τ Γ Y Z rs hr q vr xr)
def oNone : O3 := fun _ _ Γ Z => Z none Γ
def oSome (t : E3) : O3 := fun Y τ Γ Z => t Y τ Γ fun x Γ1 => ∃ i, x = .int i ∧ Z (some i) Γ1
theorem qo_none : PO X none (liO E oNone) := weakO3 po_none fun σ H Q τ Γ Y Z rs hr t vr xr => vr none H Γ .refl hr t
theorem qo_some (h : PE X e (liE E te)) : PO X (some e) (liO E (oSome te)) := weakO3 (po_some h) fun σ H Q τ Γ Y Z rs hr t vr xr =>
 ⟨τ, Γ, Y, _, rs, hr, t, fun v x H1 Γ1 s1 h1 r1 q0 => by obtain ⟨i, ex, z⟩ := q0; subst ex; exact ⟨i, i_int r1, vr _ H1 Γ1 s1 h1 z⟩, xr⟩
abbrev L3r := T → Option Int → Option Int → Gp → K3 → Prop
def SlQ (X : Cx) (r3 : L3r) : Prop := ∃ r, SlR X r ∧ ∀ x a lo hi H Γ Q Z, R H x a → HR H Γ → r3 a lo hi Γ Z → VR H Γ Z Q → r x lo hi H Q
def eSl (r : L3r) (te : E3) (tl th : O3) : E3 := fun Y τ Γ Z => te Y τ Γ fun x Γ1 => tl Y τ Γ1 fun l Γ2 => th Y τ Γ2 fun u Γ3 => r x l u Γ3 Z
theorem qe_slice {r3 : L3r} {lo hi : Option Expr} {tl th : O3} (hs : SlQ X r3) (he : PE X e (liE E te)) (hl : PO X lo (liO E tl)) (hu : PO X hi (liO E th)) : PE X (.Subscript e (.Slice lo hi none p2) pos) (liE E (eSl r3 te tl th)) := by
 obtain ⟨r, hr0, sim⟩ := hs
 refine weakE3 (pe_slice hr0 he hl hu) fun σ H Q τ Γ Y Z rs hr t vr xr => ?_
 refine ⟨τ, Γ, Y, _, rs, hr, t, fun v x H1 Γ1 s1 h1 r1 z1 => ?_, xr⟩
 refine ⟨τ, Γ1, Y, _, rs.mono s1.tq, h1, z1, fun l H2 Γ2 s2 h2 z2 => ?_, xr.mono s1⟩
 refine ⟨τ, Γ2, Y, _, rs.mono (s1.trans s2).tq, h2, z2, fun u H3 Γ3 s3 h3 z3 => ?_, xr.mono (s1.trans s2)⟩
 exact sim v x l u H3 Γ3 Q Z (r1.mono (s2.trans s3).tq) h3 z3 (vr.mono ((s1.trans s2).trans s3))
theorem cut_r {H : Hp} {vs : List V} {ts : List T} {lo hi : Option Int} (q : Rs H vs ts) : Rs H (cutV vs lo hi) (cutN ts lo hi) := by
 unfold cutV cutN
 rw [q.length]
 exact Rs.take _ (Rs.drop _ q)
theorem sq_tup : SlQ X (fun x lo hi Γ Z => ∃ ts, x = .tup ts ∧ Z (.tup (cutN ts lo hi)) Γ) :=
 ⟨_, sl_tupB, fun x a lo hi H Γ Q Z ra hr q0 vr => by
  obtain ⟨ts, ea, z⟩ := q0
  subst ea
  obtain ⟨p, vs, rfl, hp, q⟩ := i_tup ra
  exact ⟨p, vs, rfl, hp, fun c H' k hc => vr _ _ H' Γ (.keep (kp0 k)) (hr.keep (kp0 k)) (r_tup hc (cut_r (q.mono (tq_kp (kp0 k))))) z⟩⟩
theorem sq_list : SlQ X (fun x lo hi Γ Z => ∃ a ts, x = .ref a ∧ Γ a = some (.lst ts) ∧ ∀ p, Γ p = none → Z (.ref p) (up Γ p (.lst (cutN ts lo hi)))) :=
 ⟨_, sl_list, fun x a lo hi H Γ Q Z ra hr q0 vr => by
  obtain ⟨p, ts, ea, g, z⟩ := q0
  subst ea
  obtain ⟨vs, hv, q⟩ := hr p _ g
  refine ⟨p, vs, i_ref ra, SqL.of hv, fun c hc => ?_⟩
  have k := keep_new (o := .lst (cutV vs lo hi)) hc
  exact vr _ _ _ _ (.make hc) (hr.make (o3 := .lst (cutN ts lo hi)) hc ⟨_, upd_same, cut_r (q.mono (tq_kp k))⟩) r_ref (z c (hr.free hc))⟩
theorem sq_str : SlQ X (fun x lo hi Γ Z => ∃ z : Str, x = .str z ∧ z.length ≤ sizeLine ∧ ∀ y : Str, y.cps.toList = cutN z.cps.toList lo hi → Z (.str y) Γ) :=
 ⟨_, sl_str, fun x a lo hi H Γ Q Z ra hr q0 vr => by
  obtain ⟨w, ea, l, z⟩ := q0
  subst ea
  exact ⟨w, i_str ra, l, fun y hy => vr _ _ H Γ .refl hr r_str (z y hy)⟩⟩
def eRev (r : T → Gp → K3 → Prop) (te ts : E3) : E3 := fun Y τ Γ Z => te Y τ Γ fun x Γ1 => ts Y τ Γ1 fun k Γ2 => k = .int (-1) ∧ r x Γ2 Z
def r3U (g : Int → T) : T → Gp → K3 → Prop := fun x Γ Z => ∃ i, x = .int i ∧ Z (g i) Γ
def eUn (r : T → Gp → K3 → Prop) (ta : E3) : E3 := fun Y τ Γ Z => ta Y τ Γ fun x Γ1 => r x Γ1 Z
theorem qe_neg (ha : PE X a (liE E ta)) : PE X (.UnaryOp .USub a pos) (liE E (eUn (r3U fun i => .int (-i)) ta)) :=
 weakE3 (pe_un un_neg ha) fun σ H Q τ Γ Y Z rs hr t vr xr =>
  ⟨τ, Γ, Y, _, rs, hr, t, fun v x H1 Γ1 s1 h1 r1 q0 => by obtain ⟨i, ex, z⟩ := q0; subst ex; exact ⟨i, i_int r1, vr _ _ H1 Γ1 s1 h1 r_int z⟩, xr⟩
abbrev F3 := List T → Gp → K3 → Prop
def CallQ (X : Cx) (f : Value) (r3 : F3) : Prop := ∃ r, CallR X f r ∧ ∀ vs ts H Γ Q Z, Rs H vs ts → HR H Γ → r3 ts Γ Z → VR H Γ Z Q → r vs H Q
def eCB (r : F3) (t : A3) : E3 := fun Y τ Γ Z => t Y τ Γ fun ts Γ1 => r ts Γ1 Z
theorem cb_sim {r : List V → Hp → VK → Prop} {r3 : F3} {t : A3} (h : ∀ vs ts H Γ Q Z, Rs H vs ts → HR H Γ → r3 ts Γ Z → VR H Γ Z Q → r vs H Q) (σ : St) (H : Hp) (Q : VK) (q : liE E (eCB r3 t) σ H Q) : tCB r (liA E t) σ H Q := by
 obtain ⟨τ, Γ, Y, Z, rs, hr, t, vr, xr⟩ := q
 exact ⟨τ, Γ, Y, _, rs, hr, t, fun vs xs H1 Γ1 s1 h1 r1 z1 => h vs xs H1 Γ1 Q Z r1 h1 z1 (vr.mono s1), xr⟩
section
variable {x : Str} {p pos : Pos} {e : Expr} {es : List Expr} {t : A3} {id Tn : String} {r3 : F3}
theorem qe_callB (hc : CallQ X (.builtin id) r3) (hg : Gl X x) (hm : X.mg x = none) (hv : bootBuiltins x = some (.builtin id)) (ha : PA X (e :: es) (liA E t)) (hn : x ≠ "__name__" := by decide) (hdb : (x == ("__debug__" : Str)) = false := by decide)
  (he : starEach (e :: es) X.env = (false, eval e X.env) :: starEach es X.env := by rfl) (hpl : (backTo pos (starEach es X.env)).any (·.1) = false := by rfl) : PE X (.Call (.Name x p) (e :: es) [] pos) (liE E (eCB r3 t)) := by
 obtain ⟨r, hr, h⟩ := hc
 exact weakE (pe_callB hr hg hm hv ha hn hdb he hpl) (cb_sim h)
theorem qe_callTy (hc : CallQ X (.type Tn) r3) (hg : Gl X x) (hm : X.mg x = none) (hv : bootBuiltins x = some (.type Tn)) (ha : PA X (e :: es) (liA E t)) (hn : x ≠ "__name__" := by decide) (hdb : (x == ("__debug__" : Str)) = false := by decide)
  (he : starEach (e :: es) X.env = (false, eval e X.env) :: starEach es X.env := by rfl) (hpl : (backTo pos (starEach es X.env)).any (·.1) = false := by rfl) : PE X (.Call (.Name x p) (e :: es) [] pos) (liE E (eCB r3 t)) := by
 obtain ⟨r, hr, h⟩ := hc
 exact weakE (pe_callTy hr hg hm hv ha hn hdb he hpl) (cb_sim h)
end
theorem rs1 {H : Hp} {vs : List V} {x : T} (h : Rs H vs [x]) : ∃ v, vs = [v] ∧ R H v x := by
 obtain ⟨v, ws, rfl, a, b⟩ := rs_inv h
 exact ⟨v, by rw [rs_inv0 b], a⟩
theorem rs2 {H : Hp} {vs : List V} {x y : T} (h : Rs H vs [x, y]) : ∃ v w, vs = [v, w] ∧ R H v x ∧ R H w y := by
 obtain ⟨v, ws, rfl, a, b⟩ := rs_inv h
 obtain ⟨w, rfl, c⟩ := rs1 b
 exact ⟨v, w, rfl, a, c⟩
theorem cq_len : CallQ X (.builtin "len") (fun xs Γ Z => ∃ x ts, xs = [x] ∧ it3 Γ x = some ts ∧ Z (.int ts.length) Γ) :=
 ⟨_, call_len_seq, fun vs xs H Γ Q Z r hr q0 vr => by
  obtain ⟨x, ts, e, h, z⟩ := q0
  subst e
  obtain ⟨v, rfl, rv⟩ := rs1 r
  obtain ⟨p, us, rfl, sq, q⟩ := it3_r (K := X.K) rv hr h
  exact ⟨p, us, rfl, sq, by rw [q.length]; exact vr _ _ H Γ .refl hr r_int z⟩⟩
theorem cq_lens : CallQ X (.builtin "len") (fun xs Γ Z => ∃ z : Str, xs = [.str z] ∧ z.length ≤ sizeLine ∧ Z (.int z.length) Γ) :=
 ⟨_, call_len_str, fun vs xs H Γ Q Z r hr q0 vr => by
  obtain ⟨w, e, l, z⟩ := q0
  subst e
  obtain ⟨v, rfl, rv⟩ := rs1 r
  exact ⟨w, by rw [i_str rv], l, vr _ _ H Γ .refl hr r_int z⟩⟩
theorem cq_tuple : CallQ X (.type "tuple") (fun xs Γ Z => ∃ x ts, xs = [x] ∧ it3 Γ x = some ts ∧ Z (.tup ts) Γ) :=
 ⟨_, call_tuple_of, fun vs xs H Γ Q Z r hr q0 vr => by
  obtain ⟨x, ts, e, h, z⟩ := q0
  subst e
  obtain ⟨v, rfl, rv⟩ := rs1 r
  cases x with
  | tup us =>
   cases h
   obtain ⟨a, ws, rfl, ha, q⟩ := i_tup rv
   exact ⟨a, ws, rfl, .inr ⟨SqT.of ha, vr _ _ H Γ .refl hr (r_tup ha q) z⟩⟩
  | ref a =>
   obtain ⟨us, sq, q⟩ := it3_a (K := X.K) hr h
   refine ⟨a, us, by rw [i_ref rv], .inl ⟨sq, fun l hl => ?_⟩⟩
   have k := keep_new (o := .tup us) hl
   exact vr _ _ _ Γ (.keep k) (hr.keep k) (r_tup upd_same (q.mono (tq_kp k))) z
  | _ => cases h⟩
theorem cq_list : CallQ X (.type "list") (fun xs Γ Z => ∃ x ts, xs = [x] ∧ it3 Γ x = some ts ∧ ∀ p, Γ p = none → Z (.ref p) (up Γ p (.lst ts))) :=
 ⟨_, call_list_of, fun vs xs H Γ Q Z r hr q0 vr => by
  obtain ⟨x, ts, e, h, z⟩ := q0
  subst e
  obtain ⟨v, rfl, rv⟩ := rs1 r
  obtain ⟨p, us, rfl, sq, q⟩ := it3_r (K := X.K) rv hr h
  refine ⟨p, us, rfl, sq, fun l hl => ?_⟩
  have k := keep_new (o := .lst us) hl
  exact vr _ _ _ _ (.make hl) (hr.make (o3 := .lst ts) hl ⟨_, upd_same, q.mono (tq_kp k)⟩) r_ref (z l (hr.free hl))⟩
theorem cq_max2 (hc : X.calm = true) : CallQ X (.builtin "max") (fun xs Γ Z => ∃ i j, xs = [.int i, .int j] ∧ Z (.int (if j > i then j else i)) Γ) :=
 ⟨_, call_max2 hc, fun vs xs H Γ Q Z r hr q0 vr => by
  obtain ⟨i, j, e, z⟩ := q0
  subst e
  obtain ⟨v, w, rfl, a, b⟩ := rs2 r
  exact ⟨i, j, by rw [i_int a, i_int b], vr _ _ H Γ .refl hr r_int z⟩⟩
theorem cq_min2 (hc : X.calm = true) : CallQ X (.builtin "min") (fun xs Γ Z => ∃ i j, xs = [.int i, .int j] ∧ Z (.int (if j < i then j else i)) Γ) :=
 ⟨_, call_min2 hc, fun vs xs H Γ Q Z r hr q0 vr => by
  obtain ⟨i, j, e, z⟩ := q0
  subst e
  obtain ⟨v, w, rfl, a, b⟩ := rs2 r
  exact ⟨i, j, by rw [i_int a, i_int b], vr _ _ H Γ .refl hr r_int z⟩⟩
theorem cq_str : CallQ X (.type "str") (fun xs Γ Z => ∃ i : Int, xs = [.int i] ∧ i.natAbs.log2 < 1920 ∧ Z (.str (toString i)) Γ) :=
 ⟨_, call_str_int, fun vs xs H Γ Q Z r hr q0 vr => by
  obtain ⟨i, e, l, z⟩ := q0
  subst e
  obtain ⟨v, rfl, a⟩ := rs1 r
  exact ⟨i, by rw [i_int a], l, vr _ _ H Γ .refl hr r_str z⟩⟩
theorem rs_ints {H : Hp} : ∀ {ns : List Int} {vs : List V}, Rs H vs (ns.map T.int) → vs = ns.map V.int
 | [], vs, h => rs_inv0 h
 | n :: r, vs, h => by
  obtain ⟨v, ws, rfl, a, b⟩ := rs_inv h
  rw [i_int a, rs_ints b]; rfl
theorem rs_bls {H : Hp} : ∀ {ns : List Bool} {vs : List V}, Rs H vs (ns.map T.bl) → vs = ns.map V.bl
 | [], vs, h => rs_inv0 h
 | n :: r, vs, h => by
  obtain ⟨v, ws, rfl, a, b⟩ := rs_inv h
  rw [i_bl a, rs_bls b]; rfl
theorem rs_strs {H : Hp} : ∀ {ns : List Str} {vs : List V}, Rs H vs (ns.map T.str) → vs = ns.map V.str
 | [], vs, h => rs_inv0 h
 | n :: r, vs, h => by
  obtain ⟨v, ws, rfl, a, b⟩ := rs_inv h
  rw [i_str a, rs_strs b]; rfl
theorem cq_all (hc : X.calm = true) : CallQ X (.builtin "all") (fun xs Γ Z => ∃ (p : Addr) (bs : List Bool), xs = [.ref p] ∧ it3 Γ (.ref p) = some (bs.map T.bl) ∧ Z (.bl (bs.all id)) Γ) :=
 ⟨_, call_allL hc, fun vs xs H Γ Q Z r hr q0 vr => by
  obtain ⟨p, ns, e, g, z⟩ := q0
  subst e
  obtain ⟨v, rfl, a⟩ := rs1 r
  obtain ⟨us, sq, q⟩ := it3_a (K := X.K) hr g
  rw [rs_bls q] at sq
  exact ⟨p, ns, by rw [i_ref a], sq, vr _ _ H Γ .refl hr r_bl z⟩⟩
theorem cq_maxL (hc : X.calm = true) : CallQ X (.builtin "max") (fun xs Γ Z => ∃ (p : Addr) (ns : List Int), xs = [.ref p] ∧ it3 Γ (.ref p) = some (ns.map T.int) ∧ ns ≠ [] ∧ Z (.int (topOf ns)) Γ) :=
 ⟨_, call_maxL hc, fun vs xs H Γ Q Z r hr q0 vr => by
  obtain ⟨p, ns, e, g, n, z⟩ := q0
  subst e
  obtain ⟨v, rfl, a⟩ := rs1 r
  obtain ⟨us, sq, q⟩ := it3_a (K := X.K) hr g
  rw [rs_ints q] at sq
  exact ⟨p, ns, by rw [i_ref a], sq, n, vr _ _ H Γ .refl hr r_int z⟩⟩
def tyOf (Γ : Gp) : T → Option String
 | .non => some "NoneType" | .bl _ => some "bool" | .int _ => some "int" | .str _ => some "str" | .tup _ => some "tuple"
 | .ref a => match Γ a with | some (.lst _) => some "list" | some (.dK _) => some "dict" | _ => none
 | .ty _ => none
 | .scr _ _ _ => none
theorem tyOf_r {K : PySem.W.Frag} {H : Hp} {Γ : Gp} {v : V} {x : T} {n : String} (r : R H v x) (hr : HR H Γ) (h : tyOf Γ x = some n) : TyOf K H v (.type n) := by
 cases x with
 | non => cases h; rw [i_non r]; exact .non
 | bl b => cases h; rw [i_bl r]; exact .bl b
 | int i => cases h; rw [i_int r]; exact .int i
 | str z => cases h; rw [i_str r]; exact .str z
 | tup ts => cases h; obtain ⟨a, vs, e, ha, _⟩ := i_tup r; rw [e]; exact .tup ha
 | ty n => cases h
 | scr K a ts => cases h
 | ref a =>
  rw [i_ref r]
  have h : (match Γ a with | some (.lst _) => some "list" | some (.dK _) => some "dict" | _ => none) = some n := h
  split at h
  ·rename_i g; cases h; obtain ⟨vs, hv, _⟩ := hr a _ g; exact .lst hv
  ·rename_i g; cases h; obtain ⟨vs, hv, _⟩ := hr a _ g; exact .dK hv
  ·cases h
def eInst (K : PySem.W.Frag) (Ty : String) (te : E3) : E3 := fun Y τ Γ Z => te Y τ Γ fun x Γ1 => ∃ n b, tyOf Γ1 x = some n ∧ PySem.W.kitOne K (.type n) (.type Ty) = some b ∧ Z (.bl b) Γ1
theorem qe_inst {x : Expr} {te : E3} {p p2 pos : Pos} {Tn : Str} {Ty : String} (hg : Gl X "isinstance") (hm : X.mg "isinstance" = none) (hgT : Gl X Tn) (hmT : X.mg Tn = none) (hvT : bootBuiltins Tn = some (.type Ty)) (he : PE X x (liE E te)) (hn : Tn ≠ "__name__" := by decide) (hdT : (Tn == ("__debug__" : Str)) = false := by decide)
  (hs : starEach [x, .Name Tn p2] X.env = (false, eval x X.env) :: starEach [.Name Tn p2] X.env := by rfl) (hs2 : starEach [.Name Tn p2] X.env = [(false, eval (.Name Tn p2) X.env)] := by rfl)
  (hpl : (backTo pos (starEach [.Name Tn p2] X.env)).any (·.1) = false := by rfl) : PE X (.Call (.Name "isinstance" p) [x, .Name Tn p2] [] pos) (liE E (eInst X.K Ty te)) :=
 weakE3 (pe_inst hg hm hgT hmT hvT he hn hdT hs hs2 hpl) fun σ H Q τ Γ Y Z rs hr t vr xr =>
  ⟨τ, Γ, Y, _, rs, hr, t, fun v x H1 Γ1 s1 h1 r1 ⟨n, b, ty, k, z⟩ => ⟨v, rfl, .type n, b, tyOf_r r1 h1 ty, k, vr _ _ H1 Γ1 s1 h1 r_bl z⟩, xr⟩
def tru3 (Γ : Gp) : T → Option Bool
 | .non => some false | .bl b => some b | .int i => some (i != 0) | .tup ts => some (!ts.isEmpty)
 | .str z => if z.length ≤ sizeLine then some ((z.length : Int) != 0) else none
 | .ref a => match Γ a with | some (.lst ts) => some (!ts.isEmpty) | some (.dK kvs) => some (!kvs.isEmpty) | _ => none
 | .ty _ => none
 | .scr _ _ _ => none
def eTru (t : E3) : T3 := fun Y τ Γ Z => t Y τ Γ fun x Γ1 => ∃ k, tru3 Γ1 x = some k ∧ Z k Γ1
theorem cq_lenC : CallQ X (.builtin "len") (fun xs Γ Z => ∃ a ts, xs = [.scr X.K a ts] ∧ Z (.int ts.length) Γ) :=
 ⟨_, call_len_seq, fun vs xs H Γ Q Z r hr q0 vr => by
  obtain ⟨a, ts, e, z⟩ := q0
  subst e
  obtain ⟨v, rfl, rv⟩ := rs1 r
  obtain ⟨rfl, us, sq, q⟩ := i_scr rv
  exact ⟨a, us, rfl, .inl sq.sq, by rw [q.length]; exact vr _ _ H Γ .refl hr r_int z⟩⟩
end
end L3
set_option Elab.async false
set_option linter.all false
set_option maxRecDepth 100000
namespace L3
open PySem PySem.Spec L2
open PyProof.Rows hiding St
section
variable {X : Cx} {E : St → XK} {tg l : Expr} {tl : E3} {pos p : Pos}
abbrev gT : Gp → Prop := fun _ => True
def iTp (tl : E3) : I3 := fun Y τ Γ Z => tl Y τ Γ fun x Γ1 => ∃ ts, x = .tup ts ∧ Z ts gT Γ1
theorem walk_tup {K : PySem.W.Frag} {H : Hp} {a : Addr} {vs : List V} {ts : List T} (ha : H a = some (.tup vs)) (q : Rs H vs ts) : Walks (Itt K a) ts gT H where
 go := fun i H' Γ t hr _ hi => ⟨vs, vs[i]'(by rw [q.length]; exact hi), SqT.of (t.1 a vs ha), by simp⟩
 yld := fun i H' Γ x H2 t hr _ hi q0 => by
  obtain ⟨e, y⟩ := q0
  subst e
  obtain ⟨t', e', r⟩ := (q.mono t).getV (y vs (SqT.of (t.1 a vs ha)))
  exact ⟨.refl, hr, t', e', r⟩
 stop := fun H' Γ t hr _ => ⟨vs, SqT.of (t.1 a vs ha), by rw [q.length]; exact Nat.le_refl _⟩
theorem qi_tup (hl : PE X l (liE E tl)) : PI X tg l (liI E (iTp tl)) :=
 weakI3 (pi_tup hl) fun σ H Q τ Γ Y Z rs hr t vr xr => ⟨τ, Γ, Y, _, rs, hr, t, fun v x H1 Γ1 s1 h1 r1 ⟨ts, ex, z⟩ => by
  subst ex
  obtain ⟨a, vs, rfl, ha, q⟩ := i_tup r1
  exact ⟨a, rfl, ⟨vs, SqT.of ha⟩, vr _ ts gT H1 Γ1 s1 h1 (walk_tup ha q) z⟩, xr⟩
def iLs (tl : E3) : I3 := fun Y τ Γ Z => tl Y τ Γ fun x Γ1 => ∃ a ts, x = .ref a ∧ it3 Γ1 (.ref a) = some ts ∧ Z ts (fun Γ' => it3 Γ' (.ref a) = some ts) Γ1
theorem walk_list {K : PySem.W.Frag} {H : Hp} {a : Addr} {ts : List T} : Walks (Itl K a) ts (fun Γ' => it3 Γ' (.ref a) = some ts) H where
 go := fun i H' Γ t hr g hi => by
  obtain ⟨vs, sq, q⟩ := it3_a (K := K) hr g
  exact ⟨vs, vs[i]'(by rw [q.length]; exact hi), sq, by simp⟩
 yld := fun i H' Γ x H2 t hr g hi q0 => by
  obtain ⟨e, y⟩ := q0
  subst e
  obtain ⟨vs, sq, q⟩ := it3_a (K := K) hr g
  obtain ⟨t', e', r⟩ := q.getV (y vs sq)
  exact ⟨.refl, hr, t', e', r⟩
 stop := fun H' Γ t hr g => by
  obtain ⟨vs, sq, q⟩ := it3_a (K := K) hr g
  exact ⟨vs, sq, by rw [q.length]; exact Nat.le_refl _⟩
theorem qi_list (hl : PE X l (liE E tl)) : PI X tg l (liI E (iLs tl)) :=
 weakI3 (pi_list hl) fun σ H Q τ Γ Y Z rs hr t vr xr => ⟨τ, Γ, Y, _, rs, hr, t, fun v x H1 Γ1 s1 h1 r1 ⟨a, ts, ex, g, z⟩ => by
  subst ex
  obtain ⟨vs, sq, q⟩ := it3_a (K := X.K) h1 g
  exact ⟨a, i_ref r1, ⟨vs, sq⟩, vr _ ts _ H1 Γ1 s1 h1 walk_list z⟩, xr⟩
def rngT (lo : Int) : Nat → List T
 | 0 => []
 | n + 1 => .int lo :: rngT (lo + 1) n
theorem rngT_len : ∀ (n : Nat) (lo : Int), (rngT lo n).length = n
 | 0, _ => rfl
 | n + 1, lo => by rw [rngT, List.length_cons, rngT_len n]
theorem rngT_get : ∀ (n : Nat) (lo : Int) (i : Nat), i < n → (rngT lo n)[i]? = some (.int (lo + i))
 | 0, _, i, h => absurd h (Nat.not_lt_zero _)
 | n + 1, lo, 0, _ => by rw [rngT]; simp
 | n + 1, lo, i + 1, h => by
  rw [rngT, List.getElem?_cons_succ, rngT_get n (lo + 1) i (by omega)]
  congr 2
  omega
theorem walk_range {H : Hp} (lo : Int) (n : Nat) : Walks (Itr lo n) (rngT lo n) gT H where
 go := fun i H' Γ t hr _ hi => by rw [rngT_len] at hi; exact hi
 yld := fun i H' Γ x H2 t hr _ hi q0 => by
  obtain ⟨e, y⟩ := q0
  subst e y
  rw [rngT_len] at hi
  exact ⟨.refl, hr, _, rngT_get n lo i hi, r_int⟩
 stop := fun H' Γ t hr _ => by rw [rngT_len]; exact Nat.le_refl _
def iRg1 (ta : A3) : I3 := fun Y τ Γ Z => ta Y τ Γ fun xs Γ1 => ∃ j : Int, xs = [.int j] ∧ -(2 ^ 62) ≤ j ∧ j < 2 ^ 62 ∧ Z (rngT 0 j.toNat) gT Γ1
theorem qi_range1 {a : Expr} {ta : A3} (hg : Gl X "range") (hm : X.mg "range" = none) (ha : PA X [a] (liA E ta)) (hs : starEach [a] X.env = [(false, eval a X.env)] := by rfl) : PI X tg (.Call (.Name "range" p) [a] [] pos) (liI E (iRg1 ta)) :=
 weakI3 (pi_range1 hg hm ha hs) fun σ H Q τ Γ Y Z rs hr t vr xr => ⟨τ, Γ, Y, _, rs, hr, t, fun vs xs H1 Γ1 s1 h1 r1 ⟨j, ex, b1, b2, z⟩ => by
  subst ex
  obtain ⟨v, rfl, a⟩ := rs1 r1
  exact ⟨j, by rw [i_int a], b1, b2, vr _ _ gT H1 Γ1 s1 h1 (walk_range 0 _) z⟩, xr⟩
def zipT : List T → List T → List T
 | x :: r, y :: q => .tup [x, y] :: zipT r q
 | _, _ => []
def iZp (ta : A3) : I3 := fun Y τ Γ Z => ta Y τ Γ fun xs Γ1 => ∃ ts us, xs = [.tup ts, .tup us] ∧ Z (zipT ts us) gT Γ1
def enumT (n : Nat) : List T → List T
 | [] => []
 | x :: r => .tup [.int n, x] :: enumT (n + 1) r
def iEn (ta : A3) : I3 := fun Y τ Γ Z => ta Y τ Γ fun xs Γ1 => ∃ ts, xs = [.tup ts] ∧ Z (enumT 0 ts) gT Γ1
def signsT (z : Str) : List T := z.cps.toList.map fun c => .str ⟨#[c]⟩
def iSt (tl : E3) : I3 := fun Y τ Γ Z => tl Y τ Γ fun x Γ1 => ∃ z, x = .str z ∧ Z (signsT z) gT Γ1
theorem walk_str {H : Hp} (z : Str) : Walks (Its z) (signsT z) gT H where
 go := fun i H' Γ t hr _ hi => by
  unfold signsT at hi
  rw [List.length_map, Array.length_toList] at hi
  exact hi
 yld := fun i H' Γ x H2 t hr _ hi q0 => by
  obtain ⟨e, c, hc, ex⟩ := q0
  subst e ex
  refine ⟨.refl, hr, .str ⟨#[c]⟩, ?_, r_str⟩
  unfold signsT
  rw [List.getElem?_map, Array.getElem?_toList, hc]
  rfl
 stop := fun H' Γ t hr _ => by
  show z.cps.size ≤ (signsT z).length
  unfold signsT
  rw [List.length_map, Array.length_toList]
  exact Nat.le_refl _
theorem qi_str (hl : PE X l (liE E tl)) : PI X tg l (liI E (iSt tl)) :=
 weakI3 (pi_str hl) fun σ H Q τ Γ Y Z rs hr t vr xr => ⟨τ, Γ, Y, _, rs, hr, t, fun v x H1 Γ1 s1 h1 r1 ⟨z, ex, zz⟩ => by
  subst ex
  exact ⟨z, i_str r1, vr _ _ gT H1 Γ1 s1 h1 (walk_str z) zz⟩, xr⟩
abbrev M3r := T → List T → Gp → K3 → Prop
def MQ (X : Cx) (id : String) (r3 : M3r) : Prop := ∃ r, MtR X id r ∧ ∀ v x vs ts H Γ Q Z, R H v x → Rs H vs ts → HR H Γ → r3 x ts Γ Z → VR H Γ Z Q → r v vs H Q
def eBM (Tn : String) (r3 : M3r) (to : E3) (t : A3) : E3 := fun Y τ Γ Z => to Y τ Γ fun x Γ1 => tyOf Γ1 x = some Tn ∧ t Y τ Γ1 fun xs Γ2 => r3 x xs Γ2 Z
def eBM0 (Tn : String) (r3 : M3r) (to : E3) : E3 := fun Y τ Γ Z => to Y τ Γ fun x Γ1 => tyOf Γ1 x = some Tn ∧ r3 x [] Γ1 Z
theorem tyV_of {K : PySem.W.Frag} {H : Hp} {Γ : Gp} {v : V} {x : T} {n : String} (r : R H v x) (hr : HR H Γ) (h : tyOf Γ x = some n) (hn : n = "list" ∨ n = "str" ∨ n = "dict") : tyV K n v H := by
 have ty := tyOf_r (K := K) r hr h
 cases x with
 | non => cases h; rcases hn with h | h | h <;> exact absurd h (by decide)
 | bl b => cases h; rcases hn with h | h | h <;> exact absurd h (by decide)
 | int i => cases h; rcases hn with h | h | h <;> exact absurd h (by decide)
 | str z => cases h; rw [i_str r]; rfl
 | tup ts => cases h; rcases hn with h | h | h <;> exact absurd h (by decide)
 | ty n => cases h
 | scr K a ts => cases h
 | ref a =>
  rw [i_ref r]
  have h : (match Γ a with | some (.lst _) => some "list" | some (.dK _) => some "dict" | _ => none) = some n := h
  split at h
  ·rename_i g; cases h; obtain ⟨vs, hv, _⟩ := hr a _ g; exact .inl ⟨rfl, vs, SqL.of hv⟩
  ·rename_i g; cases h; obtain ⟨vs, hv, _⟩ := hr a _ g; exact .inr (.inr (.inl ⟨rfl, .inl ⟨vs, hv⟩⟩))
  ·cases h
section
variable {o e : Expr} {es : List Expr} {to : E3} {t : A3} {name : Str} {apos cpos : Pos} {Tn id : String} {r3 : M3r}
theorem qe_bm0 (pa : PlainAttrs Tn) (slot : Slot Tn name id) (hty : typeOf (.builtin id) = pure (.type "method_descriptor")) (hm : MQ X id r3) (ho : PE X o (liE E to)) (hn : Tn = "list" ∨ Tn = "str" ∨ Tn = "dict" := by decide)
  (hbase : attributeBase o name X.env (eval o X.env) = eval o X.env := by rfl) (hline : (apos.endLine == cpos.line) = true := by rfl) : PE X (.Call (.Attribute o name apos) [] [] cpos) (liE E (eBM0 Tn r3 to)) := by
 obtain ⟨r, hm, sim⟩ := hm
 exact weakE3 (pe_bm0 pa slot hty hm ho hbase hline) fun σ H Q τ Γ Y Z rs hr t vr xr => ⟨τ, Γ, Y, _, rs, hr, t, fun v x H1 Γ1 s1 h1 r1 ⟨ty, z⟩ =>
  ⟨tyV_of r1 h1 ty hn, sim v x [] [] H1 Γ1 Q Z r1 rs_nil h1 z (vr.mono s1)⟩, xr⟩
theorem qe_bm (pa : PlainAttrs Tn) (slot : Slot Tn name id) (hty : typeOf (.builtin id) = pure (.type "method_descriptor")) (hm : MQ X id r3) (ho : PE X o (liE E to)) (ha : PA X (e :: es) (liA E t)) (hn : Tn = "list" ∨ Tn = "str" ∨ Tn = "dict" := by decide)
  (hbase : attributeBase o name X.env (eval o X.env) = eval o X.env := by rfl)
  (hfew : ((backTo cpos (starEach (e :: es) X.env)).all (fun x => !x.1) && (backToKw cpos (keywordEach [] X.env)).all (fun x => x.1.isSome)
   && decide ((e :: es).length + ([] : List Keyword).length + (if ([] : List Keyword).isEmpty then 0 else 1) < 30)) = true := by rfl)
  (hline : (apos.endLine == cpos.line) = true := by rfl) (hs : starEach (e :: es) X.env = (false, eval e X.env) :: starEach es X.env := by rfl) (hplain : (backTo cpos (starEach es X.env)).any (·.1) = false := by rfl) :
  PE X (.Call (.Attribute o name apos) (e :: es) [] cpos) (liE E (eBM Tn r3 to t)) := by
 obtain ⟨r, hm, sim⟩ := hm
 exact weakE3 (pe_bm pa slot hty hm ho ha hbase hfew hline hs hplain) fun σ H Q τ Γ Y Z rs hr t vr xr => ⟨τ, Γ, Y, _, rs, hr, t, fun v x H1 Γ1 s1 h1 r1 ⟨ty, z⟩ =>
  ⟨tyV_of r1 h1 ty hn, τ, Γ1, Y, _, rs.mono s1.tq, h1, z, fun vs xs H2 Γ2 s2 h2 r2 z2 => sim v x vs xs H2 Γ2 Q Z (r1.mono s2.tq) r2 h2 z2 (vr.mono (s1.trans s2)), xr.mono s1⟩, xr⟩
end
theorem mq_append : MQ X "list.append" (fun x ts Γ Z => ∃ a us y, x = .ref a ∧ ts = [y] ∧ Γ a = some (.lst us) ∧ us.length < sizeLine ∧ Z .non (up Γ a (.lst (us ++ [y])))) :=
 ⟨_, mt_append, fun v x vs ts H Γ Q Z r rs hr q0 vr => by
  obtain ⟨a, us, y, ex, et, g, l, z⟩ := q0
  subst ex et
  obtain ⟨w, rfl, rw'⟩ := rs1 rs
  obtain ⟨ws, hw, q⟩ := hr a _ g
  refine ⟨a, ws, w, i_ref r, rfl, hw, by rw [q.length]; exact l, ?_⟩
  have s : Stp H Γ (upd H a (.lst (ws ++ [w]))) (up Γ a (.lst (us ++ [y]))) := .set hr g
  exact vr _ _ _ _ s (hr.set g ⟨_, upd_same, Rs.app (q.mono s.tq) (rs_cons (rw'.mono s.tq) rs_nil)⟩) r_non z⟩
theorem mq_pop : MQ X "list.pop" (fun x ts Γ Z => ∃ a us y, x = .ref a ∧ ts = [] ∧ Γ a = some (.lst us) ∧ us[us.length - 1]? = some y ∧ Z y (up Γ a (.lst us.dropLast))) :=
 ⟨_, mt_pop, fun v x vs ts H Γ Q Z r rs hr q0 vr => by
  obtain ⟨a, us, y, ex, et, g, l, z⟩ := q0
  subst ex et
  obtain ⟨ws, hw, q⟩ := hr a _ g
  obtain ⟨w, hw', rw'⟩ := q.get l
  refine ⟨a, ws, w, i_ref r, rs_inv0 rs, hw, by rw [q.length]; exact hw', ?_⟩
  have s : Stp H Γ (upd H a (.lst ws.dropLast)) (up Γ a (.lst us.dropLast)) := .set hr g
  refine vr _ _ _ _ s (hr.set g ⟨_, upd_same, ?_⟩) (rw'.mono s.tq) z
  have e : ∀ {H2 : Hp}, Rs H2 ws us → Rs H2 ws.dropLast us.dropLast := fun {H2} q2 => by
   rw [List.dropLast_eq_take, List.dropLast_eq_take, q2.length]
   exact Rs.take _ q2
  exact e (q.mono s.tq)⟩
theorem mq_join : MQ X "str.join" (fun x ts Γ Z => ∃ (p : Addr) (ss : List Str), x = .str Str.empty ∧ ts = [.ref p] ∧ it3 Γ (.ref p) = some (ss.map T.str) ∧ ss.length ≤ 1000 ∧ (∀ y ∈ ss, y.length ≤ 1000) ∧ Z (.str (catS ss)) Γ) :=
 ⟨_, mt_join, fun v x vs ts H Γ Q Z r rs hr q0 vr => by
  obtain ⟨p, ss, ex, et, g, l, l2, z⟩ := q0
  subst ex et
  obtain ⟨w, rfl, rw'⟩ := rs1 rs
  obtain ⟨us, sq, q⟩ := it3_a (K := X.K) hr g
  rw [rs_strs q] at sq
  exact ⟨p, ss, i_str r, by rw [i_ref rw'], sq, l, l2, vr _ _ H Γ .refl hr r_str z⟩⟩
theorem mq_upper : MQ X "str.upper" (fun x ts Γ Z => ∃ z : Str, x = .str z ∧ ts = [] ∧ z.length ≤ 1000 ∧ ∀ y : Str, y.length ≤ 3 * z.length → Z (.str y) Γ) :=
 ⟨_, mt_upper, fun v x vs ts H Γ Q Z r rs hr q0 vr => by
  obtain ⟨w, ex, et, l, z⟩ := q0
  subst ex et
  exact ⟨w, i_str r, rs_inv0 rs, l, fun y hy => vr _ _ H Γ .refl hr r_str (z y hy)⟩⟩
def eLZ (ta : A3) : E3 := fun Y τ Γ Z => ta Y τ Γ fun xs Γ1 => ∃ ts us, xs = [.tup ts, .tup us] ∧ ts.length = us.length ∧ ∀ p, Γ1 p = none → Z (.ref p) (up Γ1 p (.lst (zipT ts us)))
theorem rev_sim {r : V → Hp → VK → Prop} {r3 : T → Gp → K3 → Prop} {te ts : E3} (h : ∀ v x H Γ Q Z, R H v x → HR H Γ → r3 x Γ Z → VR H Γ Z Q → r v H Q) (σ : St) (H : Hp) (Q : VK) (q : liE E (eRev r3 te ts) σ H Q) :
  liE E te σ H fun x H1 => liE E ts σ H1 fun y H2 => y = .int (-1) ∧ r x H2 Q := by
 obtain ⟨τ, Γ, Y, Z, rs, hr, t, vr, xr⟩ := q
 refine ⟨τ, Γ, Y, _, rs, hr, t, fun v x H1 Γ1 s1 h1 r1 z1 => ?_, xr⟩
 refine ⟨τ, Γ1, Y, _, rs.mono s1.tq, h1, z1, fun u y H2 Γ2 s2 h2 r2 z2 => ?_, xr.mono s1⟩
 obtain ⟨e, z2⟩ := z2
 subst e
 exact ⟨i_int r2, h v x H2 Γ2 Q Z (r1.mono s2.tq) h2 z2 (vr.mono (s1.trans s2))⟩
section
variable {e st : Expr} {te ts : E3} {p2 : Pos}
theorem qe_revT (he : PE X e (liE E te)) (hs : PE X st (liE E ts)) : PE X (.Subscript e (.Slice none none (some st) p2) pos) (liE E (eRev (fun x Γ Z => ∃ ts, x = .tup ts ∧ Z (.tup ts.reverse) Γ) te ts)) :=
 weakE (pe_rev rv_tup he hs) (rev_sim fun v x H Γ Q Z r hr q0 vr => by
  obtain ⟨ts, ex, z⟩ := q0
  subst ex
  obtain ⟨p, us, rfl, hp, q⟩ := i_tup r
  refine ⟨p, us, rfl, SqT.of hp, fun c hc => ?_⟩
  have k := keep_new (o := .tup us.reverse) hc
  exact vr _ _ _ Γ (.keep k) (hr.keep k) (r_tup upd_same (Rs.reverse (q.mono (tq_kp k)))) z)
theorem qe_revL (he : PE X e (liE E te)) (hs : PE X st (liE E ts)) : PE X (.Subscript e (.Slice none none (some st) p2) pos) (liE E (eRev (fun x Γ Z => ∃ a ts, x = .ref a ∧ it3 Γ (.ref a) = some ts ∧ ∀ p, Γ p = none → Z (.ref p) (up Γ p (.lst ts.reverse))) te ts)) :=
 weakE (pe_rev rv_list he hs) (rev_sim fun v x H Γ Q Z r hr q0 vr => by
  obtain ⟨a, ts, ex, g, z⟩ := q0
  subst ex
  obtain ⟨us, sq, q⟩ := it3_a (K := X.K) hr g
  refine ⟨a, us, i_ref r, sq, fun c hc => ?_⟩
  have k := keep_new (o := .lst us.reverse) hc
  exact vr _ _ _ _ (.make hc) (hr.make (o3 := .lst ts.reverse) hc ⟨_, upd_same, Rs.reverse (q.mono (tq_kp k))⟩) r_ref (z c (hr.free hc)))
end
end
end L3
set_option Elab.async false
set_option linter.all false
set_option maxRecDepth 100000
namespace L3
open PySem PySem.Spec L2
open PyProof.Rows hiding St
def Le (Γ Γ' : Gp) : Prop := ∀ a o, Γ a = some o → Γ' a = some o
theorem Le.refl {Γ : Gp} : Le Γ Γ := fun _ _ h => h
theorem Le.trans {Γ Γ1 Γ' : Gp} (a : Le Γ Γ1) (b : Le Γ1 Γ') : Le Γ Γ' := fun x o h => b x o (a x o h)
theorem Le.new {Γ : Gp} {p : Addr} {o : O} (h : Γ p = none) : Le Γ (up Γ p o) := fun b u q => by rw [up_ne (gnn q h)]; exact q
theorem HR.le {H : Hp} {Γ Γ' : Gp} (h : HR H Γ') (l : Le Γ Γ') : HR H Γ := fun a o e => h a o (l a o e)
def Kq (l : List Addr) (Γ Γ' : Gp) : Prop := ∀ b o, b ∉ l → Γ b = some o → Γ' b = some o
theorem Kq.refl {l : List Addr} {Γ : Gp} : Kq l Γ Γ := fun _ _ _ h => h
theorem Kq.trans {l : List Addr} {Γ Γ1 Γ' : Gp} (a : Kq l Γ Γ1) (b : Kq l Γ1 Γ') : Kq l Γ Γ' := fun c o n h => b c o n (a c o n h)
theorem Kq.mono {l l' : List Addr} {Γ Γ1 : Gp} (a : Kq l Γ Γ1) (s : ∀ b ∈ l, b ∈ l') : Kq l' Γ Γ1 := fun c o n h => a c o (fun z => n (s c z)) h
theorem Kq.new {l : List Addr} {Γ : Gp} {p : Addr} (h : Γ p = none) (o : O) : Kq l Γ (up Γ p o) := fun b u _ q => by rw [up_ne (gnn q h)]; exact q
theorem Kq.set {l : List Addr} {Γ : Gp} {p : Addr} (h : p ∈ l) (o : O) : Kq l Γ (up Γ p o) := fun b u n q => by
 have e : b ≠ p := fun z => n (by rw [z]; exact h)
 rw [up_ne e]; exact q
theorem Kq.le {Γ Γ' : Gp} (k : Kq [] Γ Γ') : Le Γ Γ' := fun a o h => k a o (by simp) h
theorem Le.kq {l : List Addr} {Γ Γ' : Gp} (k : Le Γ Γ') : Kq l Γ Γ' := fun a o _ h => k a o h
def Fr (l : List Addr) (Γ Γ' : Gp) : Prop := ∀ b, b ∉ l → Γ' b = Γ b
theorem Fr.refl {l : List Addr} {Γ : Gp} : Fr l Γ Γ := fun _ _ => rfl
theorem Fr.kq {l : List Addr} {Γ Γ' : Gp} (h : Fr l Γ Γ') : Kq l Γ Γ' := fun b o n q => by rw [h b n]; exact q
theorem Fr.trans {l : List Addr} {Γ Γ1 Γ' : Gp} (a : Fr l Γ Γ1) (b : Fr l Γ1 Γ') : Fr l Γ Γ' := fun x n => (b x n).trans (a x n)
theorem Fr.mono {l l' : List Addr} {Γ Γ1 : Gp} (a : Fr l Γ Γ1) (s : ∀ b ∈ l, b ∈ l') : Fr l' Γ Γ1 := fun c n => a c fun z => n (s c z)
theorem Fr.set {l : List Addr} {Γ : Gp} {p : Addr} (h : p ∈ l) (o : O) : Fr l Γ (up Γ p o) := fun b n => up_ne fun z => n (by rw [z]; exact h)
def dropK (Z : K3) : K3 := fun x Γ' => ∃ Γ2, Le Γ2 Γ' ∧ Z x Γ2
theorem drop0 {Z : K3} {x : T} {Γ Γ' : Gp} (k : Le Γ Γ') (z : Z x Γ) : dropK Z x Γ' := ⟨Γ, k, z⟩
theorem Stp.cut {H H' : Hp} {Γ Γ' Γ2 : Gp} (s : Stp H Γ H' Γ') (l : Le Γ2 Γ') : Stp H Γ H' Γ2 := ⟨s.tq, s.dom, fun a h g => by
 cases e : Γ2 a with
 | none => rfl
 | some o => exact (by have := l a o e; rw [s.new a h g] at this; cases this), s.frm⟩
section
variable {P : Program} {w : World} {K : PySem.W.Frag} {mg : Str → Option Value} {base : Heap}
theorem okd {x qual : Str} {st : Stmt} {f : Addr} {fd : FuncData} {N ps : List Str} {k : Nat} {sp : Sp3} (F : Fun K x qual st f fd) (S : FnScope N ps (defScope st)) (len : ∀ ts Γ Z Y, sp ts Γ Z Y → ts.length = ps.length)
  (hbody : ∀ (cdv : Value) (A : Around) (outer : List Env) (s : Shared) (H : Hp) (E : XK) (ts : List T) (Γ : Gp) (Z : K3) (Y : Value → Gp → Prop), Room k (A.deeper (envOfC qual (defScope st) s.heap.objs.size f cdv)) → sp ts Γ Z Y →
   ∃ t, PSs (cxOf CX0 P w K mg base N qual (defScope st) f cdv A outer s H E).nox (defBody st) (liS EN t) ∧ t Y0 { nx := fun _ Γ' => dropK Z .non Γ', rt := dropK Z } (start3 N ts) Γ) : FnOk P w K mg base CX0 (k + 1) f fd ps (liSp sp) := by
 refine F.ok S (fun vs H Q E q0 => by obtain ⟨ts, Γ, Z, Y, r, _, h, _⟩ := q0; rw [r.length]; exact len _ _ _ _ h) fun cdv A outer s H vs Q E hr ⟨ts, Γ, Z, Y, r, h, hsp, vr, xr⟩ => ?_
 obtain ⟨t, ht, hq⟩ := hbody cdv A outer s H E ts Γ Z Y hr hsp
 exact ⟨_, ht, start3 N ts, Γ, Y0, _, rs_start N r (by rw [len _ _ _ _ hsp]; exact sc_len S), h, hq, ⟨fun σ τ H' Γ' s' h' _ ⟨Γ2, l, z⟩ => vr .non .non H' Γ2 (s'.cut l) (h'.le l) r_non z, fun v x H' Γ' s' h' rv ⟨Γ2, l, z⟩ => vr v x H' Γ2 (s'.cut l) (h'.le l) rv z, fun _ _ _ _ _ _ _ z => z.elim, fun _ _ _ _ _ _ _ z => z.elim⟩, xr0⟩
theorem noC {f : Addr} {fd : FuncData} {ps : List Str} {sp : Sp3} {k : Nat} {CX : CXT} (no : ∀ ts Γ Z Y, ¬ sp ts Γ Z Y) : FnOk P w K mg base CX k f fd ps (liSp sp) :=
 ⟨fun vs H Q E ⟨ts, Γ, Z, Y, _, _, h, _⟩ => absurd h (no _ _ _ _), fun A outer s H args us vs Q E _ _ _ _ ⟨ts, Γ, Z, Y, _, _, h, _⟩ => absurd h (no _ _ _ _)⟩
end
theorem at0 {α : Type} {t : α} {ts : List α} : atI (t :: ts) 0 = some t := by show atI (t :: ts) ((0 : Nat) : Int) = some t; exact atI_nat rfl
theorem at1 {α : Type} {t u : α} {ts : List α} : atI (t :: u :: ts) 1 = some u := by show atI (t :: u :: ts) ((1 : Nat) : Int) = some u; exact atI_nat rfl
section
variable {Y : X3} {τ : S3} {Γ : Gp} {Z : K3} {D : D3} {B : Bool → Gp → Prop} {N : S3 → Gp → Prop}
theorem t_var {i : Nat} {x : T} (h : τ[i]? = some (some x)) (z : Z x Γ) : eVar i Y τ Γ Z := ⟨x, h, z⟩
theorem t_c {x : T} (z : Z x Γ) : eC x Y τ Γ Z := z
theorem t_op {r : R3} {a b : E3} (h : a Y τ Γ fun x Γ1 => b Y τ Γ1 fun y Γ2 => r x y Γ2 Z) : eOp r a b Y τ Γ Z := h
theorem t_T {t : E3} (h : t Y τ Γ fun x Γ1 => ∃ k, x = .bl k ∧ B k Γ1) : eT t Y τ Γ B := h
theorem t_bl {b : Bool} {Q : Bool → Prop} (h : Q b) : ∃ k, T.bl b = .bl k ∧ Q k := ⟨b, rfl, h⟩
theorem t_seq {t u : C3} (h : t Y { D with nx := u Y D } τ Γ) : cSeq t u Y D τ Γ := h
theorem t_if {c : T3} {t u : C3} (h : c Y τ Γ fun b Γ1 => if b = true then t Y D τ Γ1 else u Y D τ Γ1) : cIf c t u Y D τ Γ := h
theorem t_set {i : Nat} {te : E3} (h : te Y τ Γ fun x Γ1 => D.nx (τ.set i (some x)) Γ1) : cSet i te Y D τ Γ := h
theorem t_ret {te : E3} (h : te Y τ Γ D.rt) : cRet te Y D τ Γ := h
theorem t_retN (h : D.rt .non Γ) : cRetN Y D τ Γ := h
theorem t_drop {te : E3} (h : te Y τ Γ fun _ Γ1 => D.nx τ Γ1) : cDrop te Y D τ Γ := h
theorem t_next (h : D.nx τ Γ) : cNext Y D τ Γ := h
theorem t_cnt (h : D.ct τ Γ) : cCont Y D τ Γ := h
theorem t_and {a b : E3} (h : a Y τ Γ fun x Γ1 => ∃ c, x = .bl c ∧ if c = true then b Y τ Γ1 Z else Z (.bl false) Γ1) : eAnd a b Y τ Γ Z := h
theorem t_or {a b : E3} (h : a Y τ Γ fun x Γ1 => ∃ c, x = .bl c ∧ if c = true then Z (.bl true) Γ1 else b Y τ Γ1 Z) : eOr a b Y τ Γ Z := h
theorem t_not {a : E3} (h : a Y τ Γ fun x Γ1 => ∃ c, x = .bl c ∧ Z (.bl (!c)) Γ1) : eNot a Y τ Γ Z := h
theorem t_band {a b : T3} (h : a Y τ Γ fun c Γ1 => if c = true then b Y τ Γ1 B else B false Γ1) : bAnd a b Y τ Γ B := h
theorem t_bor {a b : T3} (h : a Y τ Γ fun c Γ1 => if c = true then B true Γ1 else b Y τ Γ1 B) : bOr a b Y τ Γ B := h
theorem t_bnot {a : T3} (h : a Y τ Γ fun c Γ1 => B (!c) Γ1) : bNot a Y τ Γ B := h
theorem t_eif {c : T3} {a b : E3} (h : c Y τ Γ fun k Γ1 => if k = true then a Y τ Γ1 Z else b Y τ Γ1 Z) : eIf c a b Y τ Γ Z := h
theorem t_nil {A : List T → Gp → Prop} (h : A [] Γ) : aNil Y τ Γ A := h
theorem t_cons {A : List T → Gp → Prop} {te : E3} {t : A3} (h : te Y τ Γ fun x Γ1 => t Y τ Γ1 fun xs Γ2 => A (x :: xs) Γ2) : aCons te t Y τ Γ A := h
theorem t_tup {t : A3} (h : t Y τ Γ fun xs Γ1 => xs.length ≤ sizeLine ∧ Z (.tup xs) Γ1) : eTup t Y τ Γ Z := h
theorem t_lst {t : A3} (h : t Y τ Γ fun xs Γ1 => xs.length ≤ sizeLine ∧ ∀ p, Γ1 p = none → Z (.ref p) (up Γ1 p (.lst xs))) : eLst t Y τ Γ Z := h
theorem t_len {n : Nat} {A : Prop} (h : Nat.ble n 1000 = true) (a : A) : n ≤ sizeLine ∧ A := ⟨Nat.le_trans (Nat.le_of_ble_eq_true h) (by decide), a⟩
theorem t_call {sp : Sp3} {t : A3} (h : t Y τ Γ fun xs Γ1 => sp xs Γ1 Z fun _ _ => False) : eCall sp t Y τ Γ Z := h
theorem t_callX {sp : Sp3} {t : A3} (h : t Y τ Γ fun xs Γ1 => sp xs Γ1 Z (Y τ)) : eCallX sp t Y τ Γ Z := h
theorem t_cb {r : F3} {t : A3} (h : t Y τ Γ fun ts Γ1 => r ts Γ1 Z) : eCB r t Y τ Γ Z := h
theorem t_J {g : Int → Int → T} {i j : Int} (h : Z (g i j) Γ) : r3J g (.int i) (.int j) Γ Z := ⟨i, j, rfl, rfl, h⟩
theorem t_I {C : Int → Int → Prop} {g : Int → Int → T} {i j : Int} (c : C i j) (h : Z (g i j) Γ) : r3I C g (.int i) (.int j) Γ Z := ⟨i, j, rfl, rfl, c, h⟩
theorem t_eqS {a b : Str} (h : Z (.bl (decide (V.str a = V.str b))) Γ) : r3Eq (.str a) (.str b) Γ Z := ⟨_, _, rfl, rfl, rfl, h⟩
theorem t_eqI {a b : Int} (h : Z (.bl (decide (V.int a = V.int b))) Γ) : r3Eq (.int a) (.int b) Γ Z := ⟨_, _, rfl, rfl, rfl, h⟩
theorem t_neS {a b : Str} (h : Z (.bl (!decide (V.str a = V.str b))) Γ) : r3Ne (.str a) (.str b) Γ Z := ⟨_, _, rfl, rfl, rfl, h⟩
theorem t_neI {a b : Int} (h : Z (.bl (!decide (V.int a = V.int b))) Γ) : r3Ne (.int a) (.int b) Γ Z := ⟨_, _, rfl, rfl, rfl, h⟩
theorem t_ix0 {t : T} {ts : List T} (z : Z t Γ) : r3Ix (.tup (t :: ts)) (.int 0) Γ Z := ⟨_, 0, t, rfl, rfl, at0, z⟩
theorem t_ix1 {t u : T} {ts : List T} (z : Z u Γ) : r3Ix (.tup (t :: u :: ts)) (.int 1) Γ Z := ⟨_, 1, u, rfl, rfl, at1, z⟩
theorem t_bm {Tn : String} {r : M3r} {to : E3} {t : A3} (h : to Y τ Γ fun x Γ1 => tyOf Γ1 x = some Tn ∧ t Y τ Γ1 fun xs Γ2 => r x xs Γ2 Z) : eBM Tn r to t Y τ Γ Z := h
theorem t_bm0 {Tn : String} {r : M3r} {to : E3} (h : to Y τ Γ fun x Γ1 => tyOf Γ1 x = some Tn ∧ r x [] Γ1 Z) : eBM0 Tn r to Y τ Γ Z := h
theorem t_inst {K : PySem.W.Frag} {Ty : String} {te : E3} (h : te Y τ Γ fun x Γ1 => ∃ n b, tyOf Γ1 x = some n ∧ PySem.W.kitOne K (.type n) (.type Ty) = some b ∧ Z (.bl b) Γ1) : eInst K Ty te Y τ Γ Z := h
theorem t_tru {t : E3} (h : t Y τ Γ fun x Γ1 => ∃ k, tru3 Γ1 x = some k ∧ B k Γ1) : eTru t Y τ Γ B := h
theorem t_asg {te : E3} {g : G3} (h : te Y τ Γ fun x Γ1 => g Y x τ Γ1 D.nx) : cAsg te g Y D τ Γ := h
theorem t_hn {i : Nat} {x : T} (h : N (τ.set i (some x)) Γ) : hName i Y x τ Γ N := h
theorem t_ht {n : Nat} {gs : Gs3} {ts : List T} (l : Nat.beq ts.length n = true) (h : gs Y ts τ Γ N) : hTup n gs Y (.tup ts) τ Γ N := ⟨ts, rfl, Nat.eq_of_beq_eq_true l, h⟩
theorem t_hc {g : G3} {gs : Gs3} {x : T} {r : List T} (h : g Y x τ Γ fun τ1 Γ1 => gs Y r τ1 Γ1 N) : hCons g gs Y (x :: r) τ Γ N := ⟨x, r, rfl, h⟩
theorem t_h0 (h : N τ Γ) : hNil Y [] τ Γ N := ⟨rfl, h⟩
theorem t_hs {to ti : E3} {v : T} (h : to Y τ Γ fun o Γ1 => ti Y τ Γ1 fun i Γ2 => ∃ a ts k j, o = .ref a ∧ i = .int k ∧ Γ2 a = some (.lst ts) ∧ ixN ts.length k = some j ∧ N τ (up Γ2 a (.lst (ts.set j v)))) : hSub to ti Y v τ Γ N := h
theorem t_un {r : T → Gp → K3 → Prop} {a : E3} (h : a Y τ Γ fun x Γ1 => r x Γ1 Z) : eUn r a Y τ Γ Z := h
theorem t_neg {g : Int → T} {i : Int} (h : Z (g i) Γ) : r3U g (.int i) Γ Z := ⟨i, rfl, h⟩
theorem t_sl {r : L3r} {te : E3} {tl th : O3} (h : te Y τ Γ fun x Γ1 => tl Y τ Γ1 fun l Γ2 => th Y τ Γ2 fun u Γ3 => r x l u Γ3 Z) : eSl r te tl th Y τ Γ Z := h
theorem t_on {Q : Option Int → Gp → Prop} (h : Q none Γ) : oNone Y τ Γ Q := h
theorem t_os {Q : Option Int → Gp → Prop} {t : E3} (h : t Y τ Γ fun x Γ1 => ∃ i, x = .int i ∧ Q (some i) Γ1) : oSome t Y τ Γ Q := h
theorem t_oi {i : Int} {Q : Int → Prop} (h : Q i) : ∃ k, T.int i = .int k ∧ Q k := ⟨i, rfl, h⟩
theorem t_rev {r : T → Gp → K3 → Prop} {te ts : E3} (h : te Y τ Γ fun x Γ1 => ts Y τ Γ1 fun k Γ2 => k = .int (-1) ∧ r x Γ2 Z) : eRev r te ts Y τ Γ Z := h
theorem t_for {wi : I3} {g : G3} {tb : C3} (h : wi Y τ Γ fun ts gd Γ1 => wFor gd g tb Y D ts τ Γ1) : cFor wi g tb Y D τ Γ := h
theorem t_itp {tl : E3} {I : List T → (Gp → Prop) → Gp → Prop} (h : tl Y τ Γ fun x Γ1 => ∃ ts, x = .tup ts ∧ I ts gT Γ1) : iTp tl Y τ Γ I := h
theorem t_tp {ts : List T} {Q : List T → Prop} (h : Q ts) : ∃ us, T.tup ts = .tup us ∧ Q us := ⟨ts, rfl, h⟩
theorem t_cat {ts us : List T} (l : ts.length + us.length ≤ sizeLine) (h : Z (.tup (ts ++ us)) Γ) : r3Cat (.tup ts) (.tup us) Γ Z := ⟨ts, us, rfl, rfl, l, h⟩
theorem t_comp {wi : I3} {g : G3} {tc : T3} {te : E3} {own : List Str} {cap : List (Nat × Str)} (h : wi Y τ Γ fun ts gd Γ1 => ts.length ≤ sizeLine ∧ wComp gd g tc te (fun ys Γ2 => ∀ D, Γ2 D = none → Z (.ref D) (up Γ2 D (.lst ys))) ts (cSt own cap τ) [] Γ1) : eComp wi g tc te own cap Y τ Γ Z := h
theorem t_bt (h : B true Γ) : bTrue Y τ Γ B := h
theorem t_raise {C : Addr} {t : A3} (h : t Y τ Γ fun xs Γ1 => xs.length ≤ sizeLine ∧ Y τ (.ref C) Γ1) : cRaise C t Y D τ Γ := h
theorem t_rg1 {ta : A3} {I : List T → (Gp → Prop) → Gp → Prop} (h : ta Y τ Γ fun xs Γ1 => ∃ j : Int, xs = [.int j] ∧ -(2 ^ 62) ≤ j ∧ j < 2 ^ 62 ∧ I (rngT 0 j.toNat) gT Γ1) : iRg1 ta Y τ Γ I := h
theorem t_zp {ta : A3} {I : List T → (Gp → Prop) → Gp → Prop} (h : ta Y τ Γ fun xs Γ1 => ∃ ts us, xs = [.tup ts, .tup us] ∧ I (zipT ts us) gT Γ1) : iZp ta Y τ Γ I := h
theorem t_en {ta : A3} {I : List T → (Gp → Prop) → Gp → Prop} (h : ta Y τ Γ fun xs Γ1 => ∃ ts, xs = [.tup ts] ∧ I (enumT 0 ts) gT Γ1) : iEn ta Y τ Γ I := h
theorem t_ils {tl : E3} {I : List T → (Gp → Prop) → Gp → Prop} (h : tl Y τ Γ fun x Γ1 => ∃ a ts, x = .ref a ∧ it3 Γ1 (.ref a) = some ts ∧ I ts (fun Γ' => it3 Γ' (.ref a) = some ts) Γ1) : iLs tl Y τ Γ I := h
theorem t_ist {tl : E3} {I : List T → (Gp → Prop) → Gp → Prop} (h : tl Y τ Γ fun x Γ1 => ∃ z, x = .str z ∧ I (signsT z) gT Γ1) : iSt tl Y τ Γ I := h
theorem t_str {z : Str} {Q : Str → Prop} (h : Q z) : ∃ k, T.str z = .str k ∧ Q k := ⟨z, rfl, h⟩
theorem c_ifT {b : Bool} {A C : Prop} (h : b = true) (a : A) : if b = true then A else C := by rw [if_pos h]; exact a
theorem c_ifF {b : Bool} {A C : Prop} (h : b = false) (a : C) : if b = true then A else C := by rw [if_neg (by rw [h]; exact Bool.false_ne_true)]; exact a
theorem c_if {b : Bool} {A C : Prop} (h1 : b = true → A) (h2 : b = false → C) : if b = true then A else C := by
 cases b with
 | true => rw [if_pos rfl]; exact h1 rfl
 | false => rw [if_neg Bool.false_ne_true]; exact h2 rfl
theorem nocut {t : C3} (h : t Y D τ Γ) : cCut t Y D τ Γ := ⟨D.nx, h, fun _ _ z => z⟩
end
end L3
set_option Elab.async false
set_option linter.all false
set_option maxRecDepth 100000
namespace L3
open PySem PySem.Spec L2
open PyProof.Rows hiding St
section
variable {X : Cx}
theorem scs_strs : ∀ ss : List Str, scs (ss.map T.str) = some (ss.map V.str)
 | [] => rfl
 | s :: r => by rw [List.map_cons, List.map_cons, scs, scs_strs r]; rfl
end
end L3
namespace L3
open PySem PySem.Spec L2
section
variable {Y : X3} {τ : S3} {Γ : Gp} {Z : K3}
theorem t_1t {us : List T} {Q : List T → Prop} (h : Q us) : ∃ ts, [T.tup us] = [T.tup ts] ∧ Q ts := ⟨us, rfl, h⟩
theorem t_2t {us ws : List T} {Q : List T → List T → Prop} (h : Q us ws) : ∃ ts vs, [T.tup us, T.tup ws] = [T.tup ts, T.tup vs] ∧ Q ts vs := ⟨us, ws, rfl, h⟩
theorem t_eqSI {a : Str} {b : Int} (h : Z (.bl false) Γ) : r3Eq (.str a) (.int b) Γ Z := ⟨_, _, rfl, rfl, rfl, h⟩
theorem t_eqIS {a : Int} {b : Str} (h : Z (.bl false) Γ) : r3Eq (.int a) (.str b) Γ Z := ⟨_, _, rfl, rfl, rfl, h⟩
theorem t_neSI {a : Str} {b : Int} (h : Z (.bl true) Γ) : r3Ne (.str a) (.int b) Γ Z := ⟨_, _, rfl, rfl, rfl, h⟩
theorem t_neIS {a : Int} {b : Str} (h : Z (.bl true) Γ) : r3Ne (.int a) (.str b) Γ Z := ⟨_, _, rfl, rfl, rfl, h⟩
theorem t_gT {A : Prop} (h : A) : gT Γ ∧ A := ⟨trivial, h⟩
theorem d_str {a b : Str} (h : decide (V.str a = V.str b) = true) : a = b := V.str.inj (of_decide_eq_true h)
theorem d_strN {a b : Str} (h : decide (V.str a = V.str b) = false) : a ≠ b := fun e => of_decide_eq_false h (by rw [e])
theorem d_int {a b : Int} (h : decide (V.int a = V.int b) = true) : a = b := V.int.inj (of_decide_eq_true h)
theorem t_lenT {us : List T} {Q : T → List T → Prop} (h : Q (.tup us) us) : ∃ x ts, [T.tup us] = [x] ∧ it3 Γ x = some ts ∧ Q x ts := ⟨.tup us, us, rfl, rfl, h⟩
end
end L3
namespace L3
open PySem PySem.Spec L2
section
variable {Y : X3} {τ : S3} {Γ : Gp} {Z : K3}
theorem t_chain {r r' : R3} {a b c : E3} (h : a Y τ Γ fun x Γ1 => b Y τ Γ1 fun y Γ2 => r x y Γ2 fun z Γ3 => ∃ k, z = .bl k ∧ (if k = true then c Y τ Γ3 fun w' Γ4 => r' y w' Γ4 Z else Z (.bl false) Γ3)) : eChain r r' a b c Y τ Γ Z := h
theorem t_inT {neg : Bool} {x : T} {u : V} {ts : List T} {us : List V} (h1 : sc x = some u) (h2 : scs ts = some us) (h3 : (flatV u && us.all flatV) = true) (z : Z (.bl (if neg then !inV u us else inV u us)) Γ) : r3In neg x (.tup ts) Γ Z := by
 rw [Bool.and_eq_true] at h3
 exact ⟨u, ts, us, h1, rfl, h2, h3.1, h3.2, z⟩
theorem t_inL {neg : Bool} {x : T} {u : V} {p : Addr} {ts : List T} {us : List V} (g : Γ p = some (.lst ts)) (h1 : sc x = some u) (h2 : scs ts = some us) (h3 : flatV u = true) (h4 : us.all flatV = true) (z : Z (.bl (if neg then !inV u us else inV u us)) Γ) : r3In neg x (.ref p) Γ Z :=
 ⟨u, ts, us, h1, it3_l g, h2, h3, h4, z⟩
theorem t_lenR {p : Addr} {ts : List T} {Q : T → List T → Prop} (g : Γ p = some (.lst ts)) (h : Q (.ref p) ts) : ∃ x us, [T.ref p] = [x] ∧ it3 Γ x = some us ∧ Q x us := ⟨.ref p, ts, rfl, it3_l g, h⟩
theorem t_ixR {p : Addr} {ts : List T} {i : Int} {t : T} (g : Γ p = some (.lst ts)) (h : atI ts i = some t) (z : Z t Γ) : r3Ix (.ref p) (.int i) Γ Z := ⟨ts, i, t, it3_l g, rfl, h, z⟩
theorem t_ixT {ts : List T} {i : Int} {t : T} (h : atI ts i = some t) (z : Z t Γ) : r3Ix (.tup ts) (.int i) Γ Z := ⟨ts, i, t, rfl, rfl, h, z⟩
theorem t_ixN {ts : List T} {i : Nat} {t : T} (h : ts[i]? = some t) (z : Z t Γ) : r3Ix (.tup ts) (.int (i : Nat)) Γ Z := ⟨ts, i, t, rfl, rfl, atI_nat h, z⟩
theorem t_tyL {p : Addr} {ts : List T} {A : Prop} (g : Γ p = some (.lst ts)) (h : A) : tyOf Γ (.ref p) = some "list" ∧ A := ⟨by show (match Γ p with | some (.lst _) => some "list" | some (.dK _) => some "dict" | _ => none) = _; rw [g], h⟩
theorem t_tyS {z : Str} {A : Prop} (h : A) : tyOf Γ (.str z) = some "str" ∧ A := ⟨rfl, h⟩
end
end L3
namespace L3
open PySem PySem.Spec L2
section
variable {Y : X3} {τ : S3} {Γ : Gp} {Z : K3} {N : S3 → Gp → Prop}
theorem t_2i {i j : Int} {Q : Int → Int → Prop} (h : Q i j) : ∃ i' j', [T.int i, T.int j] = [T.int i', T.int j'] ∧ Q i' j' := ⟨i, j, rfl, h⟩
theorem t_hsub {p : Addr} {ts : List T} {k : Int} {j : Nat} {v : T} (g : Γ p = some (.lst ts)) (h : ixN ts.length k = some j) (z : N τ (up Γ p (.lst (ts.set j v)))) : ∃ a us k' j', T.ref p = .ref a ∧ T.int k = .int k' ∧ Γ a = some (.lst us) ∧ ixN us.length k' = some j' ∧ N τ (up Γ a (.lst (us.set j' v))) := ⟨p, ts, k, j, rfl, rfl, g, h, z⟩
end
end L3
namespace L3
open PySem PySem.Spec L2
section
variable {Y : X3} {τ : S3} {Γ : Gp} {Z : K3} {N : S3 → Gp → Prop}
theorem t_e0 {A : Prop} (h : A) : T.tup [] = T.tup [] ∧ A := ⟨rfl, h⟩
end
end L3
namespace L3
open PySem PySem.Spec L2
section
variable {Y : X3} {τ : S3} {Γ : Gp} {Z : K3} {D : D3}
theorem t_try {K : PySem.W.Frag} {Cy : Addr} {j : Nat} {tb ts : C3} (h : tb (fun τ' C Γ' => PySem.W.exmOne K C (.ref Cy) = some true ∧ ∀ x, Γ' x = none →
 ts Y0 { nx := fun τ2 Γ2 => D.nx (τ2.set j none) Γ2, rt := D.rt, bk := fun τ2 Γ2 => D.bk (τ2.set j none) Γ2, ct := fun τ2 Γ2 => D.ct (τ2.set j none) Γ2 } (τ'.set j (some (.ref x))) (up Γ' x (.ext (excAt x C)))) D τ Γ) : cTry K Cy j tb ts Y D τ Γ := h
theorem t_lz {ta : A3} (h : ta Y τ Γ fun xs Γ1 => ∃ ts us, xs = [.tup ts, .tup us] ∧ ts.length = us.length ∧ ∀ p, Γ1 p = none → Z (.ref p) (up Γ1 p (.lst (zipT ts us)))) : eLZ ta Y τ Γ Z := h
end
theorem us1 {α : Type} {P : List α → Prop} (h : ∀ a0, P [a0]) : ∀ us : List α, us.length = 1 → P us
 | [a0], _ => h _
theorem us2 {α : Type} {P : List α → Prop} (h : ∀ a0 a1, P [a0, a1]) : ∀ us : List α, us.length = 2 → P us
 | [a0, a1], _ => h _ _
theorem us3 {α : Type} {P : List α → Prop} (h : ∀ a0 a1 a2, P [a0, a1, a2]) : ∀ us : List α, us.length = 3 → P us
 | [a0, a1, a2], _ => h _ _ _
end L3
set_option Elab.async false
set_option linter.all false
set_option maxRecDepth 100000
namespace L3
open PySem PySem.Spec L2
open PyProof.Rows hiding St
section
variable {X : Cx}
theorem Rs.getD {H : Hp} : ∀ {vs : List V} {ts : List T} {j : Nat} {t : T}, Rs H vs ts → ts[j]? = some t → R H (vs.getD j .non) t
 | vs, [], j, t, q, h => by simp at h
 | vs, x :: ts, j, t, q, h => by
  obtain ⟨w, ws, rfl, r1, r2⟩ := rs_inv q
  cases j with
  | zero => cases h; exact r1
  | succ j =>
   show R H (ws.getD j .non) t
   exact Rs.getD r2 (by simpa using h)
end
end L3
set_option Elab.async false
set_option linter.all false
set_option maxRecDepth 100000
namespace L3
open PySem PySem.Spec L2
open PyProof.Rows hiding St
section
variable {X : Cx}
end
end L3
set_option Elab.async false
set_option linter.all false
set_option maxRecDepth 100000
namespace Sr
open PySem PyProof.Rows
structure SB (a0 : Array Keyed) (kd : SortKind) (st : SortSt) : Prop where
 perm : (arrOf st).Perm a0
 kind : kindOf st = kd
 failed : failedOf st = none
 pend : pendingOf st = #[]
section
variable {prog : Program} {w : World} {A : Around} {E : Value → Shared → Prop} {s : Shared} {a0 : Array Keyed} {kd : SortKind} {st : SortSt}
theorem SB.size (B : SB a0 kd st) : (arrOf st).size = a0.size := B.perm.size_eq
theorem SB.get (B : SB a0 kd st) {i : Nat} (h : i < a0.size) : ∃ x, (arrOf st)[i]? = some x ∧ x ∈ a0.toList := by
 have h' : i < (arrOf st).size := by rw [B.size]; exact h
 refine ⟨(arrOf st)[i], by simp [h'], ?_⟩
 have := B.perm
 rw [Array.perm_iff_toList_perm] at this
 exact this.mem_iff.mp (by simp)
end
end Sr
set_option Elab.async false
set_option linter.all false
set_option maxRecDepth 100000
namespace Sr
open PySem PyProof.Rows
section
variable {prog : Program} {w : World} {A : Around} {E : Value → Shared → Prop} {s : Shared}
end
end Sr
set_option Elab.async false
set_option linter.all false
set_option maxRecDepth 100000
namespace Sr
open PySem PyProof.Rows
section
variable {prog : Program} {w : World} {A : Around} {E : Value → Shared → Prop} {s : Shared} {M : Model}
end
end Sr
set_option Elab.async false
set_option linter.all false
set_option maxRecDepth 100000
namespace L2
open PySem PySem.Spec PyProof.Rows
section
variable {X : Cx}
end
end L2
namespace L3
open PySem PySem.Spec L2
section
variable {X : Cx}
end
end L3
set_option Elab.async false
set_option linter.all false
set_option maxRecDepth 100000
namespace L2
open PySem PySem.Spec PyProof.Rows
section
variable {prog : Program} {w : World} {A : Around} {E : Value → Shared → Prop} {s : Shared}
end
section
variable {X : Cx}
end
end L2
namespace L3
open PySem PySem.Spec L2
section
variable {X : Cx} {E : St → XK}
end
end L3
set_option Elab.async false
set_option linter.all false
set_option maxRecDepth 100000
namespace L2
open PySem PySem.Spec PyProof.Rows
def Itr3 (lo c : Int) (n : Nat) : It := ⟨fun i _ => i < n, fun i H x H' => H' = H ∧ x = .int (lo + (i : Int) * c), fun i _ => n ≤ i⟩
theorem turn_range3 {P : Program} {w : World} {K : PySem.W.Frag} {tg : Expr} (it : Addr) (lo c : Int) (n : Nat) : Turn P w K tg (Itr3 lo c n) [it] it (fun i h => IsRangeIter h it (lo + (i : Nat) * c) ((n : Int) - (i : Nat)) c) where
 mem := by simp
 obj := fun i h st b hb => by
  have e : b = it := by simpa using hb
  subst e
  exact ⟨_, st, fun v z => by
   have z' : Data.fields _ = Data.cell v := z
   cases z'⟩
 keep := fun i h h' st k => k it (by simp) _ st
 item := by
  intro X hP hw hK hc i pins s σ H E I hf st hg
  subst hP hw hK
  obtain ⟨f0, f1, f2, f3, f4, f5⟩ := hf it (by simp)
  have W := Walks.range (prog := X.prog) (w := X.w) (I.ok.hd hc) it lo c n
  refine W.item i s _ _ hg st fun v h' tk hv st' kk => ?_
  obtain ⟨t, rfl⟩ := hv
  have I1 : Inv X pins σ H { s with heap := h', toks := tk } := I.turned (fun b o hb e => kk b o (by simpa using hb) e) f0 f1 f3 f4 f5
  exact ⟨_, rfl, go_of (s := { s with heap := h', toks := tk }) (n := "range_iterator") st' rfl rfl (by decide) ⟨.int (lo + (i : Int) * c), H, I1, ⟨t, rfl⟩, ⟨rfl, rfl⟩, st', fun b hb => (hf b hb).1⟩⟩
 done := by
  intro X hP hw hK hc i pins s σ H E I hf st hg
  subst hP hw hK
  obtain ⟨f0, f1, f2, f3, f4, f5⟩ := hf it (by simp)
  exact wpAny_pyNext_range_end (I.ok.hd hc) st (by have : n ≤ i := hg; omega) fun h' eb => ⟨rfl, I.turned (t' := s.toks) (fun b o hb e => eb b o hb e) f0 f1 f3 f4 f5⟩
 self := fun _ _ _ _ _ st h => wpAny_pyIter_rangeiter st h
section
variable {X : Cx} {tg : Expr}
def iRng3 (ta : TA) : TI := fun σ H R => ta σ H fun vs H1 => ∃ (i j c : Int) (n : Nat), vs = [.int i, .int j, .int c] ∧ (c = 2 ∨ c = -1) ∧ -(2 ^ 30) ≤ i ∧ i < 2 ^ 30 ∧ -(2 ^ 30) ≤ j ∧ j < 2 ^ 30 ∧ Builtin.Range.rangeSize i j c = (n : Int) ∧ R (Itr3 i c n) H1
theorem small_3 {i j c : Int} {n : Nat} (hc : c = 2 ∨ c = -1) (h1 : -(2 ^ 30) ≤ i) (h2 : i < 2 ^ 30) (h3 : -(2 ^ 30) ≤ j) (h4 : j < 2 ^ 30) (hn : Builtin.Range.rangeSize i j c = (n : Int)) : Builtin.Range.small i j c = true := by
 have hs : (n : Int) ≤ 2 ^ 32 := by
  rw [← hn]
  unfold Builtin.Range.rangeSize
  rcases hc with rfl | rfl
  ·rw [if_pos (by decide)]
   split <;> omega
  ·rw [if_neg (by decide), show (- (-1 : Int)) = 1 from rfl, Int.ediv_one]
   split <;> omega
 unfold Builtin.Range.small Builtin.Range.rangeFitsLong
 rw [hn]
 rcases hc with rfl | rfl
 ·simp
  omega
 ·simp
  omega
theorem pi_range3 {a b c : Expr} {ta : TA} {p pos : Pos} (hg : Gl X "range") (hm : X.mg "range" = none) (ha : PA X [a, b, c] ta) (hs : starEach [a, b, c] X.env = [(false, eval a X.env), (false, eval b X.env), (false, eval c X.env)] := by rfl) (hs2 : starEach [b, c] X.env = [(false, eval b X.env), (false, eval c X.env)] := by rfl) :
  PI X tg (.Call (.Name "range" p) [a, b, c] [] pos) (iRng3 ta) := by
 refine .mk ?_
 intro pins s σ H R I h
 refine Call_ (ld_blt I hg hm boot_range (PyProof.Rows.callWith_type1 (thn (ha pos pins s σ H _ I h) fun us s1 ⟨vs, H1, I1, r1, q1⟩ => ?_) (by rw [hs, hs2]) (by rw [hs2]; rfl)))
 obtain ⟨i, j, c', n, e, hc, b1, b2, b3, b4, hn, q⟩ := q1
 subst e
 cases r1 with
 | cons r rr =>
  cases rr with
  | cons r' rr =>
   cases rr with
   | cons r'' rr =>
    cases rr
    obtain ⟨t, rfl⟩ := r
    obtain ⟨t', rfl⟩ := r'
    obtain ⟨t'', rfl⟩ := r''
    refine call_range_3 (by rcases hc with rfl | rfl <;> decide) ?_ (.inl ?_)
    ·refine wpAny_pyIter_range (IsRange.new ..) (small_3 hc b1 b2 b3 b4 hn) ?_
     have I2 : Inv X pins σ H1 { s1 with heap := s1.heap.push { cls := .type "range", data := .fields #[.int i t, .int j t', .int c' t''] } } := I1.kept (t' := s1.toks) fun b o e => Heap.get?_push_of_some _ e
     refine ⟨(s1.heap.push { cls := .type "range", data := .fields #[.int i t, .int j t', .int c' t''] }).objs.size, [(s1.heap.push { cls := .type "range", data := .fields #[.int i t, .int j t', .int c' t''] }).objs.size], _, _, H1, rfl, I2.kept (t' := s1.toks) fun b o e => Heap.get?_push_of_some _ e, turn_range3 _ i c' n, ?_, fun b hb => ?_, q⟩
     ·have e1 : i + ((0 : Nat) : Int) * c' = i := by simp
      have e2 : ((n : Nat) : Int) - ((0 : Nat) : Int) = Builtin.Range.rangeSize i j c' := by rw [hn]; omega
      show IsRangeIter _ _ (i + ((0 : Nat) : Int) * c') (((n : Nat) : Int) - ((0 : Nat) : Int)) c'
      rw [e1, e2]
      exact Heap.get?_push_size _ rfl
     ·have e : b = (s1.heap.push { cls := .type "range", data := .fields #[.int i t, .int j t', .int c' t''] }).objs.size := by simpa using hb
      subst e
      exact I2.fpOk (Nat.le_refl _) (I2.hok.fresh (Nat.le_refl _))
    ·refine PyProof.noPylong_of_log2 ?_
     rcases hc with rfl | rfl <;> decide
end
end L2
namespace L3
open PySem PySem.Spec L2
open PyProof.Rows hiding St
section
variable {X : Cx} {E : St → XK} {tg : Expr} {p pos : Pos}
def rngT3 (lo c : Int) : Nat → List T
 | 0 => []
 | n + 1 => .int lo :: rngT3 (lo + c) c n
theorem rngT3_len (c : Int) : ∀ (n : Nat) (lo : Int), (rngT3 lo c n).length = n
 | 0, _ => rfl
 | n + 1, lo => by rw [rngT3, List.length_cons, rngT3_len c n]
theorem rngT3_get (c : Int) : ∀ (n : Nat) (lo : Int) (i : Nat), i < n → (rngT3 lo c n)[i]? = some (.int (lo + (i : Int) * c))
 | 0, _, i, h => absurd h (Nat.not_lt_zero _)
 | n + 1, lo, 0, _ => by rw [rngT3]; simp
 | n + 1, lo, i + 1, h => by
  rw [rngT3, List.getElem?_cons_succ, rngT3_get c n (lo + c) i (by omega)]
  congr 2
  have : ((i + 1 : Nat) : Int) * c = (i : Int) * c + c := by rw [Int.natCast_succ, Int.add_mul, Int.one_mul]
  omega
theorem walk_range3 {H : Hp} (lo c : Int) (n : Nat) : Walks (Itr3 lo c n) (rngT3 lo c n) gT H where
 go := fun i H' Γ t hr _ hi => by rw [rngT3_len] at hi; exact hi
 yld := fun i H' Γ x H2 t hr _ hi q0 => by
  obtain ⟨e, y⟩ := q0
  subst e y
  rw [rngT3_len] at hi
  exact ⟨.refl, hr, _, rngT3_get c n lo i hi, r_int⟩
 stop := fun H' Γ t hr _ => by rw [rngT3_len]; exact Nat.le_refl _
def iRg3 (ta : A3) : I3 := fun Y τ Γ Z => ta Y τ Γ fun xs Γ1 => ∃ (i j c : Int) (n : Nat), xs = [.int i, .int j, .int c] ∧ (c = 2 ∨ c = -1) ∧ -(2 ^ 30) ≤ i ∧ i < 2 ^ 30 ∧ -(2 ^ 30) ≤ j ∧ j < 2 ^ 30 ∧ Builtin.Range.rangeSize i j c = (n : Int) ∧ Z (rngT3 i c n) gT Γ1
theorem qi_range3 {a b c : Expr} {ta : A3} (hg : Gl X "range") (hm : X.mg "range" = none) (ha : PA X [a, b, c] (liA E ta)) (hs : starEach [a, b, c] X.env = [(false, eval a X.env), (false, eval b X.env), (false, eval c X.env)] := by rfl) (hs2 : starEach [b, c] X.env = [(false, eval b X.env), (false, eval c X.env)] := by rfl) : PI X tg (.Call (.Name "range" p) [a, b, c] [] pos) (liI E (iRg3 ta)) :=
 weakI3 (pi_range3 hg hm ha hs hs2) fun σ H Q τ Γ Y Z rs hr t vr xr => ⟨τ, Γ, Y, _, rs, hr, t, fun vs xs H1 Γ1 s1 h1 r1 ⟨i, j, c, n, ex, hc, b1, b2, b3, b4, hn, z⟩ => by
  subst ex
  obtain ⟨v, ws, rfl, a, r2⟩ := rs_inv r1
  obtain ⟨w, u, rfl, b, d⟩ := rs2 r2
  exact ⟨i, j, c, n, by rw [i_int a, i_int b, i_int d], hc, b1, b2, b3, b4, hn, vr _ _ gT H1 Γ1 s1 h1 (walk_range3 i c n) z⟩, xr⟩
theorem mq_popAt : MQ X "list.pop" (fun x ts Γ Z => ∃ a us k y, x = .ref a ∧ ts = [.int (k : Nat)] ∧ Γ a = some (.lst us) ∧ k < 2 ^ 30 ∧ us[k]? = some y ∧ Z y (up Γ a (.lst (us.eraseIdx k)))) :=
 ⟨_, mt_popAt, fun v x vs ts H Γ Q Z r rs hr q0 vr => by
  obtain ⟨a, us, k, y, ex, et, g, hk, hy, z⟩ := q0
  subst ex et
  obtain ⟨w, rfl, rw'⟩ := rs1 rs
  obtain ⟨va, hva, qa⟩ := hr a _ g
  have hl : k < us.length := (List.getElem?_eq_some_iff.mp hy).1
  obtain ⟨vy, hvy, ry⟩ := qa.get hy
  refine ⟨a, va, (k : Int), k, vy, i_ref r, by rw [i_int rw'], hva, by omega, by omega, ?_, hvy, ?_⟩
  ·have h : ixN va.length (k : Int) = some k := by
    unfold ixN
    rw [if_pos (by omega), if_pos (by rw [qa.length]; omega), Int.toNat_natCast]
   exact (ixN_seq h).1
  ·have s : Stp H Γ (upd H a (.lst (va.eraseIdx k))) (up Γ a (.lst (us.eraseIdx k))) := .set hr g
   have qe : Rs H (va.eraseIdx k) (us.eraseIdx k) := by
    rw [List.eraseIdx_eq_take_drop_succ, List.eraseIdx_eq_take_drop_succ]
    exact Rs.app (qa.take k) (qa.drop (k + 1))
   exact vr _ _ _ _ s (hr.set g ⟨_, upd_same, qe.mono s.tq⟩) (ry.mono s.tq) z⟩
theorem oq_repL : OpQ X (binaryOp .Mult) (fun x y Γ Z => ∃ a k ts, x = .ref a ∧ y = .int k ∧ Γ a = some (.lst ts) ∧ -(2 ^ 63) ≤ k ∧ k < 2 ^ 63 ∧ ts.length * k.toNat ≤ sizeLine ∧ ∀ p, Γ p = none → Z (.ref p) (up Γ p (.lst (List.replicate k.toNat ts).flatten))) :=
 ⟨_, op_rep, fun x y a b H Γ Q Z ra rb hr q0 vr => by
  obtain ⟨p, k, ts, ea, eb, g, k1, k2, hl, z⟩ := q0
  subst ea eb
  obtain ⟨vs, hv, q⟩ := hr p _ g
  refine ⟨p, k, vs, i_ref ra, by rw [i_int rb], hv, k1, k2, by rw [q.length]; exact hl, fun l hl' => ?_⟩
  have kk := keep_new (o := .lst (List.replicate k.toNat vs).flatten) hl'
  exact vr _ _ _ _ (.make hl') (hr.make (o3 := .lst (List.replicate k.toNat ts).flatten) hl' ⟨_, upd_same, (rs_flat q _).mono (tq_kp kk)⟩) r_ref (z l (hr.free hl'))⟩
end
end L3
set_option Elab.async false
set_option linter.all false
set_option maxRecDepth 100000
namespace L2
open PySem PySem.Spec PyProof.Rows
section
variable {X : Cx}
theorem call_intB : CallR X (.type "int") (fun xs H Q => ∃ b : Bool, xs = [.bl b] ∧ Q (.int (if b = true then 1 else 0)) H) := by
 intro pins s σ H xs us Q I r h
 obtain ⟨b, rfl, q⟩ := h
 obtain ⟨u, rfl, rx⟩ := vals1 r
 cases rx
 refine call_int_1 (meets_int_new_bool b) ?_
 exact ⟨typeIs_int _ _ _, .int _, H, I.tok _, ⟨_, rfl⟩, q⟩
def KTup (K : PySem.W.Frag) (a : Addr) (xs : List V) : Prop := ∃ (o : Obj) (its : Array Value) (n : Nat), K.lookup a = some o ∧ o.cls = .type "tuple" ∧ o.data = .seq its n ∧ its.size ≤ sizeLine ∧ Vals xs its.toList
theorem KTup.sq {K : PySem.W.Frag} {H : Hp} {a : Addr} {xs : List V} (h : KTup K a xs) : SqT K H a xs := .inr h
end
end L2
namespace L3
open PySem PySem.Spec L2
section
variable {X : Cx}
theorem cq_intB : CallQ X (.type "int") (fun xs Γ Z => ∃ b : Bool, xs = [.bl b] ∧ Z (.int (if b = true then 1 else 0)) Γ) :=
 ⟨_, call_intB, fun vs xs H Γ Q Z r hr q0 vr => by
  obtain ⟨b, e, z⟩ := q0
  subst e
  obtain ⟨v, rfl, a⟩ := rs1 r
  exact ⟨b, by rw [i_bl a], vr _ _ H Γ .refl hr r_int z⟩⟩
theorem oq_inK {a : Addr} {xs : List V} (hk : KTup X.K a xs) (hf : xs.all flatV = true) : OpQ X (compareOp .In) (fun x y Γ Z => ∃ u, sc x = some u ∧ flatV u = true ∧ y = .ref a ∧ Z (.bl (inV u xs)) Γ) :=
 ⟨_, op_in_seq, fun x y v b H Γ Q Z ra rb hr q0 vr => by
  obtain ⟨u, e1, f1, ey, z⟩ := q0
  subst ey
  rw [sc_r ra e1]
  exact ⟨a, xs, i_ref rb, .inr hk.sq, f1, hf, vr _ _ H Γ .refl hr r_bl z⟩⟩
end
end L3
set_option Elab.async false
set_option linter.all false
set_option maxRecDepth 100000
namespace Sr
open PySem PyProof.Rows
section
variable {O : KeyOrd} (κ : Keyed → O.α) (d0 : O.α)
def Le (a b : O.α) : Prop := O.blt b a = false
theorem Le.refl (a : O.α) : Le a a := O.irrefl a
theorem Le.trans {a b c : O.α} (h : Le a b) (h' : Le b c) : Le a c := by
 unfold Le at *
 cases e : O.blt c a with
 | false => rfl
 | true =>
  rcases O.negTrans c b a e with x | x
  ·rw [h'] at x; cases x
  ·rw [h] at x; cases x
def kat (xs : Array Keyed) (i : Nat) : O.α := match xs[i]? with
 | some p => κ p
 | none => d0
theorem kat_at {xs : Array Keyed} {i : Nat} {p : Keyed} (h : xs[i]? = some p) : kat κ d0 xs i = κ p := by unfold kat; rw [h]
def SortTo (xs : Array Keyed) (n : Nat) : Prop := ∀ i j, i ≤ j → j < n → Le (kat κ d0 xs i) (kat κ d0 xs j)
theorem SortTo.one (xs : Array Keyed) : SortTo κ d0 xs 1 := fun i j h h' => by
 have e : i = j := by omega
 rw [e]; exact Le.refl _
theorem SortTo.step {xs : Array Keyed} {n : Nat} (h : SortTo κ d0 xs n) (h1 : 1 ≤ n) (l : Le (kat κ d0 xs (n - 1)) (kat κ d0 xs n)) : SortTo κ d0 xs (n + 1) := fun i j hij hj => by
 by_cases e : j = n
 ·subst e
  by_cases e2 : i = j
  ·rw [e2]; exact Le.refl _
  ·exact (h i (j - 1) (by omega) (by omega)).trans l
 ·exact h i j hij (by omega)
def FallTo (xs : Array Keyed) (n : Nat) : Prop := ∀ i j, i < j → j < n → O.blt (kat κ d0 xs j) (kat κ d0 xs i) = true
theorem FallTo.step {xs : Array Keyed} {n : Nat} (h : FallTo κ d0 xs n) (h1 : 1 ≤ n) (l : O.blt (kat κ d0 xs n) (kat κ d0 xs (n - 1)) = true) : FallTo κ d0 xs (n + 1) := fun i j hij hj => by
 by_cases e : j = n
 ·subst e
  by_cases e2 : i = j - 1
  ·rw [e2]; exact l
  ·exact O.trans _ _ _ l (h i (j - 1) (by omega) (by omega))
 ·exact h i j hij (by omega)
end
section
variable {prog : Program} {w : World} {A : Around} {E : Value → Shared → Prop} {s : Shared} {a0 : Array Keyed} {kd : SortKind} {st : SortSt} {O : KeyOrd} {κ : Keyed → O.α} {d0 : O.α}
def Dif (κ : Keyed → O.α) (a0 : Array Keyed) : Prop := (a0.toList.map κ).Nodup
theorem Dif.ne (D : Dif κ a0) (B : SB a0 kd st) {i j : Nat} (hi : i < a0.size) (hj : j < a0.size) (n : i ≠ j) : kat κ d0 (arrOf st) i ≠ kat κ d0 (arrOf st) j := by
 have p := B.perm
 rw [Array.perm_iff_toList_perm] at p
 have nd : ((arrOf st).toList.map κ).Nodup := (p.map κ).nodup_iff.mpr D
 obtain ⟨x, ex, _⟩ := B.get hi
 obtain ⟨y, ey, _⟩ := B.get hj
 rw [kat_at κ d0 ex, kat_at κ d0 ey]
 intro e
 have hl : ∀ k, k < a0.size → k < ((arrOf st).toList.map κ).length := fun k hk => by rw [List.length_map, Array.length_toList, B.size]; exact hk
 have hx : ((arrOf st).toList.map κ)[i]'(hl i hi) = κ x := by
  have : ((arrOf st).toList.map κ)[i]? = some (κ x) := by rw [List.getElem?_map, Array.getElem?_toList, ex]; rfl
  exact (List.getElem?_eq_some_iff.mp this).2
 have hy : ((arrOf st).toList.map κ)[j]'(hl j hj) = κ y := by
  have : ((arrOf st).toList.map κ)[j]? = some (κ y) := by rw [List.getElem?_map, Array.getElem?_toList, ey]; rfl
  exact (List.getElem?_eq_some_iff.mp this).2
 have pw := List.pairwise_iff_getElem.mp nd
 rcases Nat.lt_or_gt_of_ne n with h | h
 ·exact pw i j (hl i hi) (hl j hj) h (by rw [hx, hy, e])
 ·exact pw j i (hl j hj) (hl i hi) h (by rw [hx, hy, e])
end
end Sr
set_option Elab.async false
set_option linter.all false
set_option maxRecDepth 100000
namespace L2
open PySem PySem.Spec PyProof.Rows
def CalleeM (P : Program) (w : World) (K : PySem.W.Frag) (mg : Str → Option Value) (base : Heap) (C : Addr) (m : Str) (k : Nat) (ps : List Str) (sp : Sp) : Prop :=
 ∃ f fd, FnOk P w K mg base CX0 k f fd ps sp ∧ Cls K C ∧ Meth K C m f ∧ Binds K fd ps []
theorem CalleeM.mono {P : Program} {w : World} {K : PySem.W.Frag} {mg : Str → Option Value} {base : Heap} {C : Addr} {m : Str} {j k : Nat} {ps : List Str} {sp : Sp} (c : CalleeM P w K mg base C m j ps sp) (h : j ≤ k) : CalleeM P w K mg base C m k ps sp := by
 obtain ⟨f, fd, F, m, kp, b⟩ := c
 exact ⟨f, fd, F.mono h, m, kp, b⟩
end L2
namespace L3
open PySem PySem.Spec L2
def putT (f : Str) (v : T) : List (Str × T) → List (Str × T)
 | [] => [(f, v)]
 | (g, x) :: r => if g = f then (g, v) :: r else (g, x) :: putT f v r
section
variable {H : Hp}
theorem Fs.len : ∀ {gs : List (Str × V)} {fs : List (Str × T)}, Fs H gs fs → gs.length = fs.length
 | _, _, .nil => rfl
 | _, _, .cons a b => by rw [List.length_cons, List.length_cons, Fs.len b]
theorem Fs.get : ∀ {gs : List (Str × V)} {fs : List (Str × T)} {f : Str} {t : T}, Fs H gs fs → fs.lookup f = some t → ∃ v, gs.lookup f = some v ∧ R H v t
 | _, _, f, t, .nil, h => by cases h
 | (g, v) :: gs, (g', x) :: fs, f, t, .cons a b, h => by
  obtain ⟨e, r⟩ := a
  have e : g = g' := e
  subst e
  rw [List.lookup_cons] at h ⊢
  split at h
  ·cases h; exact ⟨v, rfl, r⟩
  ·exact Fs.get b h
theorem Fs.non : ∀ {gs : List (Str × V)} {fs : List (Str × T)} {f : Str}, Fs H gs fs → fs.lookup f = none → gs.lookup f = none
 | _, _, f, .nil, h => rfl
 | (g, v) :: gs, (g', x) :: fs, f, .cons a b, h => by
  obtain ⟨e, r⟩ := a
  have e : g = g' := e
  subst e
  rw [List.lookup_cons] at h ⊢
  split at h
  ·cases h
  ·exact Fs.non b h
end
section
variable {X : Cx} {E : St → XK} {C : Addr}
def eFld (C : Addr) (to : E3) (f : Str) : E3 := fun Y τ Γ Z => to Y τ Γ fun x Γ1 => ∃ a dx fs v, x = .ref a ∧ Γ1 a = some (.ins C dx fs) ∧ fs.lookup f = some v ∧ Z v Γ1
def cFld (C : Addr) (to tv : E3) (f : Str) : C3 := fun Y D τ Γ => tv Y τ Γ fun y Γ1 => to Y τ Γ1 fun x Γ2 => ∃ a dx fs, x = .ref a ∧ Γ2 a = some (.ins C dx fs) ∧ fs.length < 1000 ∧ D.nx τ (up Γ2 a (.ins C dx (putT f y fs)))
def cFldA (C : Addr) (to tv : E3) (r3 : R3) (f : Str) : C3 := fun Y D τ Γ => to Y τ Γ fun x Γ1 => ∃ a dx fs v, x = .ref a ∧ Γ1 a = some (.ins C dx fs) ∧ fs.lookup f = some v ∧ tv Y τ Γ1 fun y Γ2 => r3 v y Γ2 fun z Γ3 => ∃ dx' fs', Γ3 a = some (.ins C dx' fs') ∧ fs'.length < 1000 ∧ D.nx τ (up Γ3 a (.ins C dx' (putT f z fs')))
def eMeth (C : Addr) (m : Str) (sp : Sp3) (to : E3) (t : A3) : E3 := fun Y τ Γ Z => to Y τ Γ fun x Γ1 => ∃ a dx fs, x = .ref a ∧ Γ1 a = some (.ins C dx fs) ∧ fs.lookup m = none ∧ t Y τ Γ1 fun xs Γ2 => sp (.ref a :: xs) Γ2 Z fun _ _ => False
variable {m : Str} {k j : Nat} {ps : List Str} {sp : Sp3} {o e : Expr} {es : List Expr} {to : E3} {t : A3} {apos pos p : Pos} {pl : Sem Bool}
def eMake (C : Addr) (sp : Sp3) (t : A3) : E3 := fun Y τ Γ Z => t Y τ Γ fun xs Γ1 => ∀ x dx, Γ1 x = none → Γ1 dx = none → dx ≠ x → sp (.ref x :: xs) (up Γ1 x (.ins C dx [])) (fun v Γ2 => v = .non ∧ Z (.ref x) Γ2) fun _ _ => False
end
end L3
set_option Elab.async false
set_option linter.all false
set_option maxRecDepth 100000
namespace L2
open PySem PySem.Spec PyProof.Rows
section
variable {X : Cx}
theorem op_catC : OpR X (binaryOp .Add) (fun x y H Q => ∃ l b xs zs, x = .ref l ∧ y = .ref b ∧ SqL X.K H l xs ∧ SqL X.K H b zs ∧ xs.length + zs.length ≤ sizeLine ∧ ∀ p, H p = none → Q (.ref p) (upd H p (.lst (xs ++ zs)))) := by
 intro pins s σ H x y v u Q I rx ry h
 obtain ⟨l, b, xs, zs, rfl, rfl, hH, hB, hz, q⟩ := h
 cases rx
 cases ry
 obtain ⟨its, r, pl, z⟩ := I.list hH
 obtain ⟨its2, r2, pl2, z2⟩ := I.list hB
 have l1 := r.length
 have l2 := r2.length
 obtain ⟨⟨cls, dd, data, sl⟩, ho, hc, n, hd⟩ := pl.isList
 obtain ⟨⟨cls2, dd2, data2, sl2⟩, ho2, hc2, n2, hd2⟩ := pl2.isList
 simp only at hc hd hc2 hd2
 subst hc hd hc2 hd2
 have e : its.toArray ++ its2.toArray = (its ++ its2).toArray := by simp
 refine concat_meets ⟨_, ho, rfl⟩ ⟨_, ho2, rfl⟩ noFill_list_add seq_list_add PySem.F.slot_list_add PySem.F.entry_list_add (PySem.F.args_list_add_2 _ _) (list_addW l b its.toArray its2.toArray n n2 dd dd2 sl sl2 (by simp only [List.size_toArray]; omega)) ⟨ho, ho2, ?_⟩
 rw [e]
 exact ⟨.ref _, _, I.lnew (t' := s.toks) (r.append r2) (by rw [List.length_append]; omega), rfl, q _ I.fresh⟩
def S (l : List Nat) : Str := ⟨l.toArray⟩
theorem S_len (l : List Nat) : (S l).length = l.length := by simp [S, Str.length]
def OnceS (ss : List Str) (S : Str → Bool) (n : Nat) : Prop := (∀ k, S k = true ↔ k ∈ ss) ∧ ((ss.Nodup ∧ n = ss.length) ∨ (¬ ss.Nodup ∧ n < ss.length))
theorem OnceS.nil : OnceS [] (fun _ => false) 0 := ⟨fun k => by simp, .inl ⟨List.nodup_nil, rfl⟩⟩
theorem OnceS.le {ss : List Str} {S : Str → Bool} {n : Nat} (h : OnceS ss S n) : n ≤ ss.length := by
 rcases h.2 with ⟨_, h⟩ | ⟨_, h⟩ <;> omega
theorem OnceS.snoc {ss : List Str} {S : Str → Bool} {n : Nat} {k : Str} (h : OnceS ss S n) : OnceS (ss ++ [k]) (fun k' => S k' || decide (k' = k)) (more S n k) := by
 obtain ⟨h1, h2⟩ := h
 refine ⟨fun k' => by rw [Bool.or_eq_true, decide_eq_true_eq, h1 k', List.mem_append, List.mem_singleton], ?_⟩
 have e : (ss ++ [k]).Nodup ↔ ss.Nodup ∧ k ∉ ss := by
  rw [List.nodup_append]
  constructor
  ·rintro ⟨a, _, b⟩
   exact ⟨a, fun m => b k m k (by simp) rfl⟩
  ·rintro ⟨a, b⟩
   refine ⟨a, by simp, fun x hx y hy e => b ?_⟩
   rw [List.mem_singleton] at hy
   rw [← hy, ← e]; exact hx
 rw [e, List.length_append]
 show (_ ∧ (if S k = true then n else n + 1) = _) ∨ (_ ∧ (if S k = true then n else n + 1) < _)
 by_cases c : S k = true
 ·rw [if_pos c]
  have m := (h1 k).mp c
  rcases h2 with ⟨a, b⟩ | ⟨a, b⟩
  ·exact .inr ⟨fun z => z.2 m, by rw [b]; exact Nat.lt_succ_self _⟩
  ·exact .inr ⟨fun z => z.2 m, Nat.lt_succ_of_lt b⟩
 ·rw [if_neg c]
  have m : k ∉ ss := fun z => c ((h1 k).mpr z)
  rcases h2 with ⟨a, b⟩ | ⟨a, b⟩
  ·exact .inl ⟨⟨a, m⟩, by rw [b]; rfl⟩
  ·exact .inr ⟨fun z => a z.1, Nat.succ_lt_succ b⟩
end
end L2
namespace L3
open PySem PySem.Spec L2
section
variable {X : Cx} {E : St → XK}
theorem oq_catC : OpQ X (binaryOp .Add) (fun x y Γ Z => ∃ a b ts us, x = .ref a ∧ y = .scr X.K b us ∧ Γ a = some (.lst ts) ∧ ts.length + us.length ≤ sizeLine ∧ ∀ p, Γ p = none → Z (.ref p) (up Γ p (.lst (ts ++ us)))) :=
 ⟨_, op_catC, fun x y a b H Γ Q Z ra rb hr q0 vr => by
  obtain ⟨p, p', ts, us, ea, eb, g1, l, z⟩ := q0
  subst ea eb
  obtain ⟨vs, hv, q⟩ := hr p _ g1
  obtain ⟨rfl, vs', sq, q'⟩ := i_scr rb
  refine ⟨p, p', vs, vs', i_ref ra, rfl, SqL.of hv, sq.sq, by rw [q.length, q'.length]; exact l, fun c hc => ?_⟩
  have k := keep_new (o := .lst (vs ++ vs')) hc
  exact vr _ _ _ _ (.make hc) (hr.make (o3 := .lst (ts ++ us)) hc ⟨_, upd_same, Rs.app (q.mono (tq_kp k)) (q'.mono (tq_kp k))⟩) r_ref (z c (hr.free hc))⟩
abbrev J3 := Str → E3
def j3Cons (te : E3) (t : J3) : J3 := fun out Y τ Γ Z => te Y τ Γ fun v Γ1 => ∃ y, v = .str y ∧ (out ++ y).length ≤ sizeLine ∧ t (out ++ y) Y τ Γ1 Z
def eFs (t : J3) : E3 := t Str.empty
def eFmt (te : E3) : E3 := fun Y τ Γ Z => te Y τ Γ fun v Γ1 => (∃ z, v = .str z ∧ z.length ≤ sizeLine ∧ Z (.str z) Γ1) ∨ ∃ i : Int, v = .int i ∧ i.natAbs.log2 < 1920 ∧ Z (.str (toString i)) Γ1
def wSetc (gd : Gp → Prop) (g : G3) (te : E3) (C : List Str → Gp → Prop) (ts : List T) (τ : S3) (Γ : Gp) : Prop := ∃ P : List T → S3 → List Str → Gp → Prop, P ts τ [] Γ ∧ (∀ τ ys Γ, P [] τ ys Γ → gd Γ ∧ C ys Γ) ∧
 ∀ x r τ ys Γ, P (x :: r) τ ys Γ → gd Γ ∧ g Y0 x τ Γ fun τ3 Γ3 => te Y0 τ3 Γ3 fun y Γ5 => ∃ k, y = .str k ∧ P r τ3 (ys ++ [k]) Γ5
def eSetc (P : Program) (w : World) (wi : I3) (g : G3) (te : E3) (own : List Str) (cap : List (Nat × Str)) : E3 := fun Y τ Γ Z => wi Y τ Γ fun ts gd Γ1 => ts.length ≤ 999 ∧
 wSetc gd g te (fun ys Γ2 => ∀ D S n, OnceS ys S n → Γ2 D = none → Z (.ref D) (up Γ2 D (.ext (setAt P w D S n)))) ts (cSt own cap τ) Γ1
theorem setc_sim {P : Program} {w : World} {wi : I3} {g : G3} {te : E3} {own : List Str} {cap : List (Nat × Str)} (σ : St) (H : Hp) (Q : VK) (q : liE E (eSetc P w wi g te own cap) σ H Q) : tSetC P w (liI E wi) (liG EN g) (liE EN te) own cap σ H Q := by
 obtain ⟨τ, Γ, Y, Z, rs, hr, t, vr, xr⟩ := q
 refine ⟨τ, Γ, Y, _, rs, hr, t, fun J ts gd H1 Γ1 s1 h1 wk ⟨hz, Pv, z1, p0, pc⟩ => ?_, xr⟩
 intro D hD
 have nl : ∀ φ : Heap → Prop, (∀ us : List V, HO.ext φ ≠ .tup us) ∧ ∀ b w, HO.ext φ ≠ .frz b w := fun _ => ⟨fun _ z => (nomatch z), fun _ _ z => (nomatch z)⟩
 refine ⟨fun i m σ' S n H' => ∃ τ' ys Γ', i ≤ ts.length ∧ m = ts.length - i ∧ ys.length ≤ i ∧ OnceS ys S n ∧ RS H' σ' τ' ∧ HR H' Γ' ∧ H' D = some (.ext (setAt P w D S n)) ∧ Γ' D = none ∧ Stp H1 Γ1 H' Γ' ∧ Pv (ts.drop i) τ' ys Γ',
  ⟨ts.length, cSt own cap τ, [], Γ1, Nat.zero_le _, rfl, Nat.le_refl _, OnceS.nil, (rs_comp own (rs.mono s1.tq) cap).mono (tq_kp (keep_new hD)), h1.keep (keep_new hD), upd_same, h1.free hD, .keep (keep_new hD), z1⟩, ?_⟩
 rintro i m σ2 S n H2 ⟨τ2, ys, Γ2, hi, rfl, hv, on, rs2, h2, d2, gD, s2, w2⟩
 refine ⟨d2, ?_⟩
 by_cases hlt : i < ts.length
 ·rw [drop_cons hlt] at w2
  obtain ⟨g2, w2⟩ := pc _ _ _ _ _ w2
  have nn := on.le
  refine .inr ⟨wk.go i H2 Γ2 s2.tq h2 g2 hlt, by omega, fun σ' S' n' H' => ∃ τ' ys Γ', ys.length ≤ i + 1 ∧ OnceS ys S' n' ∧ RS H' σ' τ' ∧ HR H' Γ' ∧ H' D = some (.ext (setAt P w D S' n')) ∧ Γ' D = none ∧ Stp H1 Γ1 H' Γ' ∧ Pv (ts.drop (i + 1)) τ' ys Γ',
   fun σ' S' n' H' ⟨τ', ys, Γ', a, b, c, d, e, f, k, l⟩ => ⟨ts.length - (i + 1), by omega, τ', ys, Γ', hlt, rfl, a, b, c, d, e, f, k, l⟩, fun x H3 yl => ?_⟩
  obtain ⟨s3, h3, x3, e3, r3⟩ := wk.yld i H2 Γ2 x H3 s2.tq h2 g2 hlt yl
  rw [List.getElem?_eq_getElem hlt] at e3
  cases e3
  refine ⟨_, τ2, Γ2, Y0, _, r3, rs2.mono s3.tq, h3, w2, fun σ4 τ4 H4 Γ4 s4 h4 r4 z4 => ?_, xr0⟩
  refine ⟨τ4, Γ4, Y0, _, r4, h4, z4, fun y y' H6 Γ6 s6 h6 r6 z6 => ?_, xr0⟩
  obtain ⟨k, rfl, z6⟩ := z6
  have s36 := (s3.trans s4).trans s6
  have d6 : H6 D = some (.ext (setAt P w D S n)) := s36.frm D _ d2 gD
  have g6 : Γ6 D = none := s36.new D (by rw [d2]; exact fun z => nomatch z) gD
  have tq : Tq H6 (upd H6 D (.ext (setAt P w D (fun k' => S k' || decide (k' = k)) (more S n k)))) := tq_set d6 (nl _)
  refine ⟨k, i_str r6, d6, τ4, ys ++ [k], Γ6, by rw [List.length_append]; exact Nat.succ_le_succ hv, on.snoc, (r4.mono s6.tq).mono tq, h6.hide g6 d6 (nl _), upd_same, g6, ?_, z6⟩
  have s7 := s2.trans s36
  refine ⟨s7.tq.trans tq, fun a h z => ?_, s7.new, fun a o h g => ?_⟩
  ·by_cases e : a = D
   ·subst e; exact h hD
   ·rw [upd_ne e] at z; exact s7.dom a h z
  ·have e : a ≠ D := fun e => by subst e; rw [hD] at h; cases h
   rw [upd_ne e]; exact s7.frm a o h g
 ·have e : i = ts.length := by omega
  subst e
  rw [List.drop_length] at w2
  have w2 := p0 _ _ _ w2
  refine .inl ⟨wk.stop H2 Γ2 s2.tq h2 w2.1, ?_⟩
  have s12 := s1.trans s2
  refine vr (.ref D) (.ref D) H2 (up Γ2 D (.ext (setAt P w D S n))) ⟨s12.tq, s12.dom, fun a h g => ?_, s12.frm⟩ (fun a o g => ?_) r_ref (w2.2 D S n on gD)
  ·have e : a ≠ D := fun e => by subst e; exact s1.dom _ h hD
   rw [up_ne e]; exact s12.new a h g
  ·by_cases e : a = D
   ·subst e; rw [up_same] at g; cases g; exact d2
   ·rw [up_ne e] at g; exact h2 a o g
theorem qe_setc {scope : Scope} {cl : List (Str × Addr)} {own : List Str} {cap : List (Nat × Str)} {tg iter elt : Expr} {wi : I3} {g : G3} {te : E3} {pos : Pos} (c : CompOk X scope cl own cap) (hc : X.calm = true) (hi : PI X tg iter (liI E wi))
  (hg : ∀ C s H fp, PG (compCx X (own ++ cap.map (·.2)) scope cl C s H fp fun _ _ => False) tg (liG EN g))
  (he : ∀ C s H fp, PE (compCx X (own ++ cap.map (·.2)) scope cl C s H fp fun _ _ => False) elt (liE EN te)) (hs : ∀ x, foldedSetIterable iter X.env x = pure x := by intro _; rfl) :
  PE X (.SetComp elt [⟨tg, iter, [], 0⟩] scope pos) (liE E (eSetc X.prog X.w wi g te own cap)) := weakE (pe_setc c hc hi hg he hs) setc_sim
theorem cq_lenS : CallQ X (.builtin "len") (fun xs Γ Z => ∃ (p : Addr) (S : Str → Bool) (n : Nat), xs = [.ref p] ∧ Γ p = some (.ext (setAt X.prog X.w p S n)) ∧ Z (.int n) Γ) :=
 ⟨_, call_lenS, fun vs xs H Γ Q Z r hr q0 vr => by
  obtain ⟨p, S, n, e, g, z⟩ := q0
  subst e
  obtain ⟨v, rfl, a⟩ := rs1 r
  exact ⟨p, S, n, by rw [i_ref a], hr p _ g, vr _ _ H Γ .refl hr r_int z⟩⟩
end
end L3
set_option Elab.async false
set_option linter.all false
set_option maxRecDepth 100000
namespace L2
open PySem PySem.Spec PyProof.Rows
section
variable {X : Cx}
theorem rv_strX : SlB X (fun x H Q => ∃ z : Str, x = .str z ∧ z.length ≤ sizeLine ∧ ∀ y : Str, y.length ≤ z.length → (∀ c ∈ y.cps.toList, c ∈ z.cps.toList) → Q (.str y) H) := by
 intro pins s σ H x v vs sl Q I rx hs ps h
 obtain ⟨z, rfl, hz, q⟩ := h
 obtain ⟨t, rfl⟩ := rx
 refine ⟨"str", _, F.slot_str_getitem.lookup, typeIs_str _ z t, ?_⟩
 obtain ⟨o, h1, h2, h3⟩ := hs
 cases ps with
 | int j t' =>
  refine wpAny_getItem_str_slice (l := none) (u := none) (st := some (-1, t')) ⟨o, h1, h2, h3⟩ rfl ?_
  unfold sliceMade slicePicked
  show (if ((-1 : Int) == 1 && (Builtin.Str.strSliceIndices none none (-1) z.length).length == z.length) = true then Made.val (.str z t) else .str ⟨((Builtin.Str.strSliceIndices none none (-1) z.length).filterMap (z.cps[·]?)).toArray⟩).post _ _
  rw [if_neg (by rw [show ((-1 : Int) == 1) = false from rfl, Bool.false_and]; exact Bool.false_ne_true)]
  have hl : (Str.mk ((Builtin.Str.strSliceIndices none none (-1) z.length).filterMap (z.cps[·]?)).toArray).length ≤ z.length := by
   show ((Builtin.Str.strSliceIndices none none (-1) z.length).filterMap (z.cps[·]?)).toArray.size ≤ z.length
   rw [List.size_toArray]
   refine Nat.le_trans (List.length_filterMap_le _ _) ?_
   rw [picked_rev, List.length_map, List.length_range]
   exact Nat.le_refl _
  refine ⟨Nat.le_trans hl hz, .str _, H, I.tok _, ⟨_, rfl⟩, q _ hl fun c hc => ?_⟩
  have hc : c ∈ (Builtin.Str.strSliceIndices none none (-1) z.length).filterMap (z.cps[·]?) := by simpa using hc
  obtain ⟨i, _, e⟩ := List.mem_filterMap.mp hc
  exact Array.mem_toList_iff.mpr (Array.mem_of_getElem? e)
end
end L2
namespace L3
open PySem PySem.Spec L2
section
variable {X : Cx} {E : St → XK} {e st : Expr} {te ts : E3} {p2 pos : Pos}
theorem qe_revX (he : PE X e (liE E te)) (hs : PE X st (liE E ts)) : PE X (.Subscript e (.Slice none none (some st) p2) pos) (liE E (eRev (fun x Γ Z => ∃ z : Str, x = .str z ∧ z.length ≤ sizeLine ∧ ∀ y : Str, y.length ≤ z.length → (∀ c ∈ y.cps.toList, c ∈ z.cps.toList) → Z (.str y) Γ) te ts)) :=
 weakE (pe_rev rv_strX he hs) (rev_sim fun v x H Γ Q Z r hr q0 vr => by
  obtain ⟨w, ex, l, z⟩ := q0
  subst ex
  exact ⟨w, i_str r, l, fun y hy hc => vr _ _ H Γ .refl hr r_str (z y hy hc)⟩)
end
section
variable {Y : X3} {D : D3} {τ : S3} {Γ : Gp} {Z : K3} {A : Prop} {C a dx : Addr} {fs : List (Str × T)} {f m : Str}
theorem t_fld {to : E3} (h : to Y τ Γ fun x Γ1 => ∃ a dx fs v, x = .ref a ∧ Γ1 a = some (.ins C dx fs) ∧ fs.lookup f = some v ∧ Z v Γ1) : eFld C to f Y τ Γ Z := h
theorem t_fldR {Q : T → Prop} {v : T} (g : Γ a = some (.ins C dx fs)) (l : fs.lookup f = some v) (z : Q v) : ∃ a' dx' fs' v', T.ref a = .ref a' ∧ Γ a' = some (.ins C dx' fs') ∧ fs'.lookup f = some v' ∧ Q v' := ⟨a, dx, fs, v, rfl, g, l, z⟩
theorem t_sfld {to tv : E3} (h : tv Y τ Γ fun y Γ1 => to Y τ Γ1 fun x Γ2 => ∃ a dx fs, x = .ref a ∧ Γ2 a = some (.ins C dx fs) ∧ fs.length < 1000 ∧ D.nx τ (up Γ2 a (.ins C dx (putT f y fs)))) : cFld C to tv f Y D τ Γ := h
theorem t_sfldR {Q : Gp → Prop} {y : T} (g : Γ a = some (.ins C dx fs)) (l : Nat.ble fs.length 900 = true) (z : Q (up Γ a (.ins C dx (putT f y fs)))) : ∃ a' dx' fs', T.ref a = .ref a' ∧ Γ a' = some (.ins C dx' fs') ∧ fs'.length < 1000 ∧ Q (up Γ a' (.ins C dx' (putT f y fs'))) := ⟨a, dx, fs, rfl, g, by have := Nat.le_of_ble_eq_true l; omega, z⟩
theorem t_sfa {to tv : E3} {r3 : R3} (h : to Y τ Γ fun x Γ1 => ∃ a dx fs v, x = .ref a ∧ Γ1 a = some (.ins C dx fs) ∧ fs.lookup f = some v ∧ tv Y τ Γ1 fun y Γ2 => r3 v y Γ2 fun z Γ3 => ∃ dx' fs', Γ3 a = some (.ins C dx' fs') ∧ fs'.length < 1000 ∧ D.nx τ (up Γ3 a (.ins C dx' (putT f z fs')))) : cFldA C to tv r3 f Y D τ Γ := h
theorem t_sfaR {Q : Addr → T → Prop} {v : T} (g : Γ a = some (.ins C dx fs)) (l : fs.lookup f = some v) (z : Q a v) : ∃ a' dx' fs' v', T.ref a = .ref a' ∧ Γ a' = some (.ins C dx' fs') ∧ fs'.lookup f = some v' ∧ Q a' v' := ⟨a, dx, fs, v, rfl, g, l, z⟩
theorem t_sfaE {Q : Gp → Prop} {z : T} (g : Γ a = some (.ins C dx fs)) (l : Nat.ble fs.length 900 = true) (q : Q (up Γ a (.ins C dx (putT f z fs)))) : ∃ dx' fs', Γ a = some (.ins C dx' fs') ∧ fs'.length < 1000 ∧ Q (up Γ a (.ins C dx' (putT f z fs'))) := ⟨dx, fs, g, by have := Nat.le_of_ble_eq_true l; omega, q⟩
theorem t_meth {sp : Sp3} {to : E3} {t : A3} (h : to Y τ Γ fun x Γ1 => ∃ a dx fs, x = .ref a ∧ Γ1 a = some (.ins C dx fs) ∧ fs.lookup m = none ∧ t Y τ Γ1 fun xs Γ2 => sp (.ref a :: xs) Γ2 Z fun _ _ => False) : eMeth C m sp to t Y τ Γ Z := h
theorem t_methR {Q : Addr → Prop} (g : Γ a = some (.ins C dx fs)) (l : fs.lookup m = none) (z : Q a) : ∃ a' dx' fs', T.ref a = .ref a' ∧ Γ a' = some (.ins C dx' fs') ∧ fs'.lookup m = none ∧ Q a' := ⟨a, dx, fs, rfl, g, l, z⟩
theorem t_make {sp : Sp3} {t : A3} (h : t Y τ Γ fun xs Γ1 => ∀ x dx, Γ1 x = none → Γ1 dx = none → dx ≠ x → sp (.ref x :: xs) (up Γ1 x (.ins C dx [])) (fun v Γ2 => v = .non ∧ Z (.ref x) Γ2) fun _ _ => False) : eMake C sp t Y τ Γ Z := h
theorem t_fs {t : J3} (h : t Str.empty Y τ Γ Z) : eFs t Y τ Γ Z := h
theorem t_jc {te : E3} {t : J3} {out : Str} (h : te Y τ Γ fun v Γ1 => ∃ y, v = .str y ∧ (out ++ y).length ≤ sizeLine ∧ t (out ++ y) Y τ Γ1 Z) : j3Cons te t out Y τ Γ Z := h
theorem t_fm {te : E3} (h : te Y τ Γ fun v Γ1 => (∃ z, v = .str z ∧ z.length ≤ sizeLine ∧ Z (.str z) Γ1) ∨ ∃ i : Int, v = .int i ∧ i.natAbs.log2 < 1920 ∧ Z (.str (toString i)) Γ1) : eFmt te Y τ Γ Z := h
theorem t_adds {i j : Str} {Q : Str → Str → Prop} (l : i.length + j.length ≤ sizeLine) (h : Q i j) : ∃ i' j', T.str i = .str i' ∧ T.str j = .str j' ∧ i'.length + j'.length ≤ sizeLine ∧ Q i' j' := ⟨i, j, rfl, rfl, l, h⟩
end
end L3
set_option Elab.async false
set_option linter.all false
set_option maxRecDepth 100000
namespace L2
open PySem PySem.Spec PyProof.Rows
section
variable {X : Cx} {elts : List Expr} {kk : Nat} {tpos : Pos}
end
end L2
namespace L3
open PySem PySem.Spec L2
section
variable {X : Cx} {E : St → XK} {p pos : Pos}
end
end L3
set_option Elab.async false
set_option linter.all false
set_option maxRecDepth 100000
namespace L3
open PySem PySem.Spec L2
section
variable {X : Cx} {E : St → XK}
def eDn : E3 := fun _ _ Γ Z => ∀ p, Γ p = none → Z (.ref p) (up Γ p (.dK []))
theorem qe_dnew {pos : Pos} : PE X (.Dict [] [] pos) (liE E eDn) :=
 weakE3 pe_dnew fun σ H Q τ Γ Y Z rs hr t vr xr => by
  intro p hp
  exact vr _ _ _ _ (.make hp) (hr.make (o3 := .dK []) hp ⟨[], upd_same, .nil⟩) r_ref (t p (hr.free hp))
end
end L3
set_option Elab.async false
set_option linter.all false
set_option maxRecDepth 100000
namespace Tg
open PySem L2 L3
mutual
def Kd.tr : Kd → T
 | .num w => .tup [.str "num", .int w]
 | .text => .tup [.str "text"]
 | .row k => .tup [.str "row", k.tr]
 | .rec_ fs => .tup [.str "rec", .tup (trF fs)]
 | .pick fs => .tup [.str "pick", .tup (trF fs)]
def trF : List (Str × Kd) → List T
 | [] => []
 | (n, k) :: r => .tup [.str n, k.tr] :: trF r
end
theorem trF_map : ∀ fs : List (Str × Kd), trF fs = fs.map fun p => .tup [.str p.1, p.2.tr]
 | [] => rfl
 | (n, k) :: r => by rw [trF, trF_map r]; rfl
theorem trF_len (fs : List (Str × Kd)) : (trF fs).length = fs.length := by rw [trF_map, List.length_map]
theorem trF_app : ∀ (fs gs : List (Str × Kd)), trF (fs ++ gs) = trF fs ++ trF gs := fun fs gs => by rw [trF_map, trF_map, trF_map, List.map_append]
end Tg
namespace Tg
open PySem L2 L3
end Tg
namespace Tg
open PySem L2 L3
end Tg
set_option Elab.async false
set_option linter.all false
set_option maxRecDepth 100000
namespace Tg
open PySem L2 L3
inductive Ap : List T → List T → Prop
 | here {p q : T} {r s : List T} (h : p ≠ q) : Ap (p :: r) (q :: s)
 | there {p : T} {r s : List T} (h : Ap r s) : Ap (p :: r) (p :: s)
theorem Ap.symm : ∀ {c o : List T}, Ap c o → Ap o c
 | _, _, .here h => .here (Ne.symm h)
 | _, _, .there h => .there h.symm
end Tg
set_option Elab.async false
set_option linter.all false
set_option maxRecDepth 100000
namespace Tg
open PySem L2 L3
end Tg
set_option Elab.async false
set_option linter.all false
set_option maxRecDepth 100000
namespace Tg
open PySem L2 L3
def isTp : T → Bool
 | .tup _ => true
 | _ => false
mutual
def dT : T → Nat
 | .tup us => 1 + (us.filter isTp).length + dL us
 | _ => 0
def dL : List T → Nat
 | [] => 0
 | t :: r => max (dT t) (dL r)
end
end Tg
set_option Elab.async false
set_option linter.all false
set_option maxRecDepth 100000
set_option maxHeartbeats 4000000
namespace Tg
open PySem L2 L3
def top (i : Nat) : Stmt := PySem.Challenge.pw_tonguegate_k29_papers_told.main.body.getD i (.Pass ⟨0, 0, 0, 0⟩)
def mem (i j : Nat) : Stmt := match top i with
 | .ClassDef _ _ _ b _ _ _ _ _ _ _ => b.getD j (.Pass ⟨0, 0, 0, 0⟩)
 | _ => .Pass ⟨0, 0, 0, 0⟩
local macro_rules | `(tactic| and_intros) => `(tactic| repeat (first
 | with_reducible refine t_seq ?_ | with_reducible refine t_if ?_ | with_reducible refine t_op ?_ | with_reducible refine t_T ?_ | with_reducible refine t_c ?_
 | ((with_reducible apply t_var); exact rfl) | with_reducible refine t_set ?_ | with_reducible refine t_ret ?_ | with_reducible refine t_retN ?_ | with_reducible refine t_drop ?_ | with_reducible refine t_next ?_ | with_reducible refine t_cnt ?_
 | with_reducible refine t_ix0 ?_ | with_reducible refine t_ix1 ?_ | with_reducible refine t_J ?_ | with_reducible refine t_eqS ?_ | with_reducible refine t_eqI ?_ | with_reducible refine t_neS ?_ | with_reducible refine t_neI ?_ | with_reducible refine t_bl ?_
 | with_reducible refine t_band ?_ | with_reducible refine t_bor ?_ | with_reducible refine t_bnot ?_ | with_reducible refine t_and ?_ | with_reducible refine t_or ?_ | with_reducible refine t_not ?_ | with_reducible refine t_eif ?_
 | with_reducible refine t_cons ?_ | with_reducible refine t_nil ?_ | with_reducible refine t_tup ?_ | with_reducible refine t_lst ?_ | with_reducible refine t_call ?_ | with_reducible refine t_callX ?_ | with_reducible refine t_cb ?_
 | with_reducible refine t_bm ?_ | with_reducible refine t_bm0 ?_ | with_reducible refine t_inst ?_ | with_reducible refine t_tru ?_ | with_reducible refine t_asg ?_ | with_reducible refine t_hn ?_ | ((with_reducible refine t_ht ?_ ?_); exact rfl) | with_reducible refine t_hc ?_ | with_reducible refine t_h0 ?_ | with_reducible refine t_hs ?_
 | with_reducible refine t_un ?_ | with_reducible refine t_neg ?_ | with_reducible refine t_sl ?_ | with_reducible refine t_on ?_ | with_reducible refine t_os ?_ | with_reducible refine t_oi ?_ | with_reducible refine t_rev ?_ | with_reducible refine t_for ?_ | with_reducible refine t_itp ?_ | with_reducible refine t_tp ?_ | with_reducible refine t_comp ?_ | with_reducible refine t_bt ?_ | with_reducible refine t_raise ?_ | with_reducible refine t_rg1 ?_ | with_reducible refine t_zp ?_ | with_reducible refine t_en ?_ | with_reducible refine t_ils ?_ | with_reducible refine t_ist ?_ | with_reducible refine t_str ?_
 | with_reducible refine t_2i ?_ | ((with_reducible apply t_ixR); (first | assumption | exact up_same); (first | exact at0 | exact at1)) | ((with_reducible apply t_hsub); (first | assumption | exact up_same); exact rfl)
 | with_reducible refine And.intro (rfl : T.non = T.non) ?_ | with_reducible refine t_try ?_ | with_reducible refine t_lz ?_ | with_reducible refine t_e0 ?_ | with_reducible refine t_chain ?_ | ((with_reducible apply t_inT); exact rfl; exact rfl; exact rfl) | with_reducible refine t_tyS ?_ | with_reducible refine t_1t ?_ | with_reducible refine t_2t ?_ | with_reducible refine t_eqSI ?_ | with_reducible refine t_eqIS ?_ | with_reducible refine t_neSI ?_ | with_reducible refine t_neIS ?_ | with_reducible refine t_gT ?_ | with_reducible refine t_lenT ?_
 | with_reducible refine t_fld ?_ | ((with_reducible apply t_fldR); (first | assumption | exact up_same); exact rfl) | with_reducible refine t_sfld ?_ | ((with_reducible apply t_sfldR); (first | assumption | exact up_same); exact rfl) | with_reducible refine t_sfa ?_ | ((with_reducible apply t_sfaR); (first | assumption | exact up_same); exact rfl) | ((with_reducible apply t_sfaE); (first | assumption | exact up_same); exact rfl)
 | with_reducible refine t_meth ?_ | ((with_reducible apply t_methR); (first | assumption | exact up_same); exact rfl) | with_reducible refine t_make ?_ | with_reducible refine t_fs ?_ | with_reducible refine t_jc ?_ | with_reducible refine t_fm ?_
 | ((with_reducible refine t_len ?_ ?_); exact rfl)
 | ((with_reducible refine t_I ?_ ?_); (first | exact ⟨by decide, by decide, by decide⟩ | exact ⟨by decide, by decide⟩ | exact Or.inl ⟨by decide, by decide⟩ | exact Or.inr ⟨by decide, by decide⟩ | ((show (0 : Int) < _); decide)))
 | ((with_reducible refine c_ifT ?_ ?_); (first | exact rfl | decide +kernel)) | ((with_reducible refine c_ifF ?_ ?_); (first | exact rfl | decide +kernel))))
theorem rngT_cons {lo : Int} {n : Nat} {x : T} {r : List T} (h : x :: r = rngT lo n) : ∃ m, n = m + 1 ∧ x = .int lo ∧ r = rngT (lo + 1) m := by
 cases n with
 | zero => cases h
 | succ m => cases h; exact ⟨m, rfl, rfl, rfl⟩
theorem rngT_nil {lo : Int} {n : Nat} (h : [] = rngT lo n) : n = 0 := by
 cases n with
 | zero => rfl
 | succ m => cases h
theorem menu {ns : List Int} {r : Int} (h0 : 0 ≤ r) (h1 : r < ns.length) : ∃ n, n ∈ ns ∧ atI (ns.map T.int) r = some (.int n) := by
 obtain ⟨x, hx, hm⟩ := at_some (xs := ns.map T.int) h0 (by simpa using h1)
 obtain ⟨n, hn, rfl⟩ := List.mem_map.mp hm
 exact ⟨n, hn, hx⟩
theorem al_g {Γ G : Gp} {p : Addr} {o : O} (e : up Γ p o = G) : G p = some o := (congrFun e p).symm.trans up_same
theorem al_l {Γ G : Gp} {p : Addr} {o : O} (e : up Γ p o = G) (hp : Γ p = none) : Le Γ G := e ▸ .new hp
theorem ix_int {ns : List Int} {j : Nat} (h : j < ns.length) : ∃ n, n ∈ ns ∧ ns[j]? = some n ∧ atI (ns.map T.int) (j : Int) = some (.int n) := ⟨ns[j], List.getElem_mem h, by simp [h], atI_nat (by simp [h])⟩
def dwRest (c : Int) : Nat → Int
 | 0 => c - 10 ^ 18
 | k + 1 => if 0 < dwRest c k then dwRest c k / 1000003 else dwRest c k
def dwA (c : Int) (k : Nat) : Int := (c % 1000000007 + 1) * (2 * k + 3) % 2147483647
def dwB (c : Int) (k : Nat) : Int := (dwA c k ^ 5 + ((k : Int) + 1) ^ 3) % 2147483629
def dwC (c : Int) (k : Nat) : Int := (dwB c k + c % 999983) ^ 3 % 2147483587 / 16
def dw (c : Int) (k : Nat) : Int := if 0 < dwRest c k then dwRest c k % 1000003 else dwC c k
theorem dwA_b (c : Int) (k : Nat) : 0 ≤ dwA c k ∧ dwA c k < 2147483647 := ⟨Int.emod_nonneg _ (by decide), Int.emod_lt_of_pos _ (by decide)⟩
theorem dwB_b (c : Int) (k : Nat) : 0 ≤ dwB c k ∧ dwB c k < 2147483629 := ⟨Int.emod_nonneg _ (by decide), Int.emod_lt_of_pos _ (by decide)⟩
def dws (c : Int) (n : Nat) : List Int := (List.range n).map (dw c)
theorem dws_len (c : Int) (n : Nat) : (dws c n).length = n := by unfold dws; rw [List.length_map, List.length_range]
theorem dws_get {c : Int} {n k : Nat} (h : k < n) : (dws c n)[k]? = some (dw c k) := by unfold dws; simp [h]
theorem dws_succ (c : Int) (n : Nat) : dws c (n + 1) = dws c n ++ [dw c n] := by unfold dws; rw [List.range_succ, List.map_append]; rfl
section
variable {P : Program} {w : World} {K : PySem.W.Frag} {mg : Str → Option Value} {base : Heap} {f : Addr} {fd : FuncData} {v1 v2 v3 : Value}
abbrev s_law_draws : Stmt := top 20
theorem sc_law_draws : FnScope ["cell", "count", "row", "rest", "base", "more", "k", "stir"] ["cell", "count"] (defScope s_law_draws) := ⟨rfl, rfl, rfl, by decide +kernel, rfl, by decide +kernel, by decide +kernel⟩
def spDws : Sp3 := fun ts Γ Z _ => ∃ (c : Int) (n : Nat), ts = [.int c, .int n] ∧ n ≤ 1000 ∧ ∀ p, Γ p = none → Z (.ref p) (up Γ p (.lst ((dws c n).map T.int)))
theorem ok_draws (F : Fun K "_law_draws" "_law_draws" s_law_draws f fd) (z_range : mg "range" = none) : FnOk P w K mg base CX0 1 f fd ["cell", "count"] (liSp spDws) := by
 refine okd F sc_law_draws (fun ts Γ Z Y h => ?_) (fun cdv A outer s H E ts Γ Z Y hr h => ?_)
 ·obtain ⟨c, n, rfl, _⟩ := h
  rfl
 obtain ⟨c, n, rfl, n1, q⟩ := h
 refine ⟨_, (qss_cons (qs_set (i := 2) sc_law_draws.nd rfl (Or.inl rfl) (qe_lst qa_nil))
  (qss_cons (qs_set (i := 3) sc_law_draws.nd rfl (Or.inl rfl) (qe_op oq_sub (qv 0) (qe_op oq_pow qe_int qe_int)))
  (qss_cons (qs_set (i := 4) sc_law_draws.nd rfl (Or.inl rfl) (qe_op oq_add (qe_op oq_mod (qv 0) qe_int) qe_int))
  (qss_cons (qs_set (i := 5) sc_law_draws.nd rfl (Or.inl rfl) (qe_op oq_mod (qv 0) qe_int))
  (qss_cons (qs_for PassesOwn.never rfl (qi_range1 rfl z_range (qa_cons (qv 1) qa_nil)) (qg_name (i := 6) sc_law_draws.nd rfl (Or.inl rfl)) (qss_cons (qs_set (i := 7) sc_law_draws.nd rfl (Or.inl rfl) (qe_op oq_mod (qe_op oq_mul (qv 4) (qe_op oq_add (qe_op oq_mul qe_int (qv 6)) qe_int)) qe_int))
  (qss_cons (qs_set (i := 7) sc_law_draws.nd rfl (Or.inl rfl) (qe_op oq_mod (qe_op oq_add (qe_op oq_pow (qv 7) qe_int) (qe_op oq_pow (qe_op oq_add (qv 6) qe_int) qe_int)) qe_int))
  (qss_cons (qs_set (i := 7) sc_law_draws.nd rfl (Or.inl rfl) (qe_op oq_fdiv (qe_op oq_mod (qe_op oq_pow (qe_op oq_add (qv 7) (qv 5)) qe_int) qe_int) qe_int))
  (qss_cons (qs_cut (qs_if (qt_cmpR oq_gt (qv 3) qe_int (nomark _)) (qss_cons (qs_set (i := 7) sc_law_draws.nd rfl (Or.inl rfl) (qe_op oq_mod (qv 3) qe_int))
  (qss_cons (qs_set (i := 3) sc_law_draws.nd rfl (Or.inl rfl) (qe_op oq_fdiv (qv 3) qe_int))
  qss_nil)) qss_nil))
  (qss_cons (qs_expr (qe_bm PySem.F.plainAttrs_list PySem.F.slot_list_append PySem.F.type_list_append mq_append (qv 2) (qa_cons (qv 7) qa_nil)))
  qss_nil))))))
  (qss_cons (qs_ret (qv 2))
  qss_nil)))))), ?_⟩
 simp only [start3]
 and_intros
 intro p hp
 and_intros
 refine ⟨n, rfl, by omega, by omega, ?_⟩
 refine ⟨fun rest τ Γ' => ∃ (i m : Nat) (o6 o7 : Option T), rest = rngT i m ∧ i + m = n ∧ τ = [some (.int c), some (.int n), some (.ref p), some (.int (dwRest c i)), some (.int (c % 1000000007 + 1)), some (.int (c % 999983)), o6, o7] ∧ Γ' = up Γ p (.lst ((dws c i).map T.int)), ⟨0, n, none, none, rfl, by omega, rfl, rfl⟩, ?_, ?_⟩
 ·rintro τ Γ' ⟨i, m, o6, o7, er, im, rfl, rfl⟩
  have hm : m = 0 := by
   cases m with
   | zero => rfl
   | succ m => cases er
  subst hm
  refine ⟨trivial, ?_⟩
  and_intros
  have : i = n := im
  subst this
  exact drop0 .refl (q p hp)
 ·rintro x r τ Γ' ⟨i, m, o6, o7, er, im, rfl, rfl⟩
  obtain ⟨m', rfl, rfl, rfl⟩ := rngT_cons er
  have ab := dwA_b c i
  have bb := dwB_b c i
  have mb : 0 ≤ c % 999983 ∧ c % 999983 < 999983 := ⟨Int.emod_nonneg _ (by decide), Int.emod_lt_of_pos _ (by decide)⟩
  and_intros
  refine t_I (.inr ⟨by omega, by omega⟩) ?_
  and_intros
  refine t_I ⟨by decide, by decide, ?_⟩ ?_
  ·show (dwA c i).natAbs < 2 ^ 64
   omega
  and_intros
  refine t_I ⟨by decide, by decide, by omega⟩ ?_
  and_intros
  refine t_I ⟨by decide, by decide, ?_⟩ ?_
  ·show (dwB c i + c % 999983).natAbs < 2 ^ 64
   omega
  and_intros
  refine ⟨fun τ Γ' => τ = [some (.int c), some (.int n), some (.ref p), some (.int (dwRest c (i + 1))), some (.int (c % 1000000007 + 1)), some (.int (c % 999983)), some (.int i), some (.int (dw c i))] ∧ Γ' = up Γ p (.lst ((dws c i).map T.int)), ?_, ?_⟩
  ·and_intros
   refine c_if (fun cc => ?_) (fun cc => ?_)
   ·have cc := of_decide_eq_true cc
    and_intros
    have e1 : dwRest c (i + 1) = dwRest c i / 1000003 := by rw [dwRest, if_pos cc]
    have e2 : dw c i = dwRest c i % 1000003 := by rw [dw, if_pos cc]
    rw [e1, e2]
    exact ⟨rfl, rfl⟩
   ·have cc := of_decide_eq_false cc
    and_intros
    have e1 : dwRest c (i + 1) = dwRest c i := by rw [dwRest, if_neg cc]
    have e2 : dw c i = dwC c i := by rw [dw, if_neg cc]
    rw [e1, e2]
    exact ⟨rfl, rfl⟩
  rintro τ Γ' ⟨rfl, rfl⟩
  and_intros
  refine t_tyL up_same ?_
  and_intros
  refine ⟨p, (dws c i).map T.int, _, rfl, rfl, up_same, small1000 (by rw [List.length_map, dws_len]; omega), ?_⟩
  and_intros
  refine ⟨i + 1, m', _, _, rfl, by omega, rfl, ?_⟩
  rw [up_up, dws_succ, List.map_append]
  rfl
def lt1 (n : Int) : Nat := 97 + (n % 26).toNat
def wd (ns : List Int) : Str := S (ns.map lt1)
theorem lt1_b (n : Int) : 97 ≤ lt1 n ∧ lt1 n ≤ 122 := by
 unfold lt1
 have := Int.emod_nonneg n (by decide : (26 : Int) ≠ 0)
 have := Int.emod_lt_of_pos n (by decide : (0 : Int) < 26)
 omega
theorem wd_lets (ns : List Int) : Lets (wd ns) := fun c h => by
 have h : c ∈ ns.map lt1 := by simpa [wd, S] using h
 obtain ⟨n, _, rfl⟩ := List.mem_map.mp h
 exact lt1_b n
theorem wd_len (ns : List Int) : (wd ns).length = ns.length := by unfold wd; rw [S_len, List.length_map]
theorem abc_ix : ∀ j : Nat, j < 26 → abc.cps.toList[j]? = some (97 + j) := by decide +kernel
theorem abc_ixI {r : Int} (h0 : 0 ≤ r) (h1 : r < 26) : atI abc.cps.toList r = some (97 + r.toNat) := by
 have e : r = ((r.toNat : Nat) : Int) := by omega
 rw [e]
 exact atI_nat (abc_ix _ (by omega))
theorem catS_one (l : List Nat) : catS (l.map fun c => (⟨#[c]⟩ : Str)) = S l := by
 unfold catS S
 congr 1
 rw [List.map_map]
 have : ∀ l : List Nat, (l.map ((fun x : Str => x.cps.toList) ∘ fun c => (⟨#[c]⟩ : Str))).flatten = l := fun l => by
  induction l with
  | nil => rfl
  | cons c l ih => rw [List.map_cons, List.flatten_cons, ih]; rfl
 rw [this]
abbrev s_law_word : Stmt := top 21
theorem sc_law_word : FnScope ["numbers"] ["numbers"] (defScope s_law_word) := ⟨rfl, rfl, rfl, by decide +kernel, rfl, by decide +kernel, by decide +kernel⟩
def spWrd : Sp3 := fun ts Γ Z _ => ∃ (a : Addr) (ns : List Int), ts = [.ref a] ∧ Γ a = some (.lst (ns.map T.int)) ∧ ns.length ≤ 1000 ∧ Z (.str (wd ns)) Γ
theorem ok_word (F : Fun K "_law_word" "_law_word" s_law_word f fd) : FnOk P w K mg base CX0 1 f fd ["numbers"] (liSp spWrd) := by
 refine okd F sc_law_word (fun ts Γ Z Y h => ?_) (fun cdv A outer s H E ts Γ Z Y hr h => ?_)
 ·obtain ⟨a, ns, rfl, _⟩ := h
  rfl
 obtain ⟨a, ns, rfl, ga, n1, q⟩ := h
 refine ⟨_, (qss_cons (qs_ret (qe_bm PySem.F.plainAttrs_str PySem.F.slot_str_join PySem.F.type_str_join mq_join qe_str (qa_cons (qe_comp (own := ["one"]) (cap := []) (compOk0 rfl (by decide +kernel) (by decide +kernel)) rfl (qi_list (qv 0)) (fun _ _ _ _ => (qg_name (i := 0) (show List.Nodup (["one"] : List Str) from by decide +kernel) rfl (Or.inl rfl) (Or.inr rfl))) (fun _ _ _ _ => qts_nil) (fun _ _ _ _ => (qe_ixS qe_str (qe_op oq_mod (qv 0) qe_int) (fun _ _ => rfl)))) qa_nil)))
  qss_nil), ?_⟩
 simp only [start3]
 and_intros
 refine ⟨a, _, rfl, it3_l ga, Nat.le_of_lt (small1000 (by rw [List.length_map]; exact n1)), ?_⟩
 refine ⟨fun rest τ ys Γ' => ∃ (ms ks : List Int) (o : Option T), rest = ks.map T.int ∧ ns = ms ++ ks ∧ τ = [o] ∧ ys = (ms.map lt1).map (fun c => T.str ⟨#[c]⟩) ∧ Γ' = Γ, ⟨[], ns, none, rfl, rfl, rfl, rfl, rfl⟩, ?_, ?_⟩
 ·rintro τ ys Γ' ⟨ms, ks, o, er, en, rfl, rfl, rfl⟩
  have hk : ks = [] := by
   cases ks with
   | nil => rfl
   | cons _ _ => cases er
  subst hk
  rw [List.append_nil] at en
  subst en
  refine ⟨it3_l ga, fun D hD => ?_⟩
  and_intros
  refine ⟨D, (ns.map lt1).map (fun c => (⟨#[c]⟩ : Str)), rfl, rfl, ?_, ?_, ?_, ?_⟩
  ·rw [it3_l up_same, List.map_map, List.map_map, List.map_map]; rfl
  ·rw [List.length_map, List.length_map]; exact n1
  ·intro y hy
   obtain ⟨c, _, rfl⟩ := List.mem_map.mp hy
   show 1 ≤ 1000
   decide
  ·rw [catS_one]
   exact drop0 (.new hD) q
 ·rintro x r τ ys Γ' ⟨ms, ks, o, er, en, rfl, rfl, rfl⟩
  cases ks with
  | nil => cases er
  | cons k ks =>
   cases er
   refine ⟨it3_l ga, ?_⟩
   and_intros
   have k0 := Int.emod_nonneg k (by decide : (26 : Int) ≠ 0)
   have k1 := Int.emod_lt_of_pos k (by decide : (0 : Int) < 26)
   refine ⟨_, _, _, rfl, rfl, by decide, abc_ixI k0 k1, ?_⟩
   refine ⟨ms ++ [k], ks, _, rfl, by rw [en]; simp, rfl, ?_, rfl⟩
   rw [List.map_append, List.map_append]
   rfl
end
theorem cut_map {α β : Type} (f : α → β) (xs : List α) (lo hi : Option Int) : cutN (xs.map f) lo hi = (cutN xs lo hi).map f := by
 unfold cutN
 rw [List.length_map, List.map_take, List.map_drop]
theorem sIx_pos {n d : Nat} {i : Int} (h : 0 ≤ i) : HT.sIx n d (some i) = min i.toNat n := by
 show (if i < 0 then _ else min i.toNat _) = _
 rw [if_neg (by omega)]
theorem cut_take {α : Type} {xs : List α} {n : Int} (h : 0 ≤ n) : cutN xs none (some n) = xs.take n.toNat := by
 unfold cutN
 rw [HT.sIx_none, List.drop_zero, Nat.sub_zero, sIx_pos h]
 by_cases c : n.toNat ≤ xs.length
 ·rw [Nat.min_eq_left c]
 ·rw [Nat.min_eq_right (by omega), List.take_length, List.take_of_length_le (by omega)]
theorem cut_mid {α : Type} {xs : List α} {i j : Int} (h : 0 ≤ i) (h' : 0 ≤ j) : cutN xs (some i) (some j) = (xs.drop i.toNat).take (j.toNat - i.toNat) := by
 unfold cutN
 rw [sIx_pos h, sIx_pos h']
 by_cases c : i.toNat ≤ xs.length
 ·rw [Nat.min_eq_left c]
  by_cases c2 : j.toNat ≤ xs.length
  ·rw [Nat.min_eq_left c2]
  ·rw [Nat.min_eq_right (by omega), List.take_of_length_le (by rw [List.length_drop]; omega), List.take_of_length_le (by rw [List.length_drop]; omega)]
 ·rw [Nat.min_eq_right (show xs.length ≤ i.toNat by omega), List.drop_length, List.drop_of_length_le (by omega), List.take_nil, List.take_nil]
theorem cut_drop {α : Type} {xs : List α} {i : Int} (h : 0 ≤ i) : cutN xs (some i) none = xs.drop i.toNat := by
 unfold cutN
 rw [sIx_pos h, HT.sIx_none]
 by_cases c : i.toNat ≤ xs.length
 ·rw [Nat.min_eq_left c, List.take_of_length_le (by rw [List.length_drop]; omega)]
 ·rw [Nat.min_eq_right (by omega), List.drop_length, List.drop_of_length_le (by omega), List.take_nil]
theorem cut_mem {α : Type} {xs : List α} {lo hi : Option Int} {x : α} (h : x ∈ cutN xs lo hi) : x ∈ xs := List.mem_of_mem_drop (List.mem_of_mem_take h)
def Cd (z : Str) : Prop := Lets z ∧ z.length ≤ 8
theorem Cd.nm {z : Str} (h : Cd z) (n : z ≠ "") : Nm z := by
 refine ⟨?_, h.2, h.1⟩
 rcases Nat.eq_zero_or_pos z.length with e | e
 ·exfalso
  apply n
  have : z.cps.toList.length = 0 := by rw [len_codes]; exact e
  have e2 : z.cps = #[] := by
   rw [← Array.toList_inj]
   exact List.eq_nil_of_length_eq_zero this
  obtain ⟨c⟩ := z
  show Str.mk c = _
  rw [show c = #[] from e2]
  rfl
 ·exact e
abbrev ownL : List Str := ["num", "text", "row", "rec", "pick", "none", "door", "copy", "give", "lend", "lease", "new", "call"]
theorem cd_own : ∀ z ∈ ownL, Lets z ∧ z.length ≤ 5 := by
 intro z h
 simp only [List.mem_cons, List.not_mem_nil, or_false] at h
 rcases h with rfl | rfl | rfl | rfl | rfl | rfl | rfl | rfl | rfl | rfl | rfl | rfl | rfl <;> exact ⟨lets_of (by decide +kernel), by decide +kernel⟩
def L26 (r : Int) (n : Nat) : List Str := (List.range n).map fun k : Nat => wd [r + 7 * (k : Int)]
theorem l26_len (r : Int) (n : Nat) : (L26 r n).length = n := by unfold L26; rw [List.length_map, List.length_range]
theorem l26_cd {r : Int} {n : Nat} {z : Str} (h : z ∈ L26 r n) : Cd z ∧ z ≠ "" := by
 obtain ⟨k, _, rfl⟩ := List.mem_map.mp h
 refine ⟨⟨wd_lets _, by rw [wd_len]; exact (by decide : 1 ≤ 8)⟩, fun e => ?_⟩
 have : (wd [r + 7 * (k : Int)]).length = 1 := wd_len _
 rw [e] at this
 revert this
 decide +kernel
theorem l26_nd (r : Int) : (L26 r 26).Nodup := by
 unfold L26
 rw [List.nodup_iff_pairwise_ne, List.pairwise_map]
 refine List.Pairwise.imp_of_mem (fun {i j} hi hj hn e => ?_) List.nodup_range
 rw [List.mem_range] at hi hj
 have e1 : [lt1 (r + 7 * (i : Int))] = [lt1 (r + 7 * (j : Int))] := by
  have := congrArg (fun z : Str => z.cps.toList) e
  simpa [wd, S] using this
 have e2 : lt1 (r + 7 * (i : Int)) = lt1 (r + 7 * (j : Int)) := by simpa using e1
 unfold lt1 at e2
 apply hn
 omega
theorem l26_succ (r : Int) (n : Nat) : L26 r (n + 1) = L26 r n ++ [wd [r + 7 * (n : Int)]] := by unfold L26; rw [List.range_succ, List.map_append]; rfl
theorem strs_fl (ss : List Str) : (ss.map V.str).all flatV = true := by
 rw [List.all_eq_true]
 intro v hv
 obtain ⟨z, _, rfl⟩ := List.mem_map.mp hv
 rfl
section
variable {P : Program} {w : World} {K : PySem.W.Frag} {mg : Str → Option Value} {base : Heap} {f : Addr} {fd : FuncData} {v1 v2 v3 : Value}
abbrev s_law_names : Stmt := top 22
theorem sc_law_names : FnScope ["row", "word", "letter", "at", "own", "some", "k", "names", "one"] ["row"] (defScope s_law_names) := ⟨rfl, rfl, rfl, by decide +kernel, rfl, by decide +kernel, by decide +kernel⟩
def spNms : Sp3 := fun ts Γ Z _ => ∃ (a : Addr) (ns : List Int), ts = [.ref a] ∧ Γ a = some (.lst (ns.map T.int)) ∧ ns.length = 20 ∧ ∀ (ss : List Str) (p : Addr), ss.length = 9 → (∀ z ∈ ss, Nm z) → ss.Nodup → Γ p = none → Z (.ref p) (up Γ p (.lst (ss.map T.str)))
theorem ok_names (F : Fun K "_law_names" "_law_names" s_law_names f fd) (c_law_word : Cl3 P w K mg base "_law_word" 1 ["numbers"] spWrd) (z_len : mg "len" = none) (z_range : mg "range" = none) : FnOk P w K mg base CX0 2 f fd ["row"] (liSp spNms) := by
 refine okd F sc_law_names (fun ts Γ Z Y h => ?_) (fun cdv A outer s H E ts Γ Z Y hr h => ?_)
 ·obtain ⟨a, ns, rfl, _⟩ := h
  rfl
 obtain ⟨a, ns, rfl, ga, nl, q⟩ := h
 refine ⟨_, (qss_cons (qs_set (i := 1) sc_law_names.nd rfl (Or.inl rfl) (qe_call c_law_word hr (by omega) rfl (qa_cons (qe_slice sq_list (qv 0) qo_none (qo_some (qe_op oq_add qe_int (qe_op oq_mod (qe_ix (qv 0) qe_int (fun _ _ => rfl)) qe_int)))) qa_nil)))
  (qss_cons (qs_set (i := 2) sc_law_names.nd rfl (Or.inl rfl) (qe_call c_law_word hr (by omega) rfl (qa_cons (qe_slice sq_list (qv 0) (qo_some qe_int) (qo_some qe_int)) qa_nil)))
  (qss_cons (qs_set (i := 3) sc_law_names.nd rfl (Or.inl rfl) (qe_op oq_mod (qe_ix (qv 0) qe_int (fun _ _ => rfl)) (qe_callB cq_lens rfl z_len PySem.boot_len (qa_cons (qv 1) qa_nil))))
  (qss_cons (qs_set (i := 4) sc_law_names.nd rfl (Or.inl rfl) (qe_lst (qa_cons qe_str (qa_cons qe_str (qa_cons qe_str (qa_cons qe_str (qa_cons qe_str (qa_cons qe_str (qa_cons qe_str (qa_cons qe_str (qa_cons qe_str (qa_cons qe_str (qa_cons qe_str (qa_cons qe_str (qa_cons qe_str qa_nil)))))))))))))))
  (qss_cons (qs_set (i := 5) sc_law_names.nd rfl (Or.inl rfl) (qe_lst (qa_cons (qv 1) (qa_cons (qe_op oq_adds (qv 1) (qv 2)) (qa_cons (qe_op oq_adds (qv 2) (qv 1)) (qa_cons (qe_op oq_adds (qe_op oq_adds (qe_slice sq_str (qv 1) qo_none (qo_some (qv 3))) (qv 2)) (qe_slice sq_str (qv 1) (qo_some (qe_op oq_add (qv 3) qe_int)) qo_none)) (qa_cons (qe_slice sq_str (qv 1) qo_none (qo_some (qv 3))) (qa_cons (qe_revX (qv 1) (qe_neg qe_int)) qa_nil))))))))
  (qss_cons (qs_set (i := 5) sc_law_names.nd rfl (Or.inl rfl) (qe_op oq_catL (qv 5) (qe_lst (qa_cons (qe_ix (qv 4) (qe_op oq_mod (qe_ix (qv 0) qe_int (fun _ _ => rfl)) qe_int) (fun _ _ => rfl)) (qa_cons (qe_call c_law_word hr (by omega) rfl (qa_cons (qe_slice sq_list (qv 0) (qo_some qe_int) (qo_some (qe_op oq_add qe_int (qe_op oq_mod (qe_ix (qv 0) qe_int (fun _ _ => rfl)) qe_int)))) qa_nil)) (qa_cons (qe_op oq_adds (qe_ix (qv 4) (qe_op oq_mod (qe_op oq_fdiv (qe_ix (qv 0) qe_int (fun _ _ => rfl)) qe_int) qe_int) (fun _ _ => rfl)) (qv 2)) qa_nil))))))
  (qss_cons (qs_set (i := 5) sc_law_names.nd rfl (Or.inl rfl) (qe_op oq_catL (qe_slice sq_list (qv 5) (qo_some (qe_op oq_mod (qe_ix (qv 0) qe_int (fun _ _ => rfl)) qe_int)) qo_none) (qe_slice sq_list (qv 5) qo_none (qo_some (qe_op oq_mod (qe_ix (qv 0) qe_int (fun _ _ => rfl)) qe_int)))))
  (qss_cons (qs_for PassesOwn.never rfl (qi_range1 rfl z_range (qa_cons qe_int qa_nil)) (qg_name (i := 6) sc_law_names.nd rfl (Or.inl rfl)) (qss_cons (qs_expr (qe_bm PySem.F.plainAttrs_list PySem.F.slot_list_append PySem.F.type_list_append mq_append (qv 5) (qa_cons (qe_call c_law_word hr (by omega) rfl (qa_cons (qe_lst (qa_cons (qe_op oq_add (qe_ix (qv 0) qe_int (fun _ _ => rfl)) (qe_op oq_mul qe_int (qv 6))) qa_nil)) qa_nil)) qa_nil)))
  qss_nil))
  (qss_cons (qs_set (i := 7) sc_law_names.nd rfl (Or.inl rfl) (qe_lst qa_nil))
  (qss_cons (qs_for PassesOwn.never rfl (qi_list (qv 5)) (qg_name (i := 8) sc_law_names.nd rfl (Or.inl rfl)) (qss_cons (qs_cut (qs_if (PW.pt (qw_and (qt_cmpR oq_ne (qv 8) qe_str (nomark _)) (qw_and (qt_cmpR oq_nin (qv 8) (qv 7) (by with_unfolding_all rfl)) (qw_and1 (qt_cmpR oq_lt (qe_callB cq_len rfl z_len PySem.boot_len (qa_cons (qv 7) qa_nil)) qe_int (nomark _)))))) (qss_cons (qs_expr (qe_bm PySem.F.plainAttrs_list PySem.F.slot_list_append PySem.F.type_list_append mq_append (qv 7) (qa_cons (qv 8) qa_nil)))
  qss_nil) qss_nil))
  qss_nil))
  (qss_cons (qs_ret (qv 7))
  qss_nil))))))))))), ?_⟩
 simp only [start3]
 obtain ⟨r16, m16, _, x16⟩ := ix_int (ns := ns) (j := 16) (by omega)
 obtain ⟨r8, m8, _, x8⟩ := ix_int (ns := ns) (j := 8) (by omega)
 obtain ⟨r9, m9, _, x9⟩ := ix_int (ns := ns) (j := 9) (by omega)
 obtain ⟨r17, m17, _, x17⟩ := ix_int (ns := ns) (j := 17) (by omega)
 obtain ⟨r18, m18, _, x18⟩ := ix_int (ns := ns) (j := 18) (by omega)
 obtain ⟨r19, m19, _, x19⟩ := ix_int (ns := ns) (j := 19) (by omega)
 have b16 : 0 ≤ r16 % 7 ∧ r16 % 7 < 7 := ⟨Int.emod_nonneg _ (by decide), Int.emod_lt_of_pos _ (by decide)⟩
 have b17 : 0 ≤ r17 % 5 ∧ r17 % 5 < 5 := ⟨Int.emod_nonneg _ (by decide), Int.emod_lt_of_pos _ (by decide)⟩
 and_intros
 refine t_ixR ga x16 ?_
 and_intros
 refine ⟨a, _, rfl, ga, fun p1 hp1 => ?_⟩
 rw [cut_map, cut_take (by omega)]
 and_intros
 refine ⟨p1, _, rfl, up_same, by rw [List.length_take]; omega, ?_⟩
 have ew : (wd (ns.take (1 + r16 % 7).toNat)).length = (1 + r16 % 7).toNat := by rw [wd_len, List.length_take]; omega
 have lw := wd_lets (ns.take (1 + r16 % 7).toNat)
 generalize wd (ns.take (1 + r16 % 7).toNat) = word at *
 have l1 : Le Γ (up Γ p1 (.lst ((ns.take (1 + r16 % 7).toNat).map T.int))) := .new hp1
 generalize up Γ p1 (.lst ((ns.take (1 + r16 % 7).toNat).map T.int)) = Γ1 at *
 and_intros
 refine ⟨a, _, rfl, l1 _ _ ga, fun p2 hp2 => ?_⟩
 rw [cut_map, cut_mid (by decide) (by decide)]
 and_intros
 refine ⟨p2, _, rfl, up_same, by rw [List.length_take]; exact Nat.le_trans (Nat.min_le_left _ _) (by decide), ?_⟩
 have el : (wd ((ns.drop (Int.toNat 7)).take (Int.toNat 8 - Int.toNat 7))).length = 1 := by rw [wd_len, List.length_take, List.length_drop, nl]; rfl
 have ll := wd_lets ((ns.drop (Int.toNat 7)).take (Int.toNat 8 - Int.toNat 7))
 generalize wd ((ns.drop (Int.toNat 7)).take (Int.toNat 8 - Int.toNat 7)) = letter at *
 have l2 : Le Γ (up Γ1 p2 (.lst (((ns.drop (Int.toNat 7)).take (Int.toNat 8 - Int.toNat 7)).map T.int))) := l1.trans (.new hp2)
 generalize up Γ1 p2 (.lst (((ns.drop (Int.toNat 7)).take (Int.toNat 8 - Int.toNat 7)).map T.int)) = Γ2 at *
 and_intros
 refine t_ixR (l2 _ _ ga) x8 ?_
 and_intros
 refine ⟨word, rfl, Nat.le_of_lt (small1000 (by omega)), ?_⟩
 refine t_I (by show (0 : Int) < _; omega) ?_
 have ba : 0 ≤ r8 % (word.length : Int) ∧ r8 % (word.length : Int) < (word.length : Int) := ⟨Int.emod_nonneg _ (by omega), Int.emod_lt_of_pos _ (by omega)⟩
 generalize r8 % (word.length : Int) = at_ at *
 and_intros
 intro po hpo; generalize epo : up _ po (O.lst _) = Γ3; have gO := al_g epo; have l3 := al_l epo hpo
 have gO : Γ3 po = some (.lst (ownL.map T.str)) := gO
 and_intros
 -- some, first part
 refine t_adds ?_ ?_
 ·have := sizeLine_eq; omega
 and_intros
 refine t_adds ?_ ?_
 ·have := sizeLine_eq; omega
 and_intros
 refine ⟨Nat.le_of_lt (small1000 (by omega)), fun y1 hy1 => ?_⟩
 have c1 := cut_le hy1
 have k1 := lw.cut hy1
 have h1 := cut_head ba.1 hy1
 and_intros
 refine t_adds ?_ ?_
 ·have := sizeLine_eq; omega
 and_intros
 refine ⟨Nat.le_of_lt (small1000 (by omega)), fun y2 hy2 => ?_⟩
 have c2 := cut_le hy2
 have k2 := lw.cut hy2
 have h2 : y2.length ≤ word.length - (at_ + 1).toNat := by
  rw [← len_codes, hy2, cut_drop (by omega), List.length_drop, len_codes]
  exact Nat.le_refl _
 and_intros
 refine t_adds ?_ ?_
 ·have := sizeLine_eq; rw [app_len]; omega
 and_intros
 refine ⟨Nat.le_of_lt (small1000 (by omega)), fun y3 hy3 => ?_⟩
 have c3 := cut_le hy3
 have k3 := lw.cut hy3
 and_intros
 refine ⟨rfl, word, rfl, Nat.le_of_lt (small1000 (by omega)), fun y4 c4 hy4 => ?_⟩
 have k4 : Lets y4 := fun c hc => lw c (hy4 c hc)
 and_intros
 intro p3 hp3; generalize ep3 : up _ p3 (O.lst _) = Γ4; have gS := al_g ep3; have l4 := al_l ep3 hp3
 obtain ⟨cs, gS, hcs, ncs⟩ : ∃ cs : List Str, Γ4 p3 = some (.lst (cs.map T.str)) ∧ (∀ z ∈ cs, Cd z) ∧ cs.length = 6 := by
  refine ⟨[_, _, _, _, _, _], gS, fun z hz => ?_, rfl⟩
  simp only [List.mem_cons, List.not_mem_nil, or_false] at hz
  rcases hz with rfl | rfl | rfl | rfl | rfl | rfl
  ·exact ⟨lw, by omega⟩
  ·exact ⟨lw.app ll, by rw [app_len]; omega⟩
  ·exact ⟨ll.app lw, by rw [app_len]; omega⟩
  ·exact ⟨(k1.app ll).app k2, by rw [app_len, app_len]; omega⟩
  ·exact ⟨k3, by omega⟩
  ·exact ⟨k4, by omega⟩
 and_intros
 have l24 : Le Γ2 Γ4 := l3.trans l4
 have l04 : Le Γ Γ4 := l2.trans l24
 have gO4 := l4 _ _ gO
 refine t_ixR (l04 _ _ ga) x9 ?_
 and_intros
 obtain ⟨o1, ho1, mo1⟩ := at_some (xs := ownL.map T.str) (r := r9 % 13) (Int.emod_nonneg _ (by decide)) (Int.emod_lt_of_pos _ (by decide))
 obtain ⟨z1, mz1, rfl⟩ := List.mem_map.mp mo1
 refine t_ixR gO4 ho1 ?_
 and_intros
 refine t_ixR (l04 _ _ ga) x17 ?_
 and_intros
 refine ⟨a, _, rfl, l04 _ _ ga, ?_⟩
 intro p5 hp5; generalize ep5 : up _ p5 (O.lst _) = Γ5; have g5 := al_g ep5; have l5 := al_l ep5 hp5
 rw [cut_map, cut_mid (by decide) (by omega)] at g5
 and_intros
 refine ⟨p5, _, rfl, g5, by rw [List.length_take]; have := nl; omega, ?_⟩
 have e5 : (wd ((ns.drop (Int.toNat 10)).take ((11 + r17 % 5).toNat - Int.toNat 10))).length ≤ 5 := by rw [wd_len, List.length_take]; show min ((11 + r17 % 5).toNat - 10) _ ≤ 5; omega
 have k5 := wd_lets ((ns.drop (Int.toNat 10)).take ((11 + r17 % 5).toNat - Int.toNat 10))
 generalize wd ((ns.drop (Int.toNat 10)).take ((11 + r17 % 5).toNat - Int.toNat 10)) = y5 at *
 and_intros
 refine t_ixR (l5 _ _ (l04 _ _ ga)) x9 ?_
 and_intros
 obtain ⟨o2, ho2, mo2⟩ := at_some (xs := ownL.map T.str) (r := r9 / 13 % 13) (Int.emod_nonneg _ (by decide)) (Int.emod_lt_of_pos _ (by decide))
 obtain ⟨z2, mz2, rfl⟩ := List.mem_map.mp mo2
 have cz1 := cd_own z1 mz1
 have cz2 := cd_own z2 mz2
 refine t_ixR (l5 _ _ gO4) ho2 ?_
 and_intros
 refine t_adds ?_ ?_
 ·have := sizeLine_eq; omega
 and_intros
 intro p6 hp6; generalize ep6 : up _ p6 (O.lst _) = Γ6; have g6 := al_g ep6; have l6 := al_l ep6 hp6
 have l56 : Le Γ4 Γ6 := l5.trans l6
 obtain ⟨ds, g6, hds, nds⟩ : ∃ ds : List Str, Γ6 p6 = some (.lst (ds.map T.str)) ∧ (∀ z ∈ ds, Cd z) ∧ ds.length = 3 := by
  refine ⟨[_, _, _], g6, fun z hz => ?_, rfl⟩
  simp only [List.mem_cons, List.not_mem_nil, or_false] at hz
  rcases hz with rfl | rfl | rfl
  ·exact ⟨cz1.1, by omega⟩
  ·exact ⟨k5, by omega⟩
  ·exact ⟨cz2.1.app ll, by rw [app_len]; omega⟩
 refine ⟨p3, p6, _, _, rfl, rfl, l56 _ _ gS, g6, Nat.le_of_lt (small1000 (by rw [List.length_map, List.length_map, ncs, nds]; decide)), ?_⟩
 intro p7 hp7; generalize ep7 : up _ p7 (O.lst _) = Γ7; have g7 := al_g ep7; have l7 := al_l ep7 hp7
 rw [← List.map_append] at g7
 have l07 : Le Γ Γ7 := l04.trans (l56.trans l7)
 obtain ⟨es, hes, nes, g7⟩ : ∃ es : List Str, (∀ z ∈ es, Cd z) ∧ es.length = 9 ∧ Γ7 p7 = some (.lst (es.map T.str)) := ⟨cs ++ ds, fun z hz => (List.mem_append.mp hz).elim (hcs z) (hds z), by rw [List.length_append, ncs, nds], g7⟩
 and_intros
 refine t_ixR (l07 _ _ ga) x18 ?_
 and_intros
 have b18 : 0 ≤ r18 % 9 ∧ r18 % 9 < 9 := ⟨Int.emod_nonneg _ (by decide), Int.emod_lt_of_pos _ (by decide)⟩
 refine ⟨p7, _, rfl, g7, ?_⟩
 intro p8 hp8; generalize ep8 : up _ p8 (O.lst _) = Γ8; have g8 := al_g ep8; have l8 := al_l ep8 hp8
 rw [cut_map] at g8
 and_intros
 refine t_ixR (l8 _ _ (l07 _ _ ga)) x18 ?_
 and_intros
 refine ⟨p7, _, rfl, l8 _ _ g7, ?_⟩
 intro p9 hp9; generalize ep9 : up _ p9 (O.lst _) = Γ9; have g9 := al_g ep9; have l9 := al_l ep9 hp9
 rw [cut_map] at g9
 have n8 := cutN_length es (some (r18 % 9)) none
 have n9 := cutN_length es none (some (r18 % 9))
 refine ⟨p8, p9, _, _, rfl, rfl, l9 _ _ g8, g9, Nat.le_of_lt (small1000 (by rw [List.length_map, List.length_map]; omega)), ?_⟩
 intro p10 hp10; generalize ep10 : up _ p10 (O.lst _) = Γ10; have g10 := al_g ep10; have l10 := al_l ep10 hp10
 rw [← List.map_append] at g10
 have l010 : Le Γ Γ10 := l07.trans (l8.trans (l9.trans l10))
 obtain ⟨fs, hfs, nfs, g10⟩ : ∃ fs : List Str, (∀ z ∈ fs, Cd z) ∧ fs.length ≤ 18 ∧ Γ10 p10 = some (.lst (fs.map T.str)) := ⟨_, fun z hz => (List.mem_append.mp hz).elim (fun h => hes z (cut_mem h)) (fun h => hes z (cut_mem h)), by rw [List.length_append]; omega, g10⟩
 and_intros
 have bN : Γ p10 = none := by
  cases e : Γ p10 with
  | none => rfl
  | some o => have := (l07.trans (l8.trans l9)) _ _ e; rw [hp10] at this; cases this
 have na : a ≠ p10 := gnn ga bN
 refine ⟨26, rfl, by decide, by decide, ?_⟩
 refine ⟨fun rest τ Γ' => ∃ (i m : Nat) (o6 : Option T), rest = rngT i m ∧ i + m = 26 ∧ τ = [some (.ref a), some (.str word), some (.str letter), some (.int at_), some (.ref po), some (.ref p10), o6, none, none] ∧ Γ' p10 = some (.lst ((fs ++ L26 r19 i).map T.str)) ∧ Kq [p10] Γ Γ', ⟨0, 26, none, rfl, rfl, rfl, by rw [show L26 r19 0 = [] from rfl, List.append_nil]; exact g10, l010.kq⟩, ?_, ?_⟩
 ·rintro τ Γ' ⟨i, m, o6, er, im, rfl, gL, kq⟩
  have hm := rngT_nil er
  subst hm
  have : i = 26 := im
  subst this
  refine ⟨trivial, ?_⟩
  and_intros
  intro pn hpn; generalize en : up _ pn (O.lst _) = Γn; have gn := al_g en; have ln := al_l en hpn
  have bn : Γ pn = none := by
   by_cases e1 : pn = p10
   ·rw [e1]; exact bN
   ·cases e : Γ pn with
    | none => rfl
    | some o => have := kq _ _ (by simpa using e1) e; rw [hpn] at this; cases this
  have ne : p10 ≠ pn := gnn gL hpn
  and_intros
  refine ⟨p10, _, rfl, it3_l (ln _ _ gL), ?_⟩
  refine ⟨fun rest τ Γ' => ∃ (ds rs ss : List Str) (o8 : Option T), rest = rs.map T.str ∧ fs ++ L26 r19 26 = ds ++ rs ∧ τ = [some (.ref a), some (.str word), some (.str letter), some (.int at_), some (.ref po), some (.ref p10), o6, some (.ref pn), o8] ∧ (∀ z ∈ ss, Nm z) ∧ ss.Nodup ∧ ss.length ≤ 9 ∧ (ss.length = 9 ∨ ∀ z ∈ ds, z ≠ "" → z ∈ ss) ∧ Γ' pn = some (.lst (ss.map T.str)) ∧ Γ' p10 = some (.lst ((fs ++ L26 r19 26).map T.str)) ∧ Kq [p10, pn] Γ Γ', ⟨[], _, [], none, rfl, rfl, rfl, fun _ h => (nomatch h), List.nodup_nil, by decide, .inr fun _ h => (nomatch h), gn, ln _ _ gL, (kq.mono (by simp)).trans ln.kq⟩, ?_, ?_⟩
  ·rintro τ Γ2 ⟨ds, rs, ss, o8, er2, ed, rfl, nm, nd, s9, hall, gs, gL2, kq2⟩
   have hrs : rs = [] := by
    cases rs with
    | nil => rfl
    | cons _ _ => cases er2
   subst hrs
   rw [List.append_nil] at ed
   refine ⟨it3_l gL2, ?_⟩
   and_intros
   have e9 : ss.length = 9 := by
    rcases hall with h | h
    ·exact h
    ·exfalso
     have := sub_len (l := L26 r19 26) (m := ss) (l26_nd r19) fun z hz => h z (by rw [← ed]; exact List.mem_append_right _ hz) (l26_cd hz).2
     rw [l26_len] at this
     omega
   refine ⟨up Γ pn (.lst (ss.map T.str)), fun b u g => ?_, q ss pn e9 nm nd bn⟩
   by_cases e1 : b = pn
   ·subst e1; rw [up_same] at g; cases g; exact gs
   ·rw [up_ne e1] at g
    by_cases e2 : b = p10
    ·subst e2; rw [bN] at g; cases g
    ·exact kq2 b u (by simp [e1, e2]) g
  ·rintro x rr τ Γ2 ⟨ds, rs, ss, o8, er2, ed, rfl, nm, nd, s9, hall, gs, gL2, kq2⟩
   cases rs with
   | nil => cases er2
   | cons z rs =>
    cases er2
    have cz : Cd z := by
     have : z ∈ fs ++ L26 r19 26 := by rw [ed]; simp
     rcases List.mem_append.mp this with h | h
     ·exact hfs z h
     ·exact (l26_cd h).1
    refine ⟨it3_l gL2, ?_⟩
    and_intros
    refine ⟨fun τ Γ' => ∃ (ss : List Str), τ = [some (.ref a), some (.str word), some (.str letter), some (.int at_), some (.ref po), some (.ref p10), o6, some (.ref pn), some (.str z)] ∧ (∀ z ∈ ss, Nm z) ∧ ss.Nodup ∧ ss.length ≤ 9 ∧ (ss.length = 9 ∨ ∀ y ∈ ds ++ [z], y ≠ "" → y ∈ ss) ∧ Γ' pn = some (.lst (ss.map T.str)) ∧ Γ' p10 = some (.lst ((fs ++ L26 r19 26).map T.str)) ∧ Kq [p10, pn] Γ Γ', ?_, ?_⟩
    ·and_intros
     have same : (z = "" ∨ z ∈ ss ∨ ss.length = 9) → ss.length = 9 ∨ ∀ y ∈ ds ++ [z], y ≠ "" → y ∈ ss := fun h => by
      rcases hall with h9 | ha
      ·exact .inl h9
      rcases h with h | h | h
      ·refine .inr fun y hy ny => ?_
       rcases List.mem_append.mp hy with hy | hy
       ·exact ha y hy ny
       ·rw [List.mem_singleton.mp hy] at ny; exact absurd h ny
      ·refine .inr fun y hy ny => ?_
       rcases List.mem_append.mp hy with hy | hy
       ·exact ha y hy ny
       ·rw [List.mem_singleton.mp hy]; exact h
      ·exact .inl h
     refine c_if (fun c1 => ?_) (fun c1 => ?_)
     ·have c1 : z ≠ "" := fun e => by rw [e] at c1; simp at c1
      and_intros
      refine t_inL gs rfl (scs_strs ss) rfl (strs_fl ss) ?_
      show ∃ k, T.bl (!inV (.str z) (ss.map V.str)) = .bl k ∧ _
      rw [inV_strs]
      and_intros
      refine c_if (fun c2 => ?_) (fun c2 => ?_)
      ·have c2 : z ∉ ss := by simpa using c2
       and_intros
       refine t_lenR gs ?_
       rw [List.length_map]
       and_intros
       refine c_if (fun c3 => ?_) (fun c3 => ?_)
       ·have c3 := of_decide_eq_true c3
        and_intros
        refine t_tyL gs ?_
        and_intros
        refine ⟨pn, _, _, rfl, rfl, gs, small1000 (by rw [List.length_map]; omega), ?_⟩
        and_intros
        refine ⟨ss ++ [z], rfl, fun y hy => ?_, ?_, by rw [List.length_append]; show ss.length + 1 ≤ 9; omega, ?_, by rw [List.map_append]; exact up_same, by rw [up_ne ne]; exact gL2, kq2.trans (.set (by simp) _)⟩
        ·rcases List.mem_append.mp hy with hy | hy
         ·exact nm y hy
         ·rw [List.mem_singleton.mp hy]; exact cz.nm c1
        ·rw [List.nodup_append]
         refine ⟨nd, by simp, fun x hx y hy e => c2 ?_⟩
         rw [List.mem_singleton] at hy
         rw [← hy, ← e]; exact hx
        ·rcases hall with h9 | ha
         ·omega
         ·refine .inr fun y hy ny => ?_
          rcases List.mem_append.mp hy with hy | hy
          ·exact List.mem_append_left _ (ha y hy ny)
          ·exact List.mem_append_right _ hy
       ·have c3 := of_decide_eq_false c3
        and_intros
        exact ⟨ss, rfl, nm, nd, s9, same (.inr (.inr (by omega))), gs, gL2, kq2⟩
      ·have c2 : z ∈ ss := by simpa using c2
       and_intros
       exact ⟨ss, rfl, nm, nd, s9, same (.inr (.inl c2)), gs, gL2, kq2⟩
     ·have c1 : z = "" := by simpa using c1
      and_intros
      exact ⟨ss, rfl, nm, nd, s9, same (.inl c1), gs, gL2, kq2⟩
    rintro τ Γ3 ⟨ss2, rfl, nm2, nd2, s92, hall2, gs2, gL3, kq3⟩
    and_intros
    exact ⟨ds ++ [z], rs, ss2, _, rfl, by rw [ed]; simp, rfl, nm2, nd2, s92, hall2, gs2, gL3, kq3⟩
 ·rintro x rr τ Γ' ⟨i, m, o6, er, im, rfl, gL, kq⟩
  obtain ⟨m', rfl, rfl, rfl⟩ := rngT_cons er
  have ga' := kq _ _ (by simpa using na) ga
  and_intros
  refine t_tyL gL ?_
  and_intros
  refine t_ixR ga' x19 ?_
  and_intros
  intro p11 hp11; generalize e11 : up _ p11 (O.lst _) = Γa; have g11 := al_g e11; have l11 := al_l e11 hp11
  and_intros
  refine ⟨p11, [r19 + 7 * (i : Int)], rfl, g11, by show 1 ≤ 1000; decide, ?_⟩
  and_intros
  refine ⟨p10, _, _, rfl, rfl, l11 _ _ gL, small1000 (by rw [List.length_map, List.length_append, l26_len]; omega), ?_⟩
  and_intros
  refine ⟨i + 1, m', _, rfl, by omega, rfl, ?_, (kq.trans l11.kq).trans (.set (by simp) _)⟩
  rw [up_same, l26_succ, ← List.append_assoc, List.map_append (l₁ := fs ++ L26 r19 i)]
  rfl
end
theorem goodF_of : ∀ {gs : List (Str × Kd)} {D : Nat}, (∀ p ∈ gs, Nm p.1 ∧ p.2.good) → goodF gs
 | [], D, h => by unfold goodF; trivial
 | (m, k) :: r, D, h => by
  have a := goodF_of (gs := r) (D := D) fun p hp => h p (by simp [hp])
  obtain ⟨x, y⟩ := h (m, k) (by simp)
  unfold goodF
  exact ⟨x, y, a⟩
theorem depthF_of : ∀ {gs : List (Str × Kd)} {D : Nat}, (∀ p ∈ gs, p.2.depth ≤ D) → depthF gs ≤ D
 | [], D, h => by unfold depthF; exact Nat.zero_le _
 | (m, k) :: r, D, h => by
  have a := depthF_of (gs := r) (D := D) fun p hp => h p (by simp [hp])
  have y := h (m, k) (by simp)
  unfold depthF
  have y : k.depth ≤ D := y
  omega
mutual
def Kd.fit : Kd → Prop
 | .num w => 1 ≤ w ∧ w ≤ 4
 | .text => True
 | .row k => k.fit
 | .rec_ fs => fitF fs ∧ fs.length ≤ 6
 | .pick fs => fitF fs ∧ fs.length ≤ 6
def fitF : List (Str × Kd) → Prop
 | [] => True
 | (nm, k) :: r => Nm nm ∧ k.fit ∧ fitF r
end
def GF (ss : List Str) (k : Kd) : Prop := (ss.Nodup → k.good) ∧ k.fit
theorem fitF_of : ∀ {gs : List (Str × Kd)}, (∀ p ∈ gs, Nm p.1 ∧ p.2.fit) → fitF gs
 | [], h => by unfold fitF; trivial
 | (m, k) :: r, h => by
  have a := fitF_of (gs := r) fun p hp => h p (by simp [hp])
  obtain ⟨x, y⟩ := h (m, k) (by simp)
  unfold fitF
  exact ⟨x, y, a⟩
theorem erase_perm {α : Type} : ∀ {ls : List α} {j : Nat} (h : j < ls.length), (ls[j] :: ls.eraseIdx j).Perm ls
 | x :: r, 0, h => .refl _
 | x :: r, j + 1, h => by
  have h' : j < r.length := by simpa using h
  show (r[j] :: x :: r.eraseIdx j).Perm (x :: r)
  exact (List.Perm.swap _ _ _).trans ((erase_perm h').cons x)
theorem erase_map {α β : Type} (f : α → β) : ∀ (ls : List α) (j : Nat), (ls.map f).eraseIdx j = (ls.eraseIdx j).map f
 | [], j => rfl
 | x :: r, 0 => rfl
 | x :: r, j + 1 => by
  show f x :: (r.map f).eraseIdx j = f x :: (r.eraseIdx j).map f
  rw [erase_map f r j]
theorem le_none {Γ Γ' : Gp} {p : Addr} (k : Le Γ Γ') (h : Γ' p = none) : Γ p = none := by
 cases e : Γ p with
 | none => rfl
 | some o => have := k p o e; rw [h] at this; cases this
section
variable {P : Program} {w : World} {K : PySem.W.Frag} {mg : Str → Option Value} {base : Heap} {f : Addr} {fd : FuncData} {v1 v2 v3 : Value}
abbrev s_law_fields : Stmt := top 23
theorem sc_law_fields : FnScope ["kinds", "names", "number", "left", "fields", "kind"] ["kinds", "names", "number"] (defScope s_law_fields) := ⟨rfl, rfl, rfl, by decide +kernel, rfl, by decide +kernel, by decide +kernel⟩
def spFds : Sp3 := fun ts Γ Z _ => ∃ (a b : Addr) (n : Int) (ks : List Kd) (ss : List Str), ts = [.ref a, .ref b, .int n] ∧ Γ a = some (.lst (ks.map Kd.tr)) ∧ Γ b = some (.lst (ss.map T.str)) ∧ ks.length ≤ 6 ∧ 6 ≤ ss.length ∧ ss.length ≤ 9 ∧
 ∀ fs : List (Str × Kd), fs.map (·.2) = ks → (ss.Nodup → (fs.map (·.1)).Nodup) → (∀ p ∈ fs, p.1 ∈ ss) → Z (.tup (trF fs)) Γ
theorem ok_fields (F : Fun K "_law_fields" "_law_fields" s_law_fields f fd) (z_list : mg "list" = none) (z_len : mg "len" = none) (z_tuple : mg "tuple" = none) : FnOk P w K mg base CX0 1 f fd ["kinds", "names", "number"] (liSp spFds) := by
 refine okd F sc_law_fields (fun ts Γ Z Y h => ?_) (fun cdv A outer s H E ts Γ Z Y hr h => ?_)
 ·obtain ⟨a, b, n, ks, ss, rfl, _⟩ := h
  rfl
 obtain ⟨a, b, n, ks, ss, rfl, ga, gb, k6, s6, s9, q⟩ := h
 refine ⟨_, (qss_cons (qs_set (i := 3) sc_law_fields.nd rfl (Or.inl rfl) (qe_callTy cq_list rfl z_list bt_list (qa_cons (qv 1) qa_nil)))
  (qss_cons (qs_set (i := 4) sc_law_fields.nd rfl (Or.inl rfl) (qe_lst qa_nil))
  (qss_cons (qs_for PassesOwn.never rfl (qi_list (qv 0)) (qg_name (i := 5) sc_law_fields.nd rfl (Or.inl rfl)) (qss_cons (qs_expr (qe_bm PySem.F.plainAttrs_list PySem.F.slot_list_append PySem.F.type_list_append mq_append (qv 4) (qa_cons (qe_tup (qa_cons (qe_bm PySem.F.plainAttrs_list PySem.F.slot_list_pop PySem.F.type_list_pop mq_popAt (qv 3) (qa_cons (qe_op oq_mod (qv 2) (qe_callB cq_len rfl z_len PySem.boot_len (qa_cons (qv 3) qa_nil))) qa_nil)) (qa_cons (qv 5) qa_nil))) qa_nil)))
  (qss_cons (qs_set (i := 2) sc_law_fields.nd rfl (Or.inl rfl) (qe_op oq_fdiv (qv 2) qe_int))
  qss_nil)))
  (qss_cons (qs_ret (qe_callTy cq_tuple rfl z_tuple bt_tuple (qa_cons (qv 4) qa_nil)))
  qss_nil)))), ?_⟩
 simp only [start3]
 and_intros
 refine ⟨.ref b, _, rfl, it3_l gb, ?_⟩
 intro pl hpl; generalize e1 : up _ pl (O.lst _) = Γ1; have gl := al_g e1; have l1 := al_l e1 hpl
 and_intros
 intro pf hpf; generalize e2 : up _ pf (O.lst _) = Γ2; have gf := al_g e2; have l2 := al_l e2 hpf
 have bl : Γ pl = none := hpl
 have bf : Γ pf = none := le_none l1 hpf
 have nlf : pl ≠ pf := gnn gl hpf
 have nal : a ≠ pl := gnn ga bl
 have naf : a ≠ pf := gnn ga bf
 and_intros
 refine ⟨a, _, rfl, it3_l (l2 _ _ (l1 _ _ ga)), ?_⟩
 refine ⟨fun rest τ Γ' => ∃ (rs : List Kd) (gs : List (Str × Kd)) (ls : List Str) (m : Int) (o5 : Option T), rest = rs.map Kd.tr ∧ ks = gs.map (·.2) ++ rs ∧ τ = [some (.ref a), some (.ref b), some (.int m), some (.ref pl), some (.ref pf), o5] ∧ (gs.map (·.1) ++ ls).Perm ss ∧ Γ' pl = some (.lst (ls.map T.str)) ∧ Γ' pf = some (.lst (trF gs)) ∧ Kq [pl, pf] Γ Γ', ⟨ks, [], ss, n, none, rfl, rfl, rfl, .refl _, l2 _ _ gl, gf, (l1.trans l2).kq⟩, ?_, ?_⟩
 ·rintro τ Γ' ⟨rs, gs, ls, m, o5, er, ek, rfl, pm, gl', gf', kq⟩
  have hrs : rs = [] := by
   cases rs with
   | nil => rfl
   | cons _ _ => cases er
  subst hrs
  rw [List.append_nil] at ek
  refine ⟨it3_l (kq _ _ (by simp [nal, naf]) ga), ?_⟩
  and_intros
  refine ⟨.ref pf, _, rfl, it3_l gf', ?_⟩
  have : Le Γ Γ' := fun x o h => kq x o (by
   have n1 : x ≠ pl := gnn h bl
   have n2 : x ≠ pf := gnn h bf
   simp [n1, n2]) h
  refine drop0 this (q gs ek.symm (fun nd => ?_) fun p hp => ?_)
  ·have := pm.nodup_iff.mpr nd
   rw [List.nodup_append] at this
   exact this.1
  ·exact pm.mem_iff.mp (List.mem_append_left _ (List.mem_map.mpr ⟨p, hp, rfl⟩))
 ·rintro x rr τ Γ' ⟨rs, gs, ls, m, o5, er, ek, rfl, pm, gl', gf', kq⟩
  cases rs with
  | nil => cases er
  | cons k rs =>
   cases er
   have hl : gs.length + ls.length = ss.length := by
    have := pm.length_eq
    rw [List.length_append, List.length_map] at this
    exact this
   have hk : gs.length + (rs.length + 1) = ks.length := by rw [ek, List.length_append, List.length_map, List.length_cons]
   refine ⟨it3_l (kq _ _ (by simp [nal, naf]) ga), ?_⟩
   and_intros
   refine t_tyL gf' ?_
   and_intros
   refine t_tyL gl' ?_
   and_intros
   refine t_lenR gl' ?_
   rw [List.length_map]
   refine t_I (by show (0 : Int) < _; omega) ?_
   have b0 := Int.emod_nonneg m (show (ls.length : Int) ≠ 0 by omega)
   have b1 := Int.emod_lt_of_pos m (show (0 : Int) < ls.length by omega)
   obtain ⟨j, hj⟩ : ∃ j : Nat, m % (ls.length : Int) = j := ⟨(m % (ls.length : Int)).toNat, by omega⟩
   have hj2 : j < ls.length := by omega
   rw [hj]
   and_intros
   refine ⟨pl, ls.map T.str, j, .str ls[j], rfl, rfl, gl', by omega, by simp [hj2], ?_⟩
   and_intros
   refine ⟨pf, _, _, rfl, rfl, by rw [up_ne nlf.symm]; exact gf', small1000 (by rw [trF_len]; omega), ?_⟩
   and_intros
   refine ⟨rs, gs ++ [(ls[j], k)], ls.eraseIdx j, _, _, rfl, by rw [ek, List.map_append]; simp, rfl, ?_, ?_, ?_, (kq.trans (.set (by simp) _)).trans (.set (by simp) _)⟩
   ·rw [List.map_append, List.append_assoc]
    exact (List.Perm.append_left _ (erase_perm hj2)).trans pm
   ·rw [up_ne nlf, up_same, erase_map]
   ·rw [up_same, trF_app]; rfl
def kdT (q : Kd × Int) : T := .tup [q.1.tr, .int q.2]
def MkOk (ss : List Str) (D : Int) (q : Kd × Int) : Prop := GF ss q.1 ∧ (q.1.depth : Int) ≤ q.2 ∧ 1 ≤ q.2 ∧ q.2 ≤ D
theorem mk_fields {ss : List Str} {D : Int} {fs : List (Str × Kd)} {w : Str} {d : Int} (hw : w = "rec" ∨ w = "pick") (nm : ∀ z ∈ ss, Nm z) (nd : ss.Nodup → (fs.map (·.1)).Nodup) (mem : ∀ p ∈ fs, p.1 ∈ ss) (l1 : 1 ≤ fs.length) (l6 : fs.length ≤ 6) (hk : ∀ k ∈ fs.map (·.2), GF ss k ∧ (k.depth : Int) ≤ d) (d0 : 0 ≤ d) (hd : d < D) :
  ∃ k : Kd, T.tup [.str w, .tup (trF fs)] = k.tr ∧ MkOk ss D (k, d + 1) := by
 have dF : (depthF fs : Int) ≤ d := by
  have := depthF_of (gs := fs) (D := d.toNat) fun p hp => by
   have := (hk p.2 (List.mem_map.mpr ⟨p, hp, rfl⟩)).2
   omega
  omega
 have gF : ss.Nodup → goodF fs := fun h => goodF_of (D := 0) fun p hp => ⟨nm _ (mem p hp), (hk p.2 (List.mem_map.mpr ⟨p, hp, rfl⟩)).1.1 h⟩
 have fF : fitF fs := fitF_of fun p hp => ⟨nm _ (mem p hp), (hk p.2 (List.mem_map.mpr ⟨p, hp, rfl⟩)).1.2⟩
 rcases hw with rfl | rfl
 ·refine ⟨.rec_ fs, by rw [Kd.tr], ⟨fun h => ?_, ?_⟩, ?_, ?_, ?_⟩
  ·show Kd.good (.rec_ fs)
   unfold Kd.good
   exact ⟨gF h, l1, l6, nd h⟩
  ·show Kd.fit (.rec_ fs)
   unfold Kd.fit
   exact ⟨fF, l6⟩
  ·show ((Kd.rec_ fs).depth : Int) ≤ d + 1
   rw [Kd.depth]
   omega
  ·show 1 ≤ d + 1; omega
  ·show d + 1 ≤ D; omega
 ·refine ⟨.pick fs, by rw [Kd.tr], ⟨fun h => ?_, ?_⟩, ?_, ?_, ?_⟩
  ·show Kd.good (.pick fs)
   unfold Kd.good
   exact ⟨gF h, l1, l6, nd h⟩
  ·show Kd.fit (.pick fs)
   unfold Kd.fit
   exact ⟨fF, l6⟩
  ·show ((Kd.pick fs).depth : Int) ≤ d + 1
   rw [Kd.depth]
   omega
  ·show 1 ≤ d + 1; omega
  ·show d + 1 ≤ D; omega
theorem rngT3_cons {lo c : Int} {n : Nat} {x : T} {r : List T} (h : x :: r = rngT3 lo c n) : ∃ m, n = m + 1 ∧ x = .int lo ∧ r = rngT3 (lo + c) c m := by
 cases n with
 | zero => cases h
 | succ m => cases h; exact ⟨m, rfl, rfl, rfl⟩
theorem size2 (l : Nat) (h : 2 ≤ l) : Builtin.Range.rangeSize 0 ((l : Int) - 1) 2 = ((l / 2 : Nat) : Int) := by
 unfold Builtin.Range.rangeSize
 rw [if_pos (by decide), if_pos (by omega)]
 omega
theorem cut_neg {α : Type} {xs : List α} {n : Nat} (h : 1 ≤ n) : cutN xs (some (-(n : Int))) none = xs.drop (xs.length - n) := by
 unfold cutN
 have e : HT.sIx xs.length 0 (some (-(n : Int))) = xs.length - n := by
  show (if -(n : Int) < 0 then (-(n : Int) + (xs.length : Int)).toNat else _) = _
  rw [if_pos (by omega)]
  omega
 rw [e, HT.sIx_none, List.take_of_length_le (by rw [List.length_drop]; omega)]
theorem atI_last {α : Type} {xs : List α} {x : α} (h : xs[xs.length - 1]? = some x) : atI xs (-1) = some x := by
 have hl : 0 < xs.length := by
  rcases Nat.eq_zero_or_pos xs.length with e | e
  ·rw [List.eq_nil_of_length_eq_zero e] at h; cases h
  ·exact e
 unfold atI ixN
 rw [if_neg (by decide), if_pos (by omega)]
 show xs[(-1 + (xs.length : Int)).toNat]? = _
 rw [show (-1 + (xs.length : Int)).toNat = xs.length - 1 by omega]
 exact h
abbrev s_law_kind : Stmt := top 24
theorem sc_law_kind : FnScope ["row", "names", "deepest", "made", "k", "word", "many", "deep", "fields", "taken"] ["row", "names", "deepest"] (defScope s_law_kind) := ⟨rfl, rfl, rfl, by decide +kernel, rfl, by decide +kernel, by decide +kernel⟩
def spKb : Sp3 := fun ts Γ Z _ => ∃ (a b : Addr) (D : Int) (ns : List Int) (ss : List Str), ts = [.ref a, .ref b, .int D] ∧ Γ a = some (.lst (ns.map T.int)) ∧ Γ b = some (.lst (ss.map T.str)) ∧ 2 ≤ ns.length ∧ ns.length ≤ 100 ∧ ss.length = 9 ∧ (∀ z ∈ ss, Nm z) ∧ 1 ≤ D ∧
 ∀ k : Kd, GF ss k → (k.depth : Int) ≤ D → Z k.tr Γ
theorem ok_kindB (F : Fun K "_law_kind" "_law_kind" s_law_kind f fd) (c_law_fields : Cl3 P w K mg base "_law_fields" 1 ["kinds", "names", "number"] spFds) (z_len : mg "len" = none) (z_range : mg "range" = none) (z_min : mg "min" = none) (z_max : mg "max" = none) (z_int : mg "int" = none) : FnOk P w K mg base CX0 2 f fd ["row", "names", "deepest"] (liSp spKb) := by
 refine okd F sc_law_kind (fun ts Γ Z Y h => ?_) (fun cdv A outer s H E ts Γ Z Y hr h => ?_)
 ·obtain ⟨a, b, D, ns, ss, rfl, _⟩ := h
  rfl
 obtain ⟨a, b, D, ns, ss, rfl, ga, gb, n2, n100, s9, nm, D1, q⟩ := h
 refine ⟨_, (qss_cons (qs_set (i := 3) sc_law_kind.nd rfl (Or.inr rfl) (qe_lst qa_nil))
  (qss_cons (qs_for PassesOwn.never rfl (qi_range3 rfl z_range (qa_cons qe_int (qa_cons (qe_op oq_sub (qe_callB cq_len rfl z_len PySem.boot_len (qa_cons (qv 0) qa_nil)) qe_int) (qa_cons qe_int qa_nil)))) (qg_name (i := 4) sc_law_kind.nd rfl (Or.inl rfl)) (qss_cons (qs_set (i := 5) sc_law_kind.nd rfl (Or.inl rfl) (qe_op oq_mod (qe_ix (qv 0) (qv 4) (fun _ _ => rfl)) qe_int))
  (qss_cons (qs_set (i := 6) sc_law_kind.nd rfl (Or.inl rfl) (qe_callB (cq_min2 rfl) rfl z_min PyProof.Rows.boot_min (qa_cons (qe_callB cq_len rfl z_len PySem.boot_len (qa_cons (qv 3) qa_nil)) (qa_cons (qe_op oq_add qe_int (qe_op oq_mod (qe_op oq_fdiv (qe_ix (qv 0) (qv 4) (fun _ _ => rfl)) qe_int) qe_int)) qa_nil))))
  (qss_cons (qs_cut (qs_if (qt_cmpR oq_lt (qv 5) qe_int (nomark _)) (qss_cons (qs_set (i := 6) sc_law_kind.nd rfl (Or.inl rfl) (qe_callB (cq_min2 rfl) rfl z_min PyProof.Rows.boot_min (qa_cons (qe_callB cq_len rfl z_len PySem.boot_len (qa_cons (qv 3) qa_nil)) (qa_cons qe_int qa_nil))))
  qss_nil) qss_nil))
  (qss_cons (qs_set (i := 7) sc_law_kind.nd rfl (Or.inl rfl) (qe_callB (cq_maxL rfl) rfl z_max PyProof.Rows.boot_max (qa_cons (qe_op oq_catL (qe_lst (qa_cons qe_int qa_nil)) (qe_comp (own := ["one"]) (cap := []) (compOk0 rfl (by decide +kernel) (by decide +kernel)) rfl (qi_list (qe_slice sq_list (qv 3) (qo_some (qe_op oq_sub (qe_callB cq_len rfl z_len PySem.boot_len (qa_cons (qv 3) qa_nil)) (qv 6))) qo_none)) (fun _ _ _ _ => (qg_name (i := 0) (show List.Nodup (["one"] : List Str) from by decide +kernel) rfl (Or.inl rfl) (Or.inr rfl))) (fun _ _ _ _ => qts_nil) (fun _ _ _ _ => (qe_ix (qv 0) qe_int (fun _ _ => rfl))))) qa_nil)))
  (qss_cons (qs_cut (qs_if (PW.pt (qw_or (qt_cmpR oq_lt (qv 5) qe_int (nomark _)) (qw_or (qt_cmpR oq_eq (qv 6) qe_int (nomark _)) (qw_or1 (qt_cmpR oq_ge (qv 7) (qv 2) (nomark _)))))) (qss_cons (qs_expr (qe_bm PySem.F.plainAttrs_list PySem.F.slot_list_append PySem.F.type_list_append mq_append (qv 3) (qa_cons (qe_tup (qa_cons (qe_ix (qe_lst (qa_cons (qe_tup (qa_cons qe_str (qa_cons (qe_op oq_add qe_int (qe_op oq_mod (qe_op oq_fdiv (qe_ix (qv 0) (qv 4) (fun _ _ => rfl)) qe_int) qe_int)) qa_nil))) (qa_cons (qe_tup (qa_cons qe_str qa_nil)) qa_nil))) (qe_callTy cq_intB rfl z_int bt_int (qa_cons (qe_cmpR oq_eq (qe_op oq_mod (qv 5) qe_int) qe_int (nomark _)) qa_nil)) (fun _ _ => rfl)) (qa_cons qe_int qa_nil))) qa_nil)))
  qss_nil) (qss_cons (qs_cut (qs_if (qt_cmpR oq_lt (qv 5) qe_int (nomark _)) (qss_cons (qs_expr (qe_bm PySem.F.plainAttrs_list PySem.F.slot_list_append PySem.F.type_list_append mq_append (qv 3) (qa_cons (qe_tup (qa_cons (qe_tup (qa_cons qe_str (qa_cons (qe_ix (qe_bm0 PySem.F.plainAttrs_list PySem.F.slot_list_pop PySem.F.type_list_pop mq_pop (qv 3)) qe_int (fun _ _ => rfl)) qa_nil))) (qa_cons (qe_op oq_add (qv 7) qe_int) qa_nil))) qa_nil)))
  qss_nil) (qss_cons (qs_set (i := 8) sc_law_kind.nd rfl (Or.inl rfl) (qe_call c_law_fields hr (by omega) rfl (qa_cons (qe_comp (own := ["j"]) (cap := [(3, "made")]) (compOkC rfl (by decide +kernel) (by decide +kernel) rfl (⟨rfl, trivial⟩) rfl (⟨⟨rfl, rfl, rfl⟩, trivial⟩)) rfl (qi_range1 rfl z_range (qa_cons (qv 6) qa_nil)) (fun _ _ _ _ => (qg_name (i := 0) (show List.Nodup (["j", "made"] : List Str) from by decide +kernel) rfl (Or.inl rfl) (Or.inr rfl))) (fun _ _ _ _ => qts_nil) (fun _ _ _ _ => (qe_ix (qe_bm0 PySem.F.plainAttrs_list PySem.F.slot_list_pop PySem.F.type_list_pop mq_pop (qv 1)) qe_int (fun _ _ => rfl)))) (qa_cons (qv 1) (qa_cons (qe_ix (qv 0) (qe_op oq_add (qv 4) qe_int) (fun _ _ => rfl)) qa_nil)))))
  (qss_cons (qs_expr (qe_bm PySem.F.plainAttrs_list PySem.F.slot_list_append PySem.F.type_list_append mq_append (qv 3) (qa_cons (qe_tup (qa_cons (qe_tup (qa_cons (qe_ix (qe_lst (qa_cons qe_str (qa_cons qe_str qa_nil))) (qe_callTy cq_intB rfl z_int bt_int (qa_cons (qe_cmpR oq_gt (qv 5) qe_int (nomark _)) qa_nil)) (fun _ _ => rfl)) (qa_cons (qv 8) qa_nil))) (qa_cons (qe_op oq_add (qv 7) qe_int) qa_nil))) qa_nil)))
  qss_nil))))
  qss_nil)))
  qss_nil))))))
  (qss_cons (qs_set (i := 9) sc_law_kind.nd rfl (Or.inl rfl) (qe_slice sq_list (qv 3) (qo_some (qe_neg qe_int)) qo_none))
  (qss_cons (qs_if (PW.pt (qw_or (qt_cmpR oq_eq (qe_callB cq_len rfl z_len PySem.boot_len (qa_cons (qv 9) qa_nil)) qe_int (nomark _)) (qw_or1 (qt_cmpR oq_ge (qe_callB (cq_maxL rfl) rfl z_max PyProof.Rows.boot_max (qa_cons (qe_comp (own := ["one"]) (cap := []) (compOk0 rfl (by decide +kernel) (by decide +kernel)) rfl (qi_list (qv 9)) (fun _ _ _ _ => (qg_name (i := 0) (show List.Nodup (["one"] : List Str) from by decide +kernel) rfl (Or.inl rfl) (Or.inr rfl))) (fun _ _ _ _ => qts_nil) (fun _ _ _ _ => (qe_ix (qv 0) qe_int (fun _ _ => rfl)))) qa_nil)) (qv 2) (nomark _))))) (qss_cons (qs_ret (qe_ix (qe_ix (qv 9) (qe_neg qe_int) (fun _ _ => rfl)) qe_int (fun _ _ => rfl)))
  qss_nil) qss_nil)
  (qss_cons (qs_set (i := 8) sc_law_kind.nd rfl (Or.inl rfl) (qe_call c_law_fields hr (by omega) rfl (qa_cons (qe_comp (own := ["one"]) (cap := []) (compOk0 rfl (by decide +kernel) (by decide +kernel)) rfl (qi_list (qv 9)) (fun _ _ _ _ => (qg_name (i := 0) (show List.Nodup (["one"] : List Str) from by decide +kernel) rfl (Or.inl rfl) (Or.inr rfl))) (fun _ _ _ _ => qts_nil) (fun _ _ _ _ => (qe_ix (qv 0) qe_int (fun _ _ => rfl)))) (qa_cons (qv 1) (qa_cons (qe_ix (qv 0) qe_int (fun _ _ => rfl)) qa_nil)))))
  (qss_cons (qs_ret (qe_tup (qa_cons (qe_ix (qe_lst (qa_cons qe_str (qa_cons qe_str qa_nil))) (qe_op oq_mod (qe_op oq_fdiv (qe_ix (qv 0) qe_int (fun _ _ => rfl)) qe_int) qe_int) (fun _ _ => rfl)) (qa_cons (qv 8) qa_nil))))
  qss_nil)))))), ?_⟩
 simp only [start3]
 and_intros
 intro pm hpm; generalize e1 : up _ pm (O.lst _) = Γ1; have gm := al_g e1; have l1 := al_l e1 hpm
 have nam : a ≠ pm := gnn ga hpm
 have nbm : b ≠ pm := gnn gb hpm
 and_intros
 unfold iRg3
 and_intros
 refine t_lenR (l1 _ _ ga) ?_
 rw [List.length_map]
 and_intros
 refine ⟨0, (ns.length : Int) - 1, 2, ns.length / 2, rfl, .inl rfl, by omega, by omega, by omega, by omega, size2 _ n2, ?_⟩
 refine ⟨fun rest τ Γ' => ∃ (i m : Nat) (ms : List (Kd × Int)) (o4 o5 o6 o7 o8 : Option T), rest = rngT3 ((2 * i : Nat) : Int) 2 m ∧ i + m = ns.length / 2 ∧ τ = [some (.ref a), some (.ref b), some (.int D), some (.ref pm), o4, o5, o6, o7, o8, none] ∧ (∀ x ∈ ms, MkOk ss D x) ∧ (i = 0 ∨ ms ≠ []) ∧ ms.length ≤ i ∧ Γ' pm = some (.lst (ms.map kdT)) ∧ Kq [pm] Γ Γ', ⟨0, _, [], none, none, none, none, none, rfl, by omega, rfl, fun _ h => (nomatch h), .inl rfl, Nat.le_refl _, gm, l1.kq⟩, ?_, ?_⟩
 ·rintro τ Γ' ⟨i, m, ms, o4, o5, o6, o7, o8, er, im, rfl, ok, ne, ml, gm', kq⟩
  have hm : m = 0 := by
   cases m with
   | zero => rfl
   | succ m => cases er
  subst hm
  have ne : ms ≠ [] := ne.resolve_left (by omega)
  have ml0 : 0 < ms.length := List.length_pos_iff.mpr ne
  refine ⟨trivial, ?_⟩
  and_intros
  refine ⟨pm, _, rfl, gm', ?_⟩
  intro p2 hp2; generalize e2 : up _ p2 (O.lst _) = Γ2; have g2 := al_g e2; have l2 := al_l e2 hp2
  rw [cut_map, show (some (-6) : Option Int) = some (-((6 : Nat) : Int)) from rfl, cut_neg (by decide)] at g2
  have okT : ∀ x ∈ ms.drop (ms.length - 6), MkOk ss D x := fun x hx => ok x (List.mem_of_mem_drop hx)
  have lT : (ms.drop (ms.length - 6)).length = min 6 ms.length := by rw [List.length_drop]; omega
  generalize ms.drop (ms.length - 6) = us at *
  have u1 : 1 ≤ us.length ∧ us.length ≤ 6 := by omega
  have kq2 := kq.trans (l2.kq (l := [pm]))
  have le2 : Le Γ Γ2 := fun x o h => kq2 x o (by have := gnn h hpm; simpa using this) h
  obtain ⟨y, hy⟩ : ∃ y, us[us.length - 1]? = some y := ⟨us[us.length - 1], by simp⟩
  have my := okT y (List.mem_of_getElem? hy)
  have hy2 : atI (us.map kdT) (-1) = some (kdT y) := atI_last (by rw [List.length_map, List.getElem?_map, hy]; rfl)
  have fin : ∀ Γ3, Le Γ2 Γ3 → dropK Z y.1.tr Γ3 := fun Γ3 l3 => drop0 (le2.trans l3) (q y.1 my.1 (by have := my.2.1; have := my.2.2.2; omega))
  and_intros
  refine t_lenR g2 ?_
  rw [List.length_map]
  and_intros
  refine c_if (fun c => ?_) (fun c => ?_)
  ·and_intros
   refine t_ixR g2 hy2 ?_
   unfold kdT
   and_intros
   exact fin Γ2 .refl
  and_intros
  refine ⟨p2, _, rfl, it3_l g2, Nat.le_of_lt (small1000 (by rw [List.length_map]; omega)), ?_⟩
  refine ⟨fun rest τ ys Γ4 => ∃ (vs ws : List (Kd × Int)) (o0 : Option T), rest = ws.map kdT ∧ us = vs ++ ws ∧ τ = [o0] ∧ ys = (vs.map (·.2)).map T.int ∧ Γ4 = Γ2, ⟨[], us, none, rfl, rfl, rfl, rfl, rfl⟩, ?_, ?_⟩
  rotate_left
  ·rintro x rr τ ys Γ4 ⟨vs, ws, o0, er4, eu, rfl, rfl, rfl⟩
   cases ws with
   | nil => cases er4
   | cons y ws =>
    cases er4
    refine ⟨it3_l g2, ?_⟩
    unfold kdT
    and_intros
    exact ⟨vs ++ [y], ws, _, rfl, by rw [eu]; simp, rfl, by rw [List.map_append, List.map_append]; rfl, rfl⟩
  rintro τ ys Γ4 ⟨vs, ws, o0, er4, eu, rfl, rfl, rfl⟩
  have hws : ws = [] := by
   cases ws with
   | nil => rfl
   | cons _ _ => cases er4
  subst hws
  rw [List.append_nil] at eu
  subst eu
  refine ⟨it3_l g2, ?_⟩
  intro p3 hp3; generalize e3 : up _ p3 (O.lst _) = Γ3; have g3 := al_g e3; have l3 := al_l e3 hp3
  and_intros
  refine ⟨p3, us.map fun x : Kd × Int => x.2, rfl, it3_l g3, fun e => by rw [List.map_eq_nil_iff.mp e] at u1; simp at u1, ?_⟩
  have dU : ∀ x ∈ us, x.2 ≤ topOf (us.map fun x : Kd × Int => x.2) := fun x hx => topOf_ge (List.mem_map.mpr ⟨x, hx, rfl⟩)
  generalize topOf (us.map fun x : Kd × Int => x.2) = deep at *
  have d0 : 1 ≤ deep := by
   have := dU y (List.mem_of_getElem? hy)
   have := my.2.2.1
   omega
  and_intros
  refine c_if (fun c2 => ?_) (fun c2 => ?_)
  ·and_intros
   refine t_ixR (l3 _ _ g2) hy2 ?_
   unfold kdT
   and_intros
   exact fin Γ3 l3
  have c2 := of_decide_eq_false c2
  and_intros
  have g23 := l3 _ _ g2
  refine ⟨p2, _, rfl, it3_l g23, Nat.le_of_lt (small1000 (by rw [List.length_map]; omega)), ?_⟩
  refine ⟨fun rest τ ys Γ4 => ∃ (vs ws : List (Kd × Int)) (o0 : Option T), rest = ws.map kdT ∧ us = vs ++ ws ∧ τ = [o0] ∧ ys = (vs.map (·.1)).map Kd.tr ∧ Γ4 = Γ3, ⟨[], us, none, rfl, rfl, rfl, rfl, rfl⟩, ?_, ?_⟩
  rotate_left
  ·rintro x rr τ ys Γ4 ⟨vs, ws, o0, er4, eu, rfl, rfl, rfl⟩
   cases ws with
   | nil => cases er4
   | cons y ws =>
    cases er4
    refine ⟨it3_l g23, ?_⟩
    unfold kdT
    and_intros
    exact ⟨vs ++ [y], ws, _, rfl, by rw [eu]; simp, rfl, by rw [List.map_append, List.map_append]; rfl, rfl⟩
  rintro τ ys Γ4 ⟨vs, ws, o0, er5, eu, rfl, rfl, rfl⟩
  have hws : ws = [] := by
   cases ws with
   | nil => rfl
   | cons _ _ => cases er5
  subst hws
  rw [List.append_nil] at eu
  subst eu
  refine ⟨it3_l g23, ?_⟩
  intro p5 hp5; generalize e5 : up _ p5 (O.lst _) = Γ5; have g5 := al_g e5; have l5 := al_l e5 hp5
  have kq5 := kq2.trans ((l3.trans l5).kq (l := [pm]))
  obtain ⟨r0, _, _, xr0⟩ := ix_int (ns := ns) (j := 0) (by omega)
  obtain ⟨r1, _, _, xr1⟩ := ix_int (ns := ns) (j := 1) (by omega)
  and_intros
  refine t_ixR (kq5 _ _ (by simpa using nam) ga) xr1 ?_
  and_intros
  refine ⟨p5, b, r1, us.map (·.1), ss, rfl, g5, kq5 _ _ (by simpa using nbm) gb, by rw [List.length_map]; omega, by omega, by omega, fun fs efs nd mem => ?_⟩
  have lfs : fs.length = us.length := by
   have := congrArg List.length efs
   rw [List.length_map, List.length_map] at this
   exact this
  and_intros
  intro p6 hp6; generalize e6 : up _ p6 (O.lst _) = Γ6; have g6 := al_g e6; have l6 := al_l e6 hp6
  and_intros
  refine t_ixR (l6 _ _ (kq5 _ _ (by simpa using nam) ga)) xr0 ?_
  and_intros
  obtain ⟨wz, hwz, hxz⟩ : ∃ wz : Str, (wz = "rec" ∨ wz = "pick") ∧ atI [T.str "rec", T.str "pick"] (r0 / 96 % 2) = some (.str wz) := by
   have : r0 / 96 % 2 = 0 ∨ r0 / 96 % 2 = 1 := by omega
   rcases this with e | e <;> rw [e]
   ·exact ⟨_, .inl rfl, rfl⟩
   ·exact ⟨_, .inr rfl, rfl⟩
  refine t_ixR g6 hxz ?_
  and_intros
  obtain ⟨k, ek, ok2⟩ := mk_fields (D := D) (d := deep) hwz nm nd mem (by omega) (by omega) (fun k hk => by
   rw [efs] at hk
   obtain ⟨x, hx, rfl⟩ := List.mem_map.mp hk
   have ox := okT x hx
   have dx := dU x hx
   exact ⟨ox.1, by have := ox.2.1; omega⟩) (by omega) (by omega)
  rw [ek]
  exact drop0 (le2.trans (l3.trans (l5.trans l6))) (q k ok2.1 (by have h1 := ok2.2.1; have h2 : deep + 1 ≤ D := ok2.2.2.2; have h1 : (k.depth : Int) ≤ deep + 1 := h1; omega))
 ·rintro x rr τ Γ' ⟨i, m, ms, o4, o5, o6, o7, o8, er, im, rfl, ok, ne, ml, gm', kq⟩
  obtain ⟨m', rfl, rfl, rfl⟩ := rngT3_cons er
  have ga' := kq _ _ (by simpa using nam) ga
  have gb' := kq _ _ (by simpa using nbm) gb
  obtain ⟨r, _, _, xr⟩ := ix_int (ns := ns) (j := 2 * i) (by omega)
  obtain ⟨r1, _, _, xr1⟩ := ix_int (ns := ns) (j := 2 * i + 1) (by omega)
  and_intros
  refine t_ixR ga' xr ?_
  and_intros
  have bw : 0 ≤ r % 16 ∧ r % 16 < 16 := ⟨Int.emod_nonneg _ (by decide), Int.emod_lt_of_pos _ (by decide)⟩
  generalize r % 16 = word at *
  refine t_lenR gm' ?_
  rw [List.length_map]
  and_intros
  refine t_ixR ga' xr ?_
  and_intros
  have b6 : 0 ≤ r / 16 % 6 ∧ r / 16 % 6 < 6 := ⟨Int.emod_nonneg _ (by decide), Int.emod_lt_of_pos _ (by decide)⟩
  refine ⟨fun τ Γ2 => ∃ mn : Nat, τ = [some (.ref a), some (.ref b), some (.int D), some (.ref pm), some (.int ((2 * i : Nat) : Int)), some (.int word), some (.int mn), o7, o8, none] ∧ mn ≤ ms.length ∧ mn ≤ 6 ∧ (word < 10 → mn ≤ 1) ∧ Γ2 = Γ', ?_, ?_⟩
  ·and_intros
   refine c_if (fun c => ?_) (fun c => ?_)
   ·have c := of_decide_eq_true c
    and_intros
    refine t_lenR gm' ?_
    rw [List.length_map]
    and_intros
    obtain ⟨mn, hmn⟩ : ∃ mn : Nat, (if (1 : Int) < (ms.length : Int) then (1 : Int) else (ms.length : Int)) = mn := by
     split
     ·exact ⟨1, rfl⟩
     ·exact ⟨ms.length, rfl⟩
    rw [hmn]
    have : mn ≤ ms.length ∧ mn ≤ 1 := by
     split at hmn <;> omega
    exact ⟨mn, rfl, this.1, by omega, fun _ => this.2, rfl⟩
   ·have c := of_decide_eq_false c
    and_intros
    obtain ⟨mn, hmn⟩ : ∃ mn : Nat, (if 1 + r / 16 % 6 < (ms.length : Int) then 1 + r / 16 % 6 else (ms.length : Int)) = mn := by
     split
     ·exact ⟨(1 + r / 16 % 6).toNat, by omega⟩
     ·exact ⟨ms.length, rfl⟩
    rw [hmn]
    have : mn ≤ ms.length ∧ mn ≤ 6 := by
     split at hmn <;> omega
    exact ⟨mn, rfl, this.1, this.2, fun h => absurd h c, rfl⟩
  rintro τ Γ2 ⟨mn, rfl, mn1, mn6, mn10, rfl⟩
  and_intros
  intro p2 hp2; generalize e2 : up _ p2 (O.lst _) = Γ2; have g2 := al_g e2; have l2 := al_l e2 hp2
  have gm2 := l2 _ _ gm'
  and_intros
  refine t_lenR gm2 ?_
  rw [List.length_map]
  and_intros
  refine ⟨pm, _, rfl, gm2, ?_⟩
  intro p3 hp3; generalize e3 : up _ p3 (O.lst _) = Γ3; have g3 := al_g e3; have l3 := al_l e3 hp3
  rw [cut_map, cut_drop (by omega), show ((ms.length : Int) - (mn : Int)).toNat = ms.length - mn by omega] at g3
  and_intros
  have hl3 : (ms.drop (ms.length - mn)).length = mn := by rw [List.length_drop]; omega
  obtain ⟨us, eus⟩ : ∃ us, ms.drop (ms.length - mn) = us := ⟨_, rfl⟩
  obtain ⟨ps, eps⟩ : ∃ ps, ms.take (ms.length - mn) = ps := ⟨_, rfl⟩
  have ems : ms = ps ++ us := by rw [← eps, ← eus, List.take_append_drop]
  rw [eus] at g3 hl3
  have okU : ∀ x ∈ us, MkOk ss D x := fun x hx => ok x (by rw [ems]; exact List.mem_append_right _ hx)
  refine ⟨p3, _, rfl, it3_l g3, Nat.le_of_lt (small1000 (by rw [List.length_map]; omega)), ?_⟩
  refine ⟨fun rest τ ys Γ4 => ∃ (vs ws : List (Kd × Int)) (o0 : Option T), rest = ws.map kdT ∧ us = vs ++ ws ∧ τ = [o0] ∧ ys = (vs.map (·.2)).map T.int ∧ Γ4 = Γ3, ⟨[], us, none, rfl, rfl, rfl, rfl, rfl⟩, ?_, ?_⟩
  rotate_left
  ·rintro x rr τ ys Γ4 ⟨vs, ws, o0, er4, eu, rfl, rfl, rfl⟩
   cases ws with
   | nil => cases er4
   | cons y ws =>
    cases er4
    refine ⟨it3_l g3, ?_⟩
    unfold kdT
    and_intros
    exact ⟨vs ++ [y], ws, _, rfl, by rw [eu]; simp, rfl, by rw [List.map_append, List.map_append]; rfl, rfl⟩
  rintro τ ys Γ4 ⟨vs, ws, o0, er4, eu, rfl, rfl, rfl⟩
  have hws : ws = [] := by
   cases ws with
   | nil => rfl
   | cons _ _ => cases er4
  subst hws
  rw [List.append_nil] at eu
  subst eu
  refine ⟨it3_l g3, ?_⟩
  intro p5 hp5; generalize e5 : up _ p5 (O.lst _) = Γ5; have g5 := al_g e5; have l5 := al_l e5 hp5
  refine ⟨p2, p5, [T.int 0], _, rfl, rfl, l5 _ _ (l3 _ _ g2), g5, Nat.le_of_lt (small1000 (by rw [List.length_map, List.length_map]; show 1 + us.length ≤ 1000; omega)), ?_⟩
  intro p6 hp6; generalize e6 : up _ p6 (O.lst _) = Γ6; have g6 := al_g e6; have l6 := al_l e6 hp6
  and_intros
  refine ⟨p6, 0 :: us.map fun x : Kd × Int => x.2, rfl, it3_l g6, by simp, ?_⟩
  have d0 : 0 ≤ topOf (0 :: us.map fun x : Kd × Int => x.2) := topOf_ge (by simp)
  have dU : ∀ x ∈ us, x.2 ≤ topOf (0 :: us.map fun x : Kd × Int => x.2) := fun x hx => topOf_ge (List.mem_cons_of_mem _ (List.mem_map.mpr ⟨x, hx, rfl⟩))
  generalize topOf (0 :: us.map fun x : Kd × Int => x.2) = deep at *
  have l26 : Le Γ2 Γ6 := l3.trans (l5.trans l6)
  have kq6 : Kq [pm] Γ Γ6 := kq.trans ((l2.trans l26).kq)
  have gm6 := l26 _ _ gm2
  have ga6 := kq6 _ _ (by simpa using nam) ga
  have gb6 := kq6 _ _ (by simpa using nbm) gb
  clear e2 e3 e5 e6
  and_intros
  refine ⟨fun τ Γ7 => ∃ (ms2 : List (Kd × Int)) (o8 : Option T), τ = [some (.ref a), some (.ref b), some (.int D), some (.ref pm), some (.int ((2 * i : Nat) : Int)), some (.int word), some (.int mn), some (.int deep), o8, none] ∧ (∀ x ∈ ms2, MkOk ss D x) ∧ ms2 ≠ [] ∧ ms2.length ≤ i + 1 ∧ Γ7 pm = some (.lst (ms2.map kdT)) ∧ Kq [pm] Γ Γ7, ?_, ?_⟩
  rotate_left
  ·rintro τ Γ7 ⟨ms2, o82, rfl, ok2, ne2, ml2, gm7, kq7⟩
   and_intros
   exact ⟨i + 1, m', ms2, _, _, _, _, _, by rw [show ((2 * i : Nat) : Int) + 2 = ((2 * (i + 1) : Nat) : Int) by omega], by omega, rfl, ok2, .inr ne2, ml2, gm7, kq7⟩
  and_intros
  refine c_if (fun c1 => ?_) (fun c1 => ?_)
  rotate_left
  and_intros
  refine c_if (fun c2 => ?_) (fun c2 => ?_)
  rotate_left
  and_intros
  refine c_if (fun c3 => ?_) (fun c3 => ?_)
  rotate_left
  ·have c3 := of_decide_eq_false c3
   have c2 : mn ≠ 0 := fun e => by rw [e] at c2; revert c2; decide
   have c1 := of_decide_eq_false c1
   and_intros
   refine nocut ?_
   and_intros
   refine c_if (fun c4 => ?_) (fun c4 => ?_)
   ·have c4 := of_decide_eq_true c4
    have m1 := mn10 c4
    obtain ⟨x, rfl⟩ : ∃ x, us = [x] := by
     match us, hl3 with
     | [x], _ => exact ⟨x, rfl⟩
     | [], h => exact absurd h (by simp; omega)
     | _ :: _ :: _, h => exact absurd h (by simp; omega)
    have ox := okU x (by simp)
    have dx := dU x (by simp)
    and_intros
    refine t_tyL gm6 ?_
    and_intros
    refine t_tyL gm6 ?_
    refine ⟨pm, ms.map kdT, kdT x, rfl, rfl, gm6, ?_, ?_⟩
    ·rw [ems]; simp
    unfold kdT
    and_intros
    refine ⟨pm, _, _, rfl, rfl, up_same, small1000 (by rw [List.length_dropLast, List.length_map]; omega), ?_⟩
    and_intros
    refine ⟨ps ++ [(.row x.1, deep + 1)], _, rfl, fun y hy => ?_, by simp, ?_, ?_, (kq6.trans (.set (by simp) _)).trans (.set (by simp) _)⟩
    ·rcases List.mem_append.mp hy with hy | hy
     ·exact ok y (by rw [ems]; exact List.mem_append_left _ hy)
     ·rw [List.mem_singleton.mp hy]
      refine ⟨⟨fun nd => ?_, ?_⟩, ?_, ?_, ?_⟩
      ·show Kd.good (.row x.1)
       unfold Kd.good
       exact ox.1.1 nd
      ·show Kd.fit (.row x.1)
       unfold Kd.fit
       exact ox.1.2
      ·show ((Kd.row x.1).depth : Int) ≤ deep + 1
       rw [Kd.depth]
       have := ox.2.1
       omega
      ·show 1 ≤ deep + 1; omega
      ·show deep + 1 ≤ D; omega
    ·rw [ems, List.length_append] at ml
     rw [List.length_append]
     simp only [List.length_singleton] at ml ⊢
     omega
    ·rw [up_same, ems, List.map_append, List.map_append]
     simp only [List.map_cons, List.map_nil, List.dropLast_concat]
     rw [Kd.tr]
   ·have c4 := of_decide_eq_false c4
    and_intros
    refine ⟨mn, rfl, by omega, by omega, ?_⟩
    refine ⟨Nat.le_of_lt (small1000 (by rw [rngT_len]; omega)), fun rest τ ys Γ8 => ∃ (j m : Nat) (rem dn : List (Kd × Int)) (o0 : Option T), rest = rngT j m ∧ j + m = mn ∧ ms = rem ++ dn.reverse ∧ dn.length = j ∧ τ = [o0, some (.ref pm)] ∧ ys = (dn.map (·.1)).map Kd.tr ∧ Γ8 pm = some (.lst (rem.map kdT)) ∧ Kq [pm] Γ Γ8, ⟨0, mn, ms, [], none, rfl, by omega, by simp, rfl, rfl, rfl, gm6, kq6⟩, ?_, ?_⟩
    rotate_left
    ·rintro x rr τ ys Γ8 ⟨j, m, rem, dn, o0, er8, jm, em8, dj, rfl, rfl, gm8, kq8⟩
     obtain ⟨m2, rfl, rfl, rfl⟩ := rngT_cons er8
     have hrl : rem.length + dn.length = ms.length := by rw [em8, List.length_append, List.length_reverse]
     rcases List.eq_nil_or_concat rem with e | ⟨rem', y, e⟩
     ·rw [e] at hrl; simp at hrl; omega
     subst e
     and_intros
     refine t_tyL gm8 ?_
     refine ⟨pm, (rem'.concat y).map kdT, kdT y, rfl, rfl, gm8, by simp, ?_⟩
     have ey : kdT y = .tup [y.1.tr, .int y.2] := rfl
     rw [ey]
     and_intros
     refine ⟨j + 1, m2, rem', dn ++ [y], _, rfl, by omega, by rw [em8]; simp, by rw [List.length_append, dj]; rfl, rfl, by rw [List.map_append, List.map_append]; rfl, ?_, kq8.trans (.set (by simp) _)⟩
     rw [up_same]
     simp
    rintro τ ys Γ8 ⟨j, m, rem, dn, o0, er8, jm, em8, dj, rfl, rfl, gm8, kq8⟩
    have hm := rngT_nil er8
    subst hm
    have hdl : dn.reverse.length = us.length := by rw [List.length_reverse, hl3]; omega
    obtain ⟨erem, edn⟩ := List.append_inj' (em8.symm.trans ems) hdl
    subst erem
    refine ⟨trivial, ?_⟩
    intro p9 hp9; generalize e9 : up _ p9 (O.lst _) = Γ9; have g9 := al_g e9; have l9 := al_l e9 hp9
    have kq9 := kq8.trans (l9.kq (l := [pm]))
    and_intros
    refine t_ixR (i := ((2 * i : Nat) : Int) + 1) (kq9 _ _ (by simpa using nam) ga) (by rw [show ((2 * i : Nat) : Int) + 1 = ((2 * i + 1 : Nat) : Int) by omega]; exact xr1) ?_
    and_intros
    refine ⟨p9, b, r1, dn.map (·.1), ss, rfl, g9, kq9 _ _ (by simpa using nbm) gb, by rw [List.length_map]; omega, by omega, by omega, fun fs efs nd mem => ?_⟩
    have lfs : fs.length = mn := by
     have := congrArg List.length efs
     rw [List.length_map, List.length_map] at this
     omega
    and_intros
    refine t_tyL (l9 _ _ gm8) ?_
    and_intros
    intro p10 hp10; generalize e10 : up _ p10 (O.lst _) = Γ10; have g10 := al_g e10; have l10 := al_l e10 hp10
    and_intros
    refine ⟨_, rfl, ?_⟩
    obtain ⟨wz, hwz, hxz⟩ : ∃ wz : Str, (wz = "rec" ∨ wz = "pick") ∧ atI [T.str "rec", T.str "pick"] (if decide (12 < word) = true then 1 else 0) = some (.str wz) := by
     by_cases c : decide (12 < word) = true
     ·rw [if_pos c]; exact ⟨_, .inr rfl, rfl⟩
     ·rw [if_neg c]; exact ⟨_, .inl rfl, rfl⟩
    refine t_ixR g10 hxz ?_
    and_intros
    obtain ⟨k, ek, ok2⟩ := mk_fields (D := D) (d := deep) hwz nm nd mem (by omega) (by omega) (fun k hk => by
     rw [efs] at hk
     obtain ⟨x, hx, rfl⟩ := List.mem_map.mp hk
     have hx : x ∈ us := by rw [← edn]; simpa using hx
     have ox := okU x hx
     have dx := dU x hx
     exact ⟨ox.1, by have := ox.2.1; omega⟩) d0 (by omega)
    rw [ek]
    refine ⟨pm, _, _, rfl, rfl, l10 _ _ (l9 _ _ gm8), small1000 (by rw [List.length_map]; rw [ems, List.length_append] at ml; omega), ?_⟩
    and_intros
    refine ⟨rem ++ [(k, deep + 1)], _, rfl, fun y hy => ?_, by simp, ?_, ?_, (kq9.trans l10.kq).trans (.set (by simp) _)⟩
    ·rcases List.mem_append.mp hy with hy | hy
     ·exact ok y (by rw [ems]; exact List.mem_append_left _ hy)
     ·rw [List.mem_singleton.mp hy]; exact ok2
    ·rw [ems, List.length_append] at ml
     rw [List.length_append]
     simp only [List.length_singleton] at ml ⊢
     omega
    ·rw [up_same, List.map_append]; rfl
  all_goals
   and_intros
   refine t_tyL gm6 ?_
   and_intros
   refine t_ixR ga6 xr ?_
   and_intros
   intro p7 hp7; generalize e7 : up _ p7 (O.lst _) = Γ7; have g7 := al_g e7; have l7 := al_l e7 hp7
   and_intros
   refine ⟨_, rfl, ?_⟩
   have b4 : 0 ≤ r / 16 % 4 ∧ r / 16 % 4 < 4 := ⟨Int.emod_nonneg _ (by decide), Int.emod_lt_of_pos _ (by decide)⟩
   obtain ⟨k0, hk0, gk0, dk0⟩ : ∃ k0 : Kd, atI [T.tup [.str "num", .int (1 + r / 16 % 4)], .tup [.str "text"]] (if decide (V.int (word % 3) = V.int 1) = true then 1 else 0) = some k0.tr ∧ (k0.good ∧ k0.fit) ∧ k0.depth = 1 := by
    by_cases c : decide (V.int (word % 3) = V.int 1) = true
    ·rw [if_pos c]; exact ⟨.text, by rw [Kd.tr]; rfl, ⟨by unfold Kd.good; trivial, by unfold Kd.fit; trivial⟩, by rw [Kd.depth]⟩
    ·rw [if_neg c]; exact ⟨.num (1 + r / 16 % 4), by rw [Kd.tr]; rfl, ⟨by unfold Kd.good; omega, by unfold Kd.fit; omega⟩, by rw [Kd.depth]⟩
   refine t_ixR g7 hk0 ?_
   and_intros
   refine ⟨pm, _, _, rfl, rfl, l7 _ _ gm6, small1000 (by rw [List.length_map]; omega), ?_⟩
   and_intros
   refine ⟨ms ++ [(k0, 1)], _, rfl, fun y hy => ?_, by simp, by rw [List.length_append]; show ms.length + 1 ≤ i + 1; omega, ?_, (kq6.trans l7.kq).trans (.set (by simp) _)⟩
   ·rcases List.mem_append.mp hy with hy | hy
    ·exact ok y hy
    ·rw [List.mem_singleton.mp hy]
     exact ⟨⟨fun _ => gk0.1, gk0.2⟩, by show (k0.depth : Int) ≤ 1; omega, Int.le_refl 1, D1⟩
   ·rw [up_same, List.map_append]; rfl
end
inductive Pt (Γ : Gp) : T → Prop
 | non : Pt Γ .non
 | bl (b : Bool) : Pt Γ (.bl b)
 | int (i : Int) : Pt Γ (.int i)
 | str {z : Str} (l : z.length ≤ 1000) : Pt Γ (.str z)
 | tup {ts : List T} (l : ts.length ≤ 999) (h : ∀ t ∈ ts, Pt Γ t) : Pt Γ (.tup ts)
 | lst {a : Addr} {ts : List T} (g : Γ a = some (.lst ts)) : Pt Γ (.ref a)
 | dct {a : Addr} {kvs : List (Key × T)} (g : Γ a = some (.dK kvs)) : Pt Γ (.ref a)
theorem Pt.mono {Γ Γ' : Gp} (l : Le Γ Γ') {t : T} (h : Pt Γ t) : Pt Γ' t := by
 induction h with
 | non => exact .non
 | bl b => exact .bl b
 | int i => exact .int i
 | str l => exact .str l
 | tup l _ ih => exact .tup l ih
 | lst g => exact .lst (l _ _ g)
 | dct g => exact .dct (l _ _ g)
theorem Pt.items {Γ : Gp} {ts : List T} (h : Pt Γ (.tup ts)) : ts.length ≤ 999 ∧ ∀ t ∈ ts, Pt Γ t := by
 cases h with
 | tup l h => exact ⟨l, h⟩
theorem Pt.txt {Γ : Gp} {z : Str} (h : Pt Γ (.str z)) : z.length ≤ 1000 := by
 cases h with
 | str l => exact l
def isTup : T → Bool | .tup _ => true | _ => false
def isStr : T → Bool | .str _ => true | _ => false
def isInt : T → Bool | .int _ => true | .bl _ => true | _ => false
def isBl : T → Bool | .bl _ => true | _ => false
def whB : T → Bool | .int _ => true | _ => false
theorem isTup_t {t : T} (h : isTup t = true) : ∃ ts, t = .tup ts := by
 cases t with
 | tup ts => exact ⟨ts, rfl⟩
 | _ => cases h
theorem isStr_t {t : T} (h : isStr t = true) : ∃ z, t = .str z := by
 cases t with
 | str z => exact ⟨z, rfl⟩
 | _ => cases h
theorem whB_t {t : T} (h : whB t = true) : ∃ i, t = .int i := by
 cases t with
 | int i => exact ⟨i, rfl⟩
 | _ => cases h
section
variable {K : PySem.W.Frag} {Γ : Gp} {t : T}
theorem ty_lst {a : Addr} {ts : List T} (g : Γ a = some (.lst ts)) : tyOf Γ (.ref a) = some "list" := by
 show (match Γ a with | some (.lst _) => some "list" | some (.dK _) => some "dict" | _ => none) = _
 rw [g]
theorem ty_dct {a : Addr} {ts : List (Key × T)} (g : Γ a = some (.dK ts)) : tyOf Γ (.ref a) = some "dict" := by
 show (match Γ a with | some (.lst _) => some "list" | some (.dK _) => some "dict" | _ => none) = _
 rw [g]
theorem in_tup (h : Pt Γ t) : ∃ n, tyOf Γ t = some n ∧ PySem.W.kitOne K (.type n) (.type "tuple") = some (isTup t) := by
 cases h with
 | lst g => exact ⟨_, ty_lst g, rfl⟩
 | dct g => exact ⟨_, ty_dct g, rfl⟩
 | _ => exact ⟨_, rfl, rfl⟩
theorem in_str (h : Pt Γ t) : ∃ n, tyOf Γ t = some n ∧ PySem.W.kitOne K (.type n) (.type "str") = some (isStr t) := by
 cases h with
 | lst g => exact ⟨_, ty_lst g, rfl⟩
 | dct g => exact ⟨_, ty_dct g, rfl⟩
 | _ => exact ⟨_, rfl, rfl⟩
theorem in_int (h : Pt Γ t) : ∃ n, tyOf Γ t = some n ∧ PySem.W.kitOne K (.type n) (.type "int") = some (isInt t) := by
 cases h with
 | lst g => exact ⟨_, ty_lst g, rfl⟩
 | dct g => exact ⟨_, ty_dct g, rfl⟩
 | _ => exact ⟨_, rfl, rfl⟩
theorem in_bl (h : Pt Γ t) : ∃ n, tyOf Γ t = some n ∧ PySem.W.kitOne K (.type n) (.type "bool") = some (isBl t) := by
 cases h with
 | lst g => exact ⟨_, ty_lst g, rfl⟩
 | dct g => exact ⟨_, ty_dct g, rfl⟩
 | _ => exact ⟨_, rfl, rfl⟩
theorem t_in {Ty : String} {B : T → Bool} {Q : Bool → Prop} (h : ∃ n, tyOf Γ t = some n ∧ PySem.W.kitOne K (.type n) (.type Ty) = some (B t)) (q : Q (B t)) : ∃ n b, tyOf Γ t = some n ∧ PySem.W.kitOne K (.type n) (.type Ty) = some b ∧ Q b := by
 obtain ⟨n, a, b⟩ := h
 exact ⟨n, _, a, b, q⟩
end
def goodc (c : Nat) : Bool := !(Builtin.Str.occurrences abc ⟨#[c]⟩ 0 abc.length 1).isEmpty
def nmB : T → Bool
 | .str z => decide (1 ≤ z.length) && decide (z.length ≤ 8) && z.cps.toList.all goodc
 | _ => false
theorem nmB_eq (z : Str) : nmB (.str z) = (decide (1 ≤ z.length) && decide (z.length ≤ 8) && z.cps.toList.all goodc) := rfl
theorem nmB_str {t : T} (h : nmB t = true) : ∃ z, t = .str z := by
 cases t with
 | str z => exact ⟨z, rfl⟩
 | _ => cases h
def fdB (f : T → Bool) : T → Bool
 | .tup [a, b] => nmB a && f b
 | _ => false
def nmOf : T → Str
 | .tup (.str z :: _) => z
 | _ => ""
def fdsB (f : T → Bool) : T → Bool
 | .tup ts => decide (1 ≤ ts.length) && decide (ts.length ≤ 6) && ts.all (fdB f) && decide (ts.map nmOf).Nodup
 | _ => false
def nrB : T → Bool
 | .int i => decide (1 ≤ i) && decide (i ≤ 4)
 | _ => false
def kwB : Nat → T → Bool
 | d + 1, .tup [.str h] => decide (h = "text")
 | d + 1, .tup [.str h, x] => if h = "num" then nrB x else if h = "row" then kwB d x else (decide (h = "rec") || decide (h = "pick")) && fdsB (kwB d) x
 | _, _ => false
theorem fdB_t {f : T → Bool} {t : T} (h : fdB f t = true) : ∃ z b, t = .tup [.str z, b] ∧ nmB (.str z) = true ∧ f b = true := by
 unfold fdB at h
 split at h
 ·rename_i a b
  rw [Bool.and_eq_true] at h
  obtain ⟨z, rfl⟩ := nmB_str h.1
  exact ⟨z, b, rfl, h.1, h.2⟩
 ·cases h
section
variable {P : Program} {w : World} {K : PySem.W.Frag} {mg : Str → Option Value} {base : Heap} {f : Addr} {fd : FuncData} {v1 v2 v3 : Value}
abbrev s_is_whole : Stmt := top 6
theorem sc_is_whole : FnScope ["thing"] ["thing"] (defScope s_is_whole) := ⟨rfl, rfl, rfl, by decide +kernel, rfl, by decide +kernel, by decide +kernel⟩
def spWh : Sp3 := fun ts Γ Z _ => ∃ t : T, ts = [t] ∧ Pt Γ t ∧ Z (.bl (whB t)) Γ
theorem ok_is_whole (F : Fun K "is_whole" "is_whole" s_is_whole f fd) (z_isinstance : mg "isinstance" = none) (z_int : mg "int" = none) (z_bool : mg "bool" = none) : FnOk P w K mg base CX0 1 f fd ["thing"] (liSp spWh) := by
 refine okd F sc_is_whole (fun ts Γ Z Y h => ?_) (fun cdv A outer s H E ts Γ Z Y hr h => ?_)
 ·obtain ⟨t, rfl, _⟩ := h
  rfl
 obtain ⟨t, rfl, pt, q⟩ := h
 refine ⟨_, (qss_cons (qs_ret (qe_and (qe_inst rfl z_isinstance rfl z_int bt_int (qv 0)) (qe_one (qe_not (qe_inst rfl z_isinstance rfl z_bool bt_bool (qv 0))))))
  qss_nil), ?_⟩
 simp only [start3]
 and_intros
 refine t_in (in_int pt) ?_
 and_intros
 refine c_if (fun c => ?_) (fun c => ?_)
 ·and_intros
  refine t_in (in_bl pt) ?_
  and_intros
  refine drop0 .refl ?_
  cases t with
  | int i => exact q
  | bl b => exact q
  | _ => cases c
 ·refine drop0 .refl ?_
  cases t with
  | int i => cases c
  | bl b => cases c
  | _ => exact q
abbrev s_is_name : Stmt := top 7
theorem sc_is_name : FnScope ["thing"] ["thing"] (defScope s_is_name) := ⟨rfl, rfl, rfl, by decide +kernel, rfl, by decide +kernel, by decide +kernel⟩
def spNmB : Sp3 := fun ts Γ Z _ => ∃ t : T, ts = [t] ∧ Pt Γ t ∧ Z (.bl (nmB t)) Γ
theorem ok_is_name (F : Fun K "is_name" "is_name" s_is_name f fd) (m_LONGEST_NAME : mg "LONGEST_NAME" = some v1) (g_LONGEST_NAME : GlobIs v1 (.int 8)) (m_LETTERS : mg "LETTERS" = some v2) (g_LETTERS : GlobIs v2 (.str abc)) (z_isinstance : mg "isinstance" = none) (z_str : mg "str" = none) (z_len : mg "len" = none) (z_all : mg "all" = none) : FnOk P w K mg base CX0 1 f fd ["thing"] (liSp spNmB) := by
 refine okd F sc_is_name (fun ts Γ Z Y h => ?_) (fun cdv A outer s H E ts Γ Z Y hr h => ?_)
 ·obtain ⟨t, rfl, _⟩ := h
  rfl
 obtain ⟨t, rfl, pt, q⟩ := h
 refine ⟨_, (qss_cons (qs_if (PW.pt (qw_or (qt_not (qt_val (qe_inst rfl z_isinstance rfl z_str bt_str (qv 0)))) (qw_or1 (qt_not (qt_chain oq_le oq_le qe_int (qe_callB cq_lens rfl z_len PySem.boot_len (qa_cons (qv 0) qa_nil)) (qe_glob rfl m_LONGEST_NAME g_LONGEST_NAME)))))) (qss_cons (qs_ret qe_bl)
  qss_nil) qss_nil)
  (qss_cons (qs_ret (qe_callB (cq_all rfl) rfl z_all PyProof.Rows.boot_all (qa_cons (qe_comp (own := ["sign"]) (cap := []) (compOk0 rfl (by decide +kernel) (by decide +kernel)) rfl (qi_str (qv 0)) (fun _ _ _ _ => (qg_name (i := 0) (show List.Nodup (["sign"] : List Str) from by decide +kernel) rfl (Or.inl rfl) (Or.inr rfl))) (fun _ _ _ _ => qts_nil) (fun _ _ _ _ => (qe_cmpR oq_ins (qv 0) (qe_glob rfl m_LETTERS g_LETTERS) (by with_unfolding_all rfl)))) qa_nil)))
  qss_nil)), ?_⟩
 simp only [start3]
 and_intros
 refine t_in (in_str pt) ?_
 and_intros
 refine c_if (fun c => ?_) (fun c => ?_)
 ·and_intros
  refine drop0 .refl ?_
  cases t with
  | str z => cases c
  | _ => exact q
 obtain ⟨z, rfl⟩ := isStr_t (t := t) (by cases h : isStr t with | true => rfl | false => rw [h] at c; cases c)
 have zl := pt.txt
 and_intros
 refine ⟨z, rfl, Nat.le_of_lt (small1000 zl), ?_⟩
 and_intros
 have no : nmB (.str z) = false → dropK Z (.bl false) Γ := fun h => by rw [h] at q; exact drop0 .refl q
 refine c_if (fun c1 => ?_) (fun c1 => ?_)
 rotate_left
 ·have c1 := of_decide_eq_false c1
  and_intros
  refine no ?_
  rw [nmB_eq, decide_eq_false (show ¬ 1 ≤ z.length by omega)]
  rfl
 have c1 := of_decide_eq_true c1
 and_intros
 refine c_if (fun c2 => ?_) (fun c2 => ?_)
 ·have c2 : ¬ (z.length : Int) ≤ 8 := by simpa using c2
  and_intros
  refine no ?_
  rw [nmB_eq, decide_eq_false (show ¬ z.length ≤ 8 by omega), Bool.and_false]
  rfl
 have c2 : (z.length : Int) ≤ 8 := by simpa using c2
 and_intros
 refine ⟨Nat.le_of_lt (small1000 (by unfold signsT; rw [List.length_map, len_codes]; omega)), ?_⟩
 refine ⟨fun rest τ ys Γ' => ∃ (cs ds : List Nat) (o : Option T), rest = cs.map (fun c => T.str ⟨#[c]⟩) ∧ z.cps.toList = ds ++ cs ∧ τ = [o] ∧ ys = (ds.map goodc).map T.bl ∧ Γ' = Γ, ⟨z.cps.toList, [], none, rfl, rfl, rfl, rfl, rfl⟩, ?_, ?_⟩
 ·rintro τ ys Γ' ⟨cs, ds, o, er, ez, rfl, rfl, rfl⟩
  have hz : cs = [] := by
   cases cs with
   | nil => rfl
   | cons _ _ => cases er
  subst hz
  rw [List.append_nil] at ez
  subst ez
  refine ⟨trivial, ?_⟩
  intro p1 hp1; generalize e1 : up _ p1 (O.lst _) = Γ1; have g1 := al_g e1; have l1 := al_l e1 hp1
  and_intros
  refine ⟨p1, _, rfl, it3_l g1, ?_⟩
  have : (z.cps.toList.map goodc).all id = nmB (.str z) := by
   rw [nmB_eq, decide_eq_true (show 1 ≤ z.length by omega), decide_eq_true (show z.length ≤ 8 by omega), List.all_map]
   rfl
  rw [this]
  exact drop0 l1 q
 ·rintro x r τ ys Γ' ⟨cs, ds, o, er, ez, rfl, rfl, rfl⟩
  cases cs with
  | nil => cases er
  | cons c cs =>
   cases er
   refine ⟨trivial, ?_⟩
   and_intros
   refine ⟨_, _, rfl, rfl, ?_⟩
   exact ⟨cs, ds ++ [c], _, rfl, by rw [ez]; simp, rfl, by rw [List.map_append, List.map_append]; rfl, rfl⟩
abbrev s_is_field : Stmt := top 11
theorem sc_is_field : FnScope ["thing", "depth"] ["thing", "depth"] (defScope s_is_field) := ⟨rfl, rfl, rfl, by decide +kernel, rfl, by decide +kernel, by decide +kernel⟩
def spFd (n : Nat) : Sp3 := fun ts Γ Z _ => ∃ (t : T) (d : Nat), ts = [t, .int d] ∧ d < n ∧ Pt Γ t ∧ Z (.bl (fdB (kwB d) t)) Γ
def spKw (n : Nat) : Sp3 := fun ts Γ Z _ => ∃ (t : T) (d : Nat), ts = [t, .int d] ∧ d < n ∧ Pt Γ t ∧ Z (.bl (kwB d t)) Γ
theorem fdB_no {f : T → Bool} {ts : List T} (h : ts.length ≠ 2) : fdB f (.tup ts) = false := by
 unfold fdB
 split
 ·rename_i e; cases e; exact absurd rfl h
 ·rfl
theorem ok_is_field {n lv : Nat} (F : Fun K "is_field" "is_field" s_is_field f fd) (c_is_name : Cl3 P w K mg base "is_name" 1 ["thing"] spNmB) (c_is_kind_within : Cl3 P w K mg base "is_kind_within" (lv + 1) ["thing", "depth"] (spKw n)) (z_isinstance : mg "isinstance" = none) (z_tuple : mg "tuple" = none) (z_len : mg "len" = none) : FnOk P w K mg base CX0 (lv + 2) f fd ["thing", "depth"] (liSp (spFd n)) := by
 refine okd F sc_is_field (fun ts Γ Z Y h => ?_) (fun cdv A outer s H E ts Γ Z Y hr h => ?_)
 ·obtain ⟨t, d, rfl, _⟩ := h
  rfl
 obtain ⟨t, d, rfl, dn, pt, q⟩ := h
 refine ⟨_, (qss_cons (qs_if (PW.pt (qw_or (qt_not (qt_val (qe_inst rfl z_isinstance rfl z_tuple bt_tuple (qv 0)))) (qw_or1 (qt_cmpR oq_ne (qe_callB cq_len rfl z_len PySem.boot_len (qa_cons (qv 0) qa_nil)) qe_int (nomark _))))) (qss_cons (qs_ret qe_bl)
  qss_nil) qss_nil)
  (qss_cons (qs_ret (qe_and (qe_call c_is_name hr (by omega) rfl (qa_cons (qe_ix (qv 0) qe_int (fun _ _ => rfl)) qa_nil)) (qe_one (qe_call c_is_kind_within hr (by omega) rfl (qa_cons (qe_ix (qv 0) qe_int (fun _ _ => rfl)) (qa_cons (qv 1) qa_nil))))))
  qss_nil)), ?_⟩
 simp only [start3]
 and_intros
 refine t_in (in_tup pt) ?_
 and_intros
 refine c_if (fun c => ?_) (fun c => ?_)
 ·and_intros
  refine drop0 .refl ?_
  cases t with
  | tup ts => cases c
  | _ => exact q
 obtain ⟨ts, rfl⟩ := isTup_t (t := t) (by cases h : isTup t with | true => rfl | false => rw [h] at c; cases c)
 obtain ⟨tl, tm⟩ := pt.items
 and_intros
 refine c_if (fun c1 => ?_) (fun c1 => ?_)
 ·have c1 : ts.length ≠ 2 := fun e => by rw [e] at c1; revert c1; decide
  and_intros
  rw [fdB_no c1] at q
  exact drop0 .refl q
 have c1 : ts.length = 2 := by
  have : decide (V.int (ts.length : Int) = V.int 2) = true := by simpa using c1
  have := d_int this
  omega
 match ts, c1 with
 | [a, b], _ =>
  and_intros
  refine ⟨a, rfl, tm a (by simp), ?_⟩
  and_intros
  have q : Z (.bl (nmB a && kwB d b)) Γ := q
  refine c_if (fun c2 => ?_) (fun c2 => ?_)
  ·rw [c2, Bool.true_and] at q
   and_intros
   exact ⟨b, d, rfl, dn, tm b (by simp), drop0 .refl q⟩
  ·rw [c2, Bool.false_and] at q
   exact drop0 .refl q
abbrev s_are_fields : Stmt := top 10
theorem sc_are_fields : FnScope ["thing", "depth"] ["thing", "depth"] (defScope s_are_fields) := ⟨rfl, rfl, rfl, by decide +kernel, rfl, by decide +kernel, by decide +kernel⟩
def spFs (n : Nat) : Sp3 := fun ts Γ Z _ => ∃ (t : T) (d : Nat), ts = [t, .int d] ∧ d < n ∧ Pt Γ t ∧ Z (.bl (fdsB (kwB d) t)) Γ
theorem fdsB_eq (f : T → Bool) (ts : List T) : fdsB f (.tup ts) = (decide (1 ≤ ts.length) && decide (ts.length ≤ 6) && ts.all (fdB f) && decide (ts.map nmOf).Nodup) := rfl
theorem ok_are_fields {n lv : Nat} (F : Fun K "are_fields" "are_fields" s_are_fields f fd) (m_MOST_FIELDS : mg "MOST_FIELDS" = some v1) (g_MOST_FIELDS : GlobIs v1 (.int 6)) (c_is_field : Cl3 P w K mg base "is_field" (lv + 2) ["thing", "depth"] (spFd n)) (z_isinstance : mg "isinstance" = none) (z_tuple : mg "tuple" = none) (z_len : mg "len" = none) (z_all : mg "all" = none) : FnOk P w K mg base CX0 (lv + 3) f fd ["thing", "depth"] (liSp (spFs n)) := by
 refine okd F sc_are_fields (fun ts Γ Z Y h => ?_) (fun cdv A outer s H E ts Γ Z Y hr h => ?_)
 ·obtain ⟨t, d, rfl, _⟩ := h
  rfl
 obtain ⟨t, d, rfl, dn, pt, q⟩ := h
 refine ⟨_, (qss_cons (qs_if (PW.pt (qw_or (qt_not (qt_val (qe_inst rfl z_isinstance rfl z_tuple bt_tuple (qv 0)))) (qw_or1 (qt_not (qt_chain oq_le oq_le qe_int (qe_callB cq_len rfl z_len PySem.boot_len (qa_cons (qv 0) qa_nil)) (qe_glob rfl m_MOST_FIELDS g_MOST_FIELDS)))))) (qss_cons (qs_ret qe_bl)
  qss_nil) qss_nil)
  (qss_cons (qs_if (qt_not (qt_val (qe_callB (cq_all rfl) rfl z_all PyProof.Rows.boot_all (qa_cons (qe_comp (own := ["field"]) (cap := [(1, "depth")]) (compOkC rfl (by decide +kernel) (by decide +kernel) rfl (⟨rfl, trivial⟩) rfl (⟨⟨rfl, rfl, rfl⟩, trivial⟩)) rfl (qi_tup (qv 0)) (fun _ _ _ _ => (qg_name (i := 0) (show List.Nodup (["field", "depth"] : List Str) from by decide +kernel) rfl (Or.inl rfl) (Or.inr rfl))) (fun _ _ _ _ => qts_nil) (fun _ _ _ _ => (qe_call c_is_field hr (by omega) rfl (qa_cons (qv 0) (qa_cons (qv 1) qa_nil))))) qa_nil)))) (qss_cons (qs_ret qe_bl)
  qss_nil) qss_nil)
  (qss_cons (qs_ret (qe_cmpR oq_eq (qe_callB cq_lenS rfl z_len PySem.boot_len (qa_cons (qe_setc (own := ["name", "inner"]) (cap := []) (compOk0 rfl (by decide +kernel) (by decide +kernel)) rfl (qi_tup (qv 0)) (fun _ _ _ _ => (qg_tup (n := 2) rfl (qgs_cons (qg_name (i := 0) (show List.Nodup (["name", "inner"] : List Str) from by decide +kernel) rfl (Or.inl rfl) (Or.inr rfl)) (qgs_cons (qg_name (i := 1) (show List.Nodup (["name", "inner"] : List Str) from by decide +kernel) rfl (Or.inl rfl) (Or.inr rfl)) qgs_nil)))) (fun _ _ _ _ => (qv 0))) qa_nil)) (qe_callB cq_len rfl z_len PySem.boot_len (qa_cons (qv 0) qa_nil)) (nomark _)))
  qss_nil))), ?_⟩
 simp only [start3]
 and_intros
 refine t_in (in_tup pt) ?_
 and_intros
 refine c_if (fun c => ?_) (fun c => ?_)
 ·and_intros
  refine drop0 .refl ?_
  cases t with
  | tup ts => cases c
  | _ => exact q
 obtain ⟨ts, rfl⟩ := isTup_t (t := t) (by cases h : isTup t with | true => rfl | false => rw [h] at c; cases c)
 obtain ⟨tl, tm⟩ := pt.items
 have no : fdsB (kwB d) (.tup ts) = false → dropK Z (.bl false) Γ := fun h => by rw [h] at q; exact drop0 .refl q
 and_intros
 refine c_if (fun c1 => ?_) (fun c1 => ?_)
 rotate_left
 ·have c1 := of_decide_eq_false c1
  and_intros
  refine no ?_
  rw [fdsB_eq, decide_eq_false (show ¬ 1 ≤ ts.length by omega)]
  rfl
 have c1 := of_decide_eq_true c1
 and_intros
 refine c_if (fun c2 => ?_) (fun c2 => ?_)
 ·have c2 : ¬ (ts.length : Int) ≤ 6 := by simpa using c2
  and_intros
  refine no ?_
  rw [fdsB_eq, decide_eq_false (show ¬ ts.length ≤ 6 by omega), Bool.and_false]
  rfl
 have c2 : (ts.length : Int) ≤ 6 := by simpa using c2
 rw [fdsB_eq, decide_eq_true (show 1 ≤ ts.length by omega), decide_eq_true (show ts.length ≤ 6 by omega), Bool.true_and, Bool.true_and] at q
 clear no
 and_intros
 refine ⟨Nat.le_of_lt (small1000 (by omega)), ?_⟩
 refine ⟨fun rest τ ys Γ' => ∃ (ds : List T) (o : Option T), ts = ds ++ rest ∧ τ = [o, some (.int d)] ∧ ys = (ds.map (fdB (kwB d))).map T.bl ∧ Γ' = Γ, ⟨[], none, rfl, rfl, rfl, rfl⟩, ?_, ?_⟩
 rotate_left
 ·rintro x r τ ys Γ' ⟨ds, o, ez, rfl, rfl, rfl⟩
  refine ⟨trivial, ?_⟩
  and_intros
  refine ⟨x, d, rfl, dn, tm x (by rw [ez]; simp), ?_⟩
  exact ⟨ds ++ [x], _, by rw [ez]; simp, rfl, by rw [List.map_append, List.map_append]; rfl, rfl⟩
 rintro τ ys Γ' ⟨ds, o, ez, rfl, rfl, rfl⟩
 rw [List.append_nil] at ez
 subst ez
 refine ⟨trivial, ?_⟩
 intro p1 hp1; generalize e1 : up _ p1 (O.lst _) = Γ1; have g1 := al_g e1; have l1 := al_l e1 hp1
 and_intros
 refine ⟨p1, _, rfl, it3_l g1, ?_⟩
 rw [show (ts.map (fdB (kwB d))).all id = ts.all (fdB (kwB d)) by rw [List.all_map]; rfl]
 and_intros
 refine c_if (fun c3 => ?_) (fun c3 => ?_)
 ·have c3 : ts.all (fdB (kwB d)) = false := by simpa using c3
  and_intros
  rw [c3, Bool.false_and] at q
  exact drop0 l1 q
 have c3 : ts.all (fdB (kwB d)) = true := by simpa using c3
 rw [c3, Bool.true_and] at q
 have all := List.all_eq_true.mp c3
 and_intros
 unfold eSetc
 and_intros
 refine ⟨by omega, ?_⟩
 refine ⟨fun rest τ ys Γ' => ∃ (ds : List T) (o0 o1 : Option T), ts = ds ++ rest ∧ τ = [o0, o1] ∧ ys = ds.map nmOf ∧ Γ' = Γ1, ⟨[], none, none, rfl, rfl, rfl, rfl⟩, ?_, ?_⟩
 rotate_left
 ·rintro x r τ ys Γ' ⟨ds, o0, o1, ez, rfl, rfl, rfl⟩
  obtain ⟨z, b, rfl, _, _⟩ := fdB_t (all x (by rw [ez]; simp))
  refine ⟨trivial, ?_⟩
  and_intros
  exact ⟨ds ++ [.tup [.str z, b]], _, _, by rw [ez]; simp, rfl, by rw [List.map_append]; rfl, rfl⟩
 rintro τ ys Γ' ⟨ds, o0, o1, ez, rfl, rfl, rfl⟩
 rw [List.append_nil] at ez
 subst ez
 refine ⟨trivial, fun D S n on hD => ?_⟩
 and_intros
 refine ⟨D, S, n, rfl, up_same, ?_⟩
 and_intros
 have : decide (V.int (n : Int) = V.int (ts.length : Nat)) = decide (ts.map nmOf).Nodup := by
  have e : (V.int (n : Int) = V.int (ts.length : Nat)) ↔ (ts.map nmOf).Nodup := by
   rcases on.2 with ⟨a, b⟩ | ⟨a, b⟩
   ·rw [List.length_map] at b
    exact ⟨fun _ => a, fun _ => by rw [b]⟩
   ·rw [List.length_map] at b
    exact ⟨fun h => by have := V.int.inj h; omega, fun h => absurd h a⟩
  exact decide_eq_decide.mpr e
 rw [this]
 exact drop0 (l1.trans (.new hD)) q
abbrev s_is_kind_within : Stmt := top 9
theorem sc_is_kind_within : FnScope ["thing", "depth", "head", "inner"] ["thing", "depth"] (defScope s_is_kind_within) := ⟨rfl, rfl, rfl, by decide +kernel, rfl, by decide +kernel, by decide +kernel⟩
theorem inV_12 (n : Nat) : inV (.int (n : Int)) [.int 1, .int 2] = (decide (n = 1) || decide (n = 2)) := by
 rw [Bool.eq_iff_iff]
 simp [inV, eqV]
 omega
theorem inV_rp (z : Str) : inV (.str z) [.str "rec", .str "pick"] = (decide (z = "rec") || decide (z = "pick")) := by
 rw [show [V.str "rec", V.str "pick"] = (["rec", "pick"] : List Str).map V.str from rfl, inV_strs, Bool.eq_iff_iff]
 simp
theorem kwB_len {d : Nat} {ts : List T} (h : ts.length ≠ 1) (h' : ts.length ≠ 2) : kwB d (.tup ts) = false := by
 unfold kwB
 split
 ·rename_i e; cases e; exact absurd rfl h
 ·rename_i e; cases e; exact absurd rfl h'
 ·rfl
theorem kwB_hd {d : Nat} {t : T} {ts : List T} (h : isStr t = false) : kwB d (.tup (t :: ts)) = false := by
 unfold kwB
 split
 ·rename_i e; cases e; cases h
 ·rename_i e; cases e; cases h
 ·rfl
theorem kwB_no {d : Nat} {t : T} (h : isTup t = false) : kwB d t = false := by
 unfold kwB
 split
 ·cases h
 ·cases h
 ·rfl
theorem kwB_1 (d : Nat) (h : Str) : kwB (d + 1) (.tup [.str h]) = decide (h = "text") := by rw [kwB]
theorem kwB_2 (d : Nat) (h : Str) (x : T) : kwB (d + 1) (.tup [.str h, x]) = if h = "num" then nrB x else if h = "row" then kwB d x else (decide (h = "rec") || decide (h = "pick")) && fdsB (kwB d) x := by rw [kwB]
theorem ok_is_kw {n lv : Nat} (F : Fun K "is_kind_within" "is_kind_within" s_is_kind_within f fd) (m_WIDEST_NUM : mg "WIDEST_NUM" = some v1) (g_WIDEST_NUM : GlobIs v1 (.int 4)) (c_is_whole : Cl3 P w K mg base "is_whole" 1 ["thing"] spWh) (c_is_kind_within : Cl3 P w K mg base "is_kind_within" (lv + 1) ["thing", "depth"] (spKw n)) (c_are_fields : Cl3 P w K mg base "are_fields" (lv + 3) ["thing", "depth"] (spFs n)) (z_isinstance : mg "isinstance" = none) (z_tuple : mg "tuple" = none) (z_str : mg "str" = none) (z_len : mg "len" = none) : FnOk P w K mg base CX0 (lv + 4) f fd ["thing", "depth"] (liSp (spKw (n + 1))) := by
 refine okd F sc_is_kind_within (fun ts Γ Z Y h => ?_) (fun cdv A outer s H E ts Γ Z Y hr h => ?_)
 ·obtain ⟨t, d, rfl, _⟩ := h
  rfl
 obtain ⟨t, d, rfl, dn, pt, q⟩ := h
 refine ⟨_, (qss_cons (qs_if (PW.pt (qw_or (qt_cmpR oq_lt (qv 1) qe_int (nomark _)) (qw_or (qt_not (qt_val (qe_inst rfl z_isinstance rfl z_tuple bt_tuple (qv 0)))) (qw_or1 (qt_cmpR oq_nin (qe_callB cq_len rfl z_len PySem.boot_len (qa_cons (qv 0) qa_nil)) (qe_tup (qa_cons qe_int (qa_cons qe_int qa_nil))) (by with_unfolding_all rfl)))))) (qss_cons (qs_ret qe_bl)
  qss_nil) qss_nil)
  (qss_cons (qs_set (i := 2) sc_is_kind_within.nd rfl (Or.inl rfl) (qe_ix (qv 0) qe_int (fun _ _ => rfl)))
  (qss_cons (qs_if (qt_not (qt_val (qe_inst rfl z_isinstance rfl z_str bt_str (qv 2)))) (qss_cons (qs_ret qe_bl)
  qss_nil) qss_nil)
  (qss_cons (qs_if (qt_cmpR oq_eq (qe_callB cq_len rfl z_len PySem.boot_len (qa_cons (qv 0) qa_nil)) qe_int (nomark _)) (qss_cons (qs_ret (qe_cmpR oq_eq (qv 2) qe_str (nomark _)))
  qss_nil) qss_nil)
  (qss_cons (qs_set (i := 3) sc_is_kind_within.nd rfl (Or.inl rfl) (qe_ix (qv 0) qe_int (fun _ _ => rfl)))
  (qss_cons (qs_if (qt_cmpR oq_eq (qv 2) qe_str (nomark _)) (qss_cons (qs_ret (qe_and (qe_call c_is_whole hr (by omega) rfl (qa_cons (qv 3) qa_nil)) (qe_one (qe_chain oq_le oq_le qe_int (qv 3) (qe_glob rfl m_WIDEST_NUM g_WIDEST_NUM)))))
  qss_nil) qss_nil)
  (qss_cons (qs_if (qt_cmpR oq_eq (qv 2) qe_str (nomark _)) (qss_cons (qs_ret (qe_call c_is_kind_within hr (by omega) rfl (qa_cons (qv 3) (qa_cons (qe_op oq_sub (qv 1) qe_int) qa_nil))))
  qss_nil) qss_nil)
  (qss_cons (qs_ret (qe_and (qe_cmpR oq_in (qv 2) (qe_tup (qa_cons qe_str (qa_cons qe_str qa_nil))) (by with_unfolding_all rfl)) (qe_one (qe_call c_are_fields hr (by omega) rfl (qa_cons (qv 3) (qa_cons (qe_op oq_sub (qv 1) qe_int) qa_nil))))))
  qss_nil)))))))), ?_⟩
 simp only [start3]
 have no : kwB d t = false → dropK Z (.bl false) Γ := fun h => by rw [h] at q; exact drop0 .refl q
 and_intros
 refine c_if (fun c => ?_) (fun c => ?_)
 ·have c := of_decide_eq_true c
  have : d = 0 := by omega
  subst this
  and_intros
  exact no (by unfold kwB; rfl)
 have c := of_decide_eq_false c
 obtain ⟨d, rfl⟩ : ∃ e, d = e + 1 := ⟨d - 1, by omega⟩
 and_intros
 refine t_in (in_tup pt) ?_
 and_intros
 refine c_if (fun c => ?_) (fun c => ?_)
 ·and_intros
  exact no (kwB_no (by simpa using c))
 obtain ⟨ts, rfl⟩ := isTup_t (t := t) (by simpa using c)
 obtain ⟨tl, tm⟩ := pt.items
 and_intros
 show if (!inV (.int (ts.length : Int)) [.int 1, .int 2]) = true then _ else _
 rw [inV_12]
 refine c_if (fun c1 => ?_) (fun c1 => ?_)
 ·and_intros
  have c1 : ts.length ≠ 1 ∧ ts.length ≠ 2 := by simpa using c1
  exact no (kwB_len c1.1 c1.2)
 have c1 : ts.length = 1 ∨ ts.length = 2 := by
  have : ¬ ts.length = 1 → ts.length = 2 := by simpa using c1
  omega
 obtain ⟨h, ys, rfl⟩ : ∃ h ys, ts = h :: ys := by
  cases ts with
  | nil => exact absurd c1 (by simp)
  | cons h ys => exact ⟨h, ys, rfl⟩
 and_intros
 refine t_in (in_str (tm h (by simp))) ?_
 and_intros
 refine c_if (fun c2 => ?_) (fun c2 => ?_)
 ·and_intros
  exact no (kwB_hd (by simpa using c2))
 obtain ⟨z, rfl⟩ := isStr_t (t := h) (by simpa using c2)
 clear no
 and_intros
 match ys, c1 with
 | [], _ =>
  and_intros
  rw [kwB_1] at q
  have e : decide (V.str z = V.str "text") = decide (z = "text") := decide_eq_decide.mpr ⟨V.str.inj, fun e => by rw [e]⟩
  rw [e]
  exact drop0 .refl q
 | [x], _ =>
  have px := tm x (by simp)
  rw [kwB_2] at q
  and_intros
  refine c_if (fun c3 => ?_) (fun c3 => ?_)
  ·rw [if_pos (d_str c3)] at q
   and_intros
   refine ⟨x, rfl, px, ?_⟩
   and_intros
   refine c_if (fun c4 => ?_) (fun c4 => ?_)
   ·obtain ⟨i, rfl⟩ := whB_t c4
    and_intros
    have q : Z (.bl (decide (1 ≤ i) && decide (i ≤ 4))) Γ := q
    refine c_if (fun c5 => ?_) (fun c5 => ?_)
    ·rw [c5, Bool.true_and] at q
     and_intros
     exact drop0 .refl q
    ·rw [c5, Bool.false_and] at q
     exact drop0 .refl q
   ·have : nrB x = false := by
     cases x with
     | int i => cases c4
     | _ => rfl
    rw [this] at q
    exact drop0 .refl q
  rw [if_neg (d_strN c3)] at q
  and_intros
  refine c_if (fun c4 => ?_) (fun c4 => ?_)
  ·rw [if_pos (d_str c4)] at q
   and_intros
   exact ⟨x, d, by rw [show ((d + 1 : Nat) : Int) - 1 = (d : Int) by omega], by omega, px, drop0 .refl q⟩
  rw [if_neg (d_strN c4)] at q
  and_intros
  show if inV (.str z) [.str "rec", .str "pick"] = true then _ else _
  rw [inV_rp]
  refine c_if (fun c5 => ?_) (fun c5 => ?_)
  ·rw [c5, Bool.true_and] at q
   and_intros
   exact ⟨x, d, by rw [show ((d + 1 : Nat) : Int) - 1 = (d : Int) by omega], by omega, px, drop0 .refl q⟩
  ·rw [c5, Bool.false_and] at q
   exact drop0 .refl q
abbrev s_is_kind : Stmt := top 8
theorem sc_is_kind : FnScope ["thing"] ["thing"] (defScope s_is_kind) := ⟨rfl, rfl, rfl, by decide +kernel, rfl, by decide +kernel, by decide +kernel⟩
def spIk : Sp3 := fun ts Γ Z _ => ∃ t : T, ts = [t] ∧ Pt Γ t ∧ Z (.bl (kwB 5 t)) Γ
theorem ok_is_kind (F : Fun K "is_kind" "is_kind" s_is_kind f fd) (m_DEEPEST_KIND : mg "DEEPEST_KIND" = some v1) (g_DEEPEST_KIND : GlobIs v1 (.int 5)) (c_is_kind_within : Cl3 P w K mg base "is_kind_within" 19 ["thing", "depth"] (spKw 6)) : FnOk P w K mg base CX0 20 f fd ["thing"] (liSp spIk) := by
 refine okd F sc_is_kind (fun ts Γ Z Y h => ?_) (fun cdv A outer s H E ts Γ Z Y hr h => ?_)
 ·obtain ⟨t, rfl, _⟩ := h
  rfl
 obtain ⟨t, rfl, pt, q⟩ := h
 refine ⟨_, (qss_cons (qs_ret (qe_call c_is_kind_within hr (by omega) rfl (qa_cons (qv 0) (qa_cons (qe_glob rfl m_DEEPEST_KIND g_DEEPEST_KIND) qa_nil))))
  qss_nil), ?_⟩
 simp only [start3]
 and_intros
 exact ⟨t, 5, rfl, by decide, pt, drop0 .refl q⟩
end
abbrev waysL : List Str := ["copy", "give", "lend", "lease"]
def sdB : T → Bool
 | .int i => decide (i = 0) || decide (i = 1)
 | _ => false
def wyB : T → Bool
 | .str z => decide (z ∈ waysL)
 | _ => false
def plB : T → Bool
 | .tup [a, b, c] => nmB a && (wyB b && kwB 5 c)
 | _ => false
def plsB : T → Bool
 | .tup ts => ts.all plB && decide (ts.map nmOf).Nodup
 | _ => false
def reB : T → Bool
 | .non => true
 | t => kwB 5 t
def paB : T → Bool
 | .tup [a, b, c, d] => nmB a && (sdB b && (plsB c && reB d))
 | _ => false
theorem plB_no {ts : List T} (h : ts.length ≠ 3) : plB (.tup ts) = false := by
 unfold plB
 split
 ·rename_i e; cases e; exact absurd rfl h
 ·rfl
theorem paB_no {ts : List T} (h : ts.length ≠ 4) : paB (.tup ts) = false := by
 unfold paB
 split
 ·rename_i e; cases e; exact absurd rfl h
 ·rfl
theorem plB_t {t : T} (h : plB t = true) : ∃ z b c, t = .tup [.str z, b, c] := by
 unfold plB at h
 split at h
 ·rename_i a b c
  rw [Bool.and_eq_true] at h
  obtain ⟨z, rfl⟩ := nmB_str h.1
  exact ⟨z, b, c, rfl⟩
 ·cases h
theorem plsB_eq (ts : List T) : plsB (.tup ts) = (ts.all plB && decide (ts.map nmOf).Nodup) := rfl
theorem inV_01 (i : Int) : inV (.int i) [.int 0, .int 1] = sdB (.int i) := by
 show _ = (decide (i = 0) || decide (i = 1))
 rw [Bool.eq_iff_iff]
 simp [inV, eqV]
 omega
section
variable {P : Program} {w : World} {K : PySem.W.Frag} {mg : Str → Option Value} {base : Heap} {f aS aW : Addr} {fd : FuncData} {v1 v2 v3 : Value}
abbrev s_is_side : Stmt := top 16
theorem sc_is_side : FnScope ["thing"] ["thing"] (defScope s_is_side) := ⟨rfl, rfl, rfl, by decide +kernel, rfl, by decide +kernel, by decide +kernel⟩
def spSd : Sp3 := fun ts Γ Z _ => ∃ t : T, ts = [t] ∧ Pt Γ t ∧ Z (.bl (sdB t)) Γ
theorem ok_is_side (F : Fun K "is_side" "is_side" s_is_side f fd) (c_is_whole : Cl3 P w K mg base "is_whole" 1 ["thing"] spWh) (m_SIDES : mg "SIDES" = some (.ref aS)) (k_SIDES : KTup K aS [.int 0, .int 1]) : FnOk P w K mg base CX0 2 f fd ["thing"] (liSp spSd) := by
 have g_SIDES : GlobIs (.ref aS) (.ref aS) := gl_ref
 refine okd F sc_is_side (fun ts Γ Z Y h => ?_) (fun cdv A outer s H E ts Γ Z Y hr h => ?_)
 ·obtain ⟨t, rfl, _⟩ := h
  rfl
 obtain ⟨t, rfl, pt, q⟩ := h
 refine ⟨_, (qss_cons (qs_ret (qe_and (qe_call c_is_whole hr (by omega) rfl (qa_cons (qv 0) qa_nil)) (qe_one (qe_cmpR (oq_inK k_SIDES rfl) (qv 0) (qe_glob rfl m_SIDES g_SIDES) (by with_unfolding_all rfl)))))
  qss_nil), ?_⟩
 simp only [start3]
 and_intros
 refine ⟨t, rfl, pt, ?_⟩
 and_intros
 refine c_if (fun c => ?_) (fun c => ?_)
 ·obtain ⟨i, rfl⟩ := whB_t c
  and_intros
  refine ⟨_, rfl, rfl, rfl, ?_⟩
  rw [inV_01]
  exact drop0 .refl q
 ·have : sdB t = false := by
   cases t with
   | int i => cases c
   | _ => rfl
  rw [this] at q
  exact drop0 .refl q
abbrev s_is_place : Stmt := top 18
theorem sc_is_place : FnScope ["thing", "name", "way", "kind"] ["thing"] (defScope s_is_place) := ⟨rfl, rfl, rfl, by decide +kernel, rfl, by decide +kernel, by decide +kernel⟩
def spPc : Sp3 := fun ts Γ Z _ => ∃ t : T, ts = [t] ∧ Pt Γ t ∧ Z (.bl (plB t)) Γ
theorem ok_is_place (F : Fun K "is_place" "is_place" s_is_place f fd) (c_is_name : Cl3 P w K mg base "is_name" 1 ["thing"] spNmB) (c_is_kind : Cl3 P w K mg base "is_kind" 20 ["thing"] spIk) (m_WAYS : mg "WAYS" = some (.ref aW)) (k_WAYS : KTup K aW (waysL.map V.str)) (z_isinstance : mg "isinstance" = none) (z_tuple : mg "tuple" = none) (z_str : mg "str" = none) (z_len : mg "len" = none) : FnOk P w K mg base CX0 21 f fd ["thing"] (liSp spPc) := by
 have g_WAYS : GlobIs (.ref aW) (.ref aW) := gl_ref
 refine okd F sc_is_place (fun ts Γ Z Y h => ?_) (fun cdv A outer s H E ts Γ Z Y hr h => ?_)
 ·obtain ⟨t, rfl, _⟩ := h
  rfl
 obtain ⟨t, rfl, pt, q⟩ := h
 refine ⟨_, (qss_cons (qs_if (PW.pt (qw_or (qt_not (qt_val (qe_inst rfl z_isinstance rfl z_tuple bt_tuple (qv 0)))) (qw_or1 (qt_cmpR oq_ne (qe_callB cq_len rfl z_len PySem.boot_len (qa_cons (qv 0) qa_nil)) qe_int (nomark _))))) (qss_cons (qs_ret qe_bl)
  qss_nil) qss_nil)
  (qss_cons (qs_asg (qv 0) (qg_tup (n := 3) rfl (qgs_cons (qg_name (i := 1) sc_is_place.nd rfl (Or.inl rfl)) (qgs_cons (qg_name (i := 2) sc_is_place.nd rfl (Or.inl rfl)) (qgs_cons (qg_name (i := 3) sc_is_place.nd rfl (Or.inl rfl)) qgs_nil)))))
  (qss_cons (qs_ret (qe_and (qe_call c_is_name hr (by omega) rfl (qa_cons (qv 1) qa_nil)) (qe_and (qe_inst rfl z_isinstance rfl z_str bt_str (qv 2)) (qe_and (qe_cmpR (oq_inK k_WAYS rfl) (qv 2) (qe_glob rfl m_WAYS g_WAYS) (by with_unfolding_all rfl)) (qe_one (qe_call c_is_kind hr (by omega) rfl (qa_cons (qv 3) qa_nil)))))))
  qss_nil))), ?_⟩
 simp only [start3]
 and_intros
 refine t_in (in_tup pt) ?_
 and_intros
 refine c_if (fun c => ?_) (fun c => ?_)
 ·and_intros
  refine drop0 .refl ?_
  cases t with
  | tup ts => cases c
  | _ => exact q
 obtain ⟨ts, rfl⟩ := isTup_t (t := t) (by simpa using c)
 obtain ⟨tl, tm⟩ := pt.items
 and_intros
 refine c_if (fun c1 => ?_) (fun c1 => ?_)
 ·have c1 : ts.length ≠ 3 := fun e => by rw [e] at c1; revert c1; decide
  and_intros
  rw [plB_no c1] at q
  exact drop0 .refl q
 have c1 : ts.length = 3 := by
  have : decide (V.int (ts.length : Int) = V.int 3) = true := by simpa using c1
  have := d_int this
  omega
 match ts, c1 with
 | [a, b, c], _ =>
  have q : Z (.bl (nmB a && (wyB b && kwB 5 c))) Γ := q
  and_intros
  refine ⟨a, rfl, tm a (by simp), ?_⟩
  and_intros
  refine c_if (fun c2 => ?_) (fun c2 => ?_)
  rotate_left
  ·rw [c2, Bool.false_and] at q
   exact drop0 .refl q
  rw [c2, Bool.true_and] at q
  and_intros
  refine t_in (in_str (tm b (by simp))) ?_
  and_intros
  refine c_if (fun c3 => ?_) (fun c3 => ?_)
  rotate_left
  ·have : wyB b = false := by
    cases b with
    | str z => cases c3
    | _ => rfl
   rw [this, Bool.false_and] at q
   exact drop0 .refl q
  obtain ⟨z, rfl⟩ := isStr_t c3
  and_intros
  refine ⟨.str z, rfl, rfl, rfl, ?_⟩
  rw [inV_strs]
  have q : Z (.bl (decide (z ∈ waysL) && kwB 5 c)) Γ := q
  and_intros
  refine c_if (fun c4 => ?_) (fun c4 => ?_)
  rotate_left
  ·rw [c4, Bool.false_and] at q
   exact drop0 .refl q
  rw [c4, Bool.true_and] at q
  and_intros
  exact ⟨c, rfl, tm c (by simp), drop0 .refl q⟩
abbrev s_are_places : Stmt := top 17
theorem sc_are_places : FnScope ["thing"] ["thing"] (defScope s_are_places) := ⟨rfl, rfl, rfl, by decide +kernel, rfl, by decide +kernel, by decide +kernel⟩
def spPls : Sp3 := fun ts Γ Z _ => ∃ t : T, ts = [t] ∧ Pt Γ t ∧ Z (.bl (plsB t)) Γ
theorem ok_are_places (F : Fun K "are_places" "are_places" s_are_places f fd) (c_is_place : Cl3 P w K mg base "is_place" 21 ["thing"] spPc) (z_isinstance : mg "isinstance" = none) (z_tuple : mg "tuple" = none) (z_len : mg "len" = none) (z_all : mg "all" = none) : FnOk P w K mg base CX0 22 f fd ["thing"] (liSp spPls) := by
 refine okd F sc_are_places (fun ts Γ Z Y h => ?_) (fun cdv A outer s H E ts Γ Z Y hr h => ?_)
 ·obtain ⟨t, rfl, _⟩ := h
  rfl
 obtain ⟨t, rfl, pt, q⟩ := h
 refine ⟨_, (qss_cons (qs_if (PW.pt (qw_or (qt_not (qt_val (qe_inst rfl z_isinstance rfl z_tuple bt_tuple (qv 0)))) (qw_or1 (qt_not (qt_val (qe_callB (cq_all rfl) rfl z_all PyProof.Rows.boot_all (qa_cons (qe_comp (own := ["place"]) (cap := []) (compOk0 rfl (by decide +kernel) (by decide +kernel)) rfl (qi_tup (qv 0)) (fun _ _ _ _ => (qg_name (i := 0) (show List.Nodup (["place"] : List Str) from by decide +kernel) rfl (Or.inl rfl) (Or.inr rfl))) (fun _ _ _ _ => qts_nil) (fun _ _ _ _ => (qe_call c_is_place hr (by omega) rfl (qa_cons (qv 0) qa_nil)))) qa_nil))))))) (qss_cons (qs_ret qe_bl)
  qss_nil) qss_nil)
  (qss_cons (qs_ret (qe_cmpR oq_eq (qe_callB cq_lenS rfl z_len PySem.boot_len (qa_cons (qe_setc (own := ["name", "way", "kind"]) (cap := []) (compOk0 rfl (by decide +kernel) (by decide +kernel)) rfl (qi_tup (qv 0)) (fun _ _ _ _ => (qg_tup (n := 3) rfl (qgs_cons (qg_name (i := 0) (show List.Nodup (["name", "way", "kind"] : List Str) from by decide +kernel) rfl (Or.inl rfl) (Or.inr rfl)) (qgs_cons (qg_name (i := 1) (show List.Nodup (["name", "way", "kind"] : List Str) from by decide +kernel) rfl (Or.inl rfl) (Or.inr rfl)) (qgs_cons (qg_name (i := 2) (show List.Nodup (["name", "way", "kind"] : List Str) from by decide +kernel) rfl (Or.inl rfl) (Or.inr rfl)) qgs_nil))))) (fun _ _ _ _ => (qv 0))) qa_nil)) (qe_callB cq_len rfl z_len PySem.boot_len (qa_cons (qv 0) qa_nil)) (nomark _)))
  qss_nil)), ?_⟩
 simp only [start3]
 and_intros
 refine t_in (in_tup pt) ?_
 and_intros
 refine c_if (fun c => ?_) (fun c => ?_)
 ·and_intros
  refine drop0 .refl ?_
  cases t with
  | tup ts => cases c
  | _ => exact q
 obtain ⟨ts, rfl⟩ := isTup_t (t := t) (by simpa using c)
 obtain ⟨tl, tm⟩ := pt.items
 rw [plsB_eq] at q
 and_intros
 refine ⟨Nat.le_of_lt (small1000 (by omega)), ?_⟩
 refine ⟨fun rest τ ys Γ' => ∃ (ds : List T) (o : Option T), ts = ds ++ rest ∧ τ = [o] ∧ ys = (ds.map plB).map T.bl ∧ Γ' = Γ, ⟨[], none, rfl, rfl, rfl, rfl⟩, ?_, ?_⟩
 rotate_left
 ·rintro x r τ ys Γ' ⟨ds, o, ez, rfl, rfl, rfl⟩
  refine ⟨trivial, ?_⟩
  and_intros
  refine ⟨x, rfl, tm x (by rw [ez]; simp), ?_⟩
  exact ⟨ds ++ [x], _, by rw [ez]; simp, rfl, by rw [List.map_append, List.map_append]; rfl, rfl⟩
 rintro τ ys Γ' ⟨ds, o, ez, rfl, rfl, rfl⟩
 rw [List.append_nil] at ez
 subst ez
 refine ⟨trivial, ?_⟩
 intro p1 hp1; generalize e1 : up _ p1 (O.lst _) = Γ1; have g1 := al_g e1; have l1 := al_l e1 hp1
 and_intros
 refine ⟨p1, _, rfl, it3_l g1, ?_⟩
 rw [show (ts.map plB).all id = ts.all plB by rw [List.all_map]; rfl]
 and_intros
 refine c_if (fun c3 => ?_) (fun c3 => ?_)
 ·have c3 : ts.all plB = false := by simpa using c3
  and_intros
  rw [c3, Bool.false_and] at q
  exact drop0 l1 q
 have c3 : ts.all plB = true := by simpa using c3
 rw [c3, Bool.true_and] at q
 have all := List.all_eq_true.mp c3
 and_intros
 unfold eSetc
 and_intros
 refine ⟨by omega, ?_⟩
 refine ⟨fun rest τ ys Γ' => ∃ (ds : List T) (o0 o1 o2 : Option T), ts = ds ++ rest ∧ τ = [o0, o1, o2] ∧ ys = ds.map nmOf ∧ Γ' = Γ1, ⟨[], none, none, none, rfl, rfl, rfl, rfl⟩, ?_, ?_⟩
 rotate_left
 ·rintro x r τ ys Γ' ⟨ds, o0, o1, o2, ez, rfl, rfl, rfl⟩
  obtain ⟨z, b, c, rfl⟩ := plB_t (all x (by rw [ez]; simp))
  refine ⟨trivial, ?_⟩
  and_intros
  exact ⟨ds ++ [.tup [.str z, b, c]], _, _, _, by rw [ez]; simp, rfl, by rw [List.map_append]; rfl, rfl⟩
 rintro τ ys Γ' ⟨ds, o0, o1, o2, ez, rfl, rfl, rfl⟩
 rw [List.append_nil] at ez
 subst ez
 refine ⟨trivial, fun D S n on hD => ?_⟩
 and_intros
 refine ⟨D, S, n, rfl, up_same, ?_⟩
 and_intros
 have : decide (V.int (n : Int) = V.int (ts.length : Nat)) = decide (ts.map nmOf).Nodup := by
  have e : (V.int (n : Int) = V.int (ts.length : Nat)) ↔ (ts.map nmOf).Nodup := by
   rcases on.2 with ⟨a, b⟩ | ⟨a, b⟩
   ·rw [List.length_map] at b
    exact ⟨fun _ => a, fun _ => by rw [b]⟩
   ·rw [List.length_map] at b
    exact ⟨fun h => by have := V.int.inj h; omega, fun h => absurd h a⟩
  exact decide_eq_decide.mpr e
 rw [this]
 exact drop0 (l1.trans (.new hD)) q
abbrev s_is_paper : Stmt := top 15
theorem sc_is_paper : FnScope ["thing", "name", "side", "places", "result"] ["thing"] (defScope s_is_paper) := ⟨rfl, rfl, rfl, by decide +kernel, rfl, by decide +kernel, by decide +kernel⟩
def spIp : Sp3 := fun ts Γ Z _ => ∃ t : T, ts = [t] ∧ Pt Γ t ∧ Z (.bl (paB t)) Γ
theorem ok_is_paper (F : Fun K "is_paper" "is_paper" s_is_paper f fd) (c_is_name : Cl3 P w K mg base "is_name" 1 ["thing"] spNmB) (c_is_side : Cl3 P w K mg base "is_side" 2 ["thing"] spSd) (c_are_places : Cl3 P w K mg base "are_places" 22 ["thing"] spPls) (c_is_kind : Cl3 P w K mg base "is_kind" 20 ["thing"] spIk) (z_isinstance : mg "isinstance" = none) (z_tuple : mg "tuple" = none) (z_len : mg "len" = none) : FnOk P w K mg base CX0 23 f fd ["thing"] (liSp spIp) := by
 refine okd F sc_is_paper (fun ts Γ Z Y h => ?_) (fun cdv A outer s H E ts Γ Z Y hr h => ?_)
 ·obtain ⟨t, rfl, _⟩ := h
  rfl
 obtain ⟨t, rfl, pt, q⟩ := h
 refine ⟨_, (qss_cons (qs_if (PW.pt (qw_or (qt_not (qt_val (qe_inst rfl z_isinstance rfl z_tuple bt_tuple (qv 0)))) (qw_or1 (qt_cmpR oq_ne (qe_callB cq_len rfl z_len PySem.boot_len (qa_cons (qv 0) qa_nil)) qe_int (nomark _))))) (qss_cons (qs_ret qe_bl)
  qss_nil) qss_nil)
  (qss_cons (qs_asg (qv 0) (qg_tup (n := 4) rfl (qgs_cons (qg_name (i := 1) sc_is_paper.nd rfl (Or.inl rfl)) (qgs_cons (qg_name (i := 2) sc_is_paper.nd rfl (Or.inl rfl)) (qgs_cons (qg_name (i := 3) sc_is_paper.nd rfl (Or.inl rfl)) (qgs_cons (qg_name (i := 4) sc_is_paper.nd rfl (Or.inl rfl)) qgs_nil))))))
  (qss_cons (qs_if (PW.pt (qw_or (qt_not (qt_val (qe_call c_is_name hr (by omega) rfl (qa_cons (qv 1) qa_nil)))) (qw_or (qt_not (qt_val (qe_call c_is_side hr (by omega) rfl (qa_cons (qv 2) qa_nil)))) (qw_or1 (qt_not (qt_val (qe_call c_are_places hr (by omega) rfl (qa_cons (qv 3) qa_nil)))))))) (qss_cons (qs_ret qe_bl)
  qss_nil) qss_nil)
  (qss_cons (qs_ret (qe_or (qe_cmpR oq_isN (qv 4) qe_non (nomark _)) (qe_one (qe_call c_is_kind hr (by omega) rfl (qa_cons (qv 4) qa_nil)))))
  qss_nil)))), ?_⟩
 simp only [start3]
 and_intros
 refine t_in (in_tup pt) ?_
 and_intros
 refine c_if (fun c => ?_) (fun c => ?_)
 ·and_intros
  refine drop0 .refl ?_
  cases t with
  | tup ts => cases c
  | _ => exact q
 obtain ⟨ts, rfl⟩ := isTup_t (t := t) (by simpa using c)
 obtain ⟨tl, tm⟩ := pt.items
 and_intros
 refine c_if (fun c1 => ?_) (fun c1 => ?_)
 ·have c1 : ts.length ≠ 4 := fun e => by rw [e] at c1; revert c1; decide
  and_intros
  rw [paB_no c1] at q
  exact drop0 .refl q
 have c1 : ts.length = 4 := by
  have : decide (V.int (ts.length : Int) = V.int 4) = true := by simpa using c1
  have := d_int this
  omega
 match ts, c1 with
 | [a, b, c, d], _ =>
  have q : Z (.bl (nmB a && (sdB b && (plsB c && reB d)))) Γ := q
  and_intros
  refine ⟨a, rfl, tm a (by simp), ?_⟩
  and_intros
  refine c_if (fun c2 => ?_) (fun c2 => ?_)
  ·and_intros
   rw [show nmB a = false by simpa using c2, Bool.false_and] at q
   exact drop0 .refl q
  rw [show nmB a = true by simpa using c2, Bool.true_and] at q
  and_intros
  refine ⟨b, rfl, tm b (by simp), ?_⟩
  and_intros
  refine c_if (fun c3 => ?_) (fun c3 => ?_)
  ·and_intros
   rw [show sdB b = false by simpa using c3, Bool.false_and] at q
   exact drop0 .refl q
  rw [show sdB b = true by simpa using c3, Bool.true_and] at q
  and_intros
  refine ⟨c, rfl, tm c (by simp), ?_⟩
  and_intros
  refine c_if (fun c4 => ?_) (fun c4 => ?_)
  ·and_intros
   rw [show plsB c = false by simpa using c4, Bool.false_and] at q
   exact drop0 .refl q
  rw [show plsB c = true by simpa using c4, Bool.true_and] at q
  and_intros
  refine c_if (fun c5 => ?_) (fun c5 => ?_)
  ·have : d = .non := by
    cases d with
    | non => rfl
    | _ => cases c5
   rw [this] at q
   exact drop0 .refl q
  ·have : reB d = kwB 5 d := by
    cases d with
    | non => cases c5
    | _ => rfl
   rw [this] at q
   and_intros
   exact ⟨d, rfl, tm d (by simp), drop0 .refl q⟩
end
structure Pa where
 nm : Str
 sd : Int
 ps : List (Str × Str × Kd)
 re : Option Kd
def plT (q : Str × Str × Kd) : T := .tup [.str q.1, .str q.2.1, q.2.2.tr]
def reT : Option Kd → T
 | none => .non
 | some k => k.tr
def Pa.tr (p : Pa) : T := .tup [.str p.nm, .int p.sd, .tup (p.ps.map plT), reT p.re]
abbrev manyL : List Int := [0, 1, 2, 3, 4, 6, 9, 1]
def mny (r : Int) : Nat := ([0, 1, 2, 3, 4, 6, 9, 1] : List Nat).getD (r % 8).toNat 0
theorem mny_at (r : Int) : atI (manyL.map T.int) (r % 8) = some (.int (mny r : Nat)) ∧ mny r ≤ 9 := by
 have h0 := Int.emod_nonneg r (by decide : (8 : Int) ≠ 0)
 have h1 := Int.emod_lt_of_pos r (by decide : (0 : Int) < 8)
 unfold mny
 have : r % 8 = 0 ∨ r % 8 = 1 ∨ r % 8 = 2 ∨ r % 8 = 3 ∨ r % 8 = 4 ∨ r % 8 = 5 ∨ r % 8 = 6 ∨ r % 8 = 7 := by omega
 rcases this with e | e | e | e | e | e | e | e <;> rw [e] <;> exact ⟨rfl, by decide⟩
structure PlG (ss : List Str) (D : Int) (q : Str × Str × Kd) : Prop where
 wy : q.2.1 ∈ waysL
 kg : GF ss q.2.2
 kd : (q.2.2.depth : Int) ≤ D
structure PaG (ss : List Str) (D : Int) (p : Pa) : Prop where
 nm : p.nm ∈ ss
 sd : p.sd = 0 ∨ p.sd = 1
 pn : ∀ q ∈ p.ps, q.1 ∈ ss
 ps : ∀ q ∈ p.ps, PlG ss D q
 nd : ss.Nodup → (p.ps.map (·.1)).Nodup
 re : ∀ k, p.re = some k → GF ss k ∧ (k.depth : Int) ≤ D
section
variable {P : Program} {w : World} {K : PySem.W.Frag} {mg : Str → Option Value} {base : Heap} {f C : Addr} {fd : FuncData} {v1 v2 v3 : Value}
abbrev s_law_paper : Stmt := top 25
theorem sc_law_paper : FnScope ["row", "names", "deepest", "many", "ordered", "places", "far", "k", "some", "way", "steps", "result"] ["row", "names", "deepest"] (defScope s_law_paper) := ⟨rfl, rfl, rfl, by decide +kernel, rfl, by decide +kernel, by decide +kernel⟩
def spPap : Sp3 := fun ts Γ Z _ => ∃ (a b : Addr) (D : Int) (ns : List Int) (ss : List Str) (r0 : Int), ts = [.ref a, .ref b, .int D] ∧ Γ a = some (.lst (ns.map T.int)) ∧ Γ b = some (.lst (ss.map T.str)) ∧ ns[0]? = some r0 ∧ ns.length = 28 + 6 * mny r0 ∧ ss.length = 9 ∧ (∀ z ∈ ss, Nm z) ∧ 1 ≤ D ∧
 ∀ pa : Pa, PaG ss D pa → pa.ps.length = mny r0 → Z pa.tr Γ
theorem ok_paper (F : Fun K "_law_paper" "_law_paper" s_law_paper f fd) (c_law_kind : Cl3 P w K mg base "_law_kind" 2 ["row", "names", "deepest"] spKb) (z_range : mg "range" = none) (z_tuple : mg "tuple" = none) : FnOk P w K mg base CX0 3 f fd ["row", "names", "deepest"] (liSp spPap) := by
 refine okd F sc_law_paper (fun ts Γ Z Y h => ?_) (fun cdv A outer s H E ts Γ Z Y hr h => ?_)
 ·obtain ⟨a, b, D, ns, ss, r0, rfl, _⟩ := h
  rfl
 obtain ⟨a, b, D, ns, ss, r0, rfl, ga, gb, e0, nl, s9, nm, D1, q⟩ := h
 refine ⟨_, (qss_cons (qs_set (i := 3) sc_law_paper.nd rfl (Or.inl rfl) (qe_ix (qe_lst (qa_cons qe_int (qa_cons qe_int (qa_cons qe_int (qa_cons qe_int (qa_cons qe_int (qa_cons qe_int (qa_cons qe_int (qa_cons qe_int qa_nil))))))))) (qe_op oq_mod (qe_ix (qv 0) qe_int (fun _ _ => rfl)) qe_int) (fun _ _ => rfl)))
  (qss_cons (qs_set (i := 4) sc_law_paper.nd rfl (Or.inl rfl) (qe_op oq_catL (qe_slice sq_list (qv 1) (qo_some (qe_op oq_mod (qe_ix (qv 0) qe_int (fun _ _ => rfl)) qe_int)) qo_none) (qe_slice sq_list (qv 1) qo_none (qo_some (qe_op oq_mod (qe_ix (qv 0) qe_int (fun _ _ => rfl)) qe_int)))))
  (qss_cons (qs_cut (qs_if (qt_cmpR oq_eq (qe_op oq_mod (qe_op oq_fdiv (qe_ix (qv 0) qe_int (fun _ _ => rfl)) qe_int) qe_int) qe_int (nomark _)) (qss_cons (qs_set (i := 4) sc_law_paper.nd rfl (Or.inl rfl) (qe_revL (qv 4) (qe_neg qe_int)))
  qss_nil) qss_nil))
  (qss_cons (qs_set (i := 5) sc_law_paper.nd rfl (Or.inl rfl) (qe_lst qa_nil))
  (qss_cons (qs_set (i := 6) sc_law_paper.nd rfl (Or.inl rfl) (qe_slice sq_list (qv 0) (qo_some (qe_op oq_add qe_int (qe_op oq_mul qe_int (qv 3)))) qo_none))
  (qss_cons (qs_for PassesOwn.never rfl (qi_range1 rfl z_range (qa_cons (qv 3) qa_nil)) (qg_name (i := 7) sc_law_paper.nd rfl (Or.inl rfl)) (qss_cons (qs_set (i := 8) sc_law_paper.nd rfl (Or.inl rfl) (qe_slice sq_list (qv 0) (qo_some (qe_op oq_add qe_int (qe_op oq_mul qe_int (qv 7)))) (qo_some (qe_op oq_add qe_int (qe_op oq_mul qe_int (qv 7))))))
  (qss_cons (qs_set (i := 9) sc_law_paper.nd rfl (Or.inl rfl) (qe_ix (qe_lst (qa_cons qe_str (qa_cons qe_str (qa_cons qe_str (qa_cons qe_str qa_nil))))) (qe_op oq_mod (qe_ix (qv 8) qe_int (fun _ _ => rfl)) qe_int) (fun _ _ => rfl)))
  (qss_cons (qs_set (i := 10) sc_law_paper.nd rfl (Or.inl rfl) (qe_slice sq_list (qv 8) qo_none (qo_some (qe_op oq_add qe_int (qe_op oq_mul qe_int (qe_op oq_mod (qe_ix (qv 8) qe_int (fun _ _ => rfl)) qe_int))))))
  (qss_cons (qs_cut (qs_if (qt_cmpR oq_eq (qv 7) (qe_op oq_mod (qe_op oq_fdiv (qe_ix (qv 0) qe_int (fun _ _ => rfl)) qe_int) (qv 3)) (nomark _)) (qss_cons (qs_set (i := 10) sc_law_paper.nd rfl (Or.inl rfl) (qe_slice sq_list (qv 6) (qo_some qe_int) (qo_some (qe_op oq_add qe_int (qe_ix (qe_lst (qa_cons qe_int (qa_cons qe_int (qa_cons qe_int qa_nil)))) (qe_op oq_mod (qe_op oq_fdiv (qe_ix (qv 0) qe_int (fun _ _ => rfl)) qe_int) qe_int) (fun _ _ => rfl))))))
  qss_nil) qss_nil))
  (qss_cons (qs_expr (qe_bm PySem.F.plainAttrs_list PySem.F.slot_list_append PySem.F.type_list_append mq_append (qv 5) (qa_cons (qe_tup (qa_cons (qe_ix (qv 4) (qv 7) (fun _ _ => rfl)) (qa_cons (qv 9) (qa_cons (qe_call c_law_kind hr (by omega) rfl (qa_cons (qv 10) (qa_cons (qv 1) (qa_cons (qv 2) qa_nil)))) qa_nil)))) qa_nil)))
  qss_nil))))))
  (qss_cons (qs_set (i := 11) sc_law_paper.nd rfl (Or.inl rfl) qe_non)
  (qss_cons (qs_cut (qs_if (qt_cmpR oq_gt (qe_op oq_mod (qe_ix (qv 0) qe_int (fun _ _ => rfl)) qe_int) qe_int (nomark _)) (qss_cons (qs_set (i := 11) sc_law_paper.nd rfl (Or.inl rfl) (qe_call c_law_kind hr (by omega) rfl (qa_cons (qe_slice sq_list (qv 6) qo_none (qo_some (qe_ix (qe_lst (qa_cons qe_int (qa_cons qe_int (qa_cons qe_int qa_nil)))) (qe_op oq_mod (qe_op oq_fdiv (qe_ix (qv 0) qe_int (fun _ _ => rfl)) qe_int) qe_int) (fun _ _ => rfl)))) (qa_cons (qv 1) (qa_cons (qv 2) qa_nil)))))
  qss_nil) qss_nil))
  (qss_cons (qs_ret (qe_tup (qa_cons (qe_ix (qv 1) (qe_op oq_mod (qe_op oq_fdiv (qe_ix (qv 0) qe_int (fun _ _ => rfl)) qe_int) qe_int) (fun _ _ => rfl)) (qa_cons (qe_op oq_mod (qe_ix (qv 0) qe_int (fun _ _ => rfl)) qe_int) (qa_cons (qe_callTy cq_tuple rfl z_tuple bt_tuple (qa_cons (qv 5) qa_nil)) (qa_cons (qv 11) qa_nil))))))
  qss_nil))))))))), ?_⟩
 simp only [start3]
 have x0 : atI (ns.map T.int) 0 = some (.int r0) := atI_nat (j := 0) (by rw [List.getElem?_map, e0]; rfl)
 obtain ⟨r1, _, _, x1⟩ := ix_int (ns := ns) (j := 1) (by omega)
 obtain ⟨r2, _, _, x2⟩ := ix_int (ns := ns) (j := 2) (by omega)
 obtain ⟨r3, _, _, x3⟩ := ix_int (ns := ns) (j := 3) (by omega)
 obtain ⟨hmn, m9⟩ := mny_at r0
 generalize mny r0 = mn at *
 and_intros
 intro p1 hp1; generalize e1 : up _ p1 (O.lst _) = Γ1; have g1 := al_g e1; have l1 := al_l e1 hp1
 and_intros
 refine t_ixR (l1 _ _ ga) x0 ?_
 and_intros
 refine t_ixR g1 hmn ?_
 and_intros
 refine t_ixR (l1 _ _ ga) x1 ?_
 and_intros
 have b9 : 0 ≤ r1 % 9 ∧ r1 % 9 < 9 := ⟨Int.emod_nonneg _ (by decide), Int.emod_lt_of_pos _ (by decide)⟩
 refine ⟨b, _, rfl, l1 _ _ gb, ?_⟩
 intro p2 hp2; generalize e2 : up _ p2 (O.lst _) = Γ2; have g2 := al_g e2; have l2 := al_l e2 hp2
 rw [cut_map, cut_drop b9.1] at g2
 have l02 := l1.trans l2
 and_intros
 refine t_ixR (l02 _ _ ga) x1 ?_
 and_intros
 refine ⟨b, _, rfl, l02 _ _ gb, ?_⟩
 intro p3 hp3; generalize e3 : up _ p3 (O.lst _) = Γ3; have g3 := al_g e3; have l3 := al_l e3 hp3
 rw [cut_map, cut_take b9.1] at g3
 refine ⟨p2, p3, _, _, rfl, rfl, l3 _ _ g2, g3, Nat.le_of_lt (small1000 (by rw [List.length_map, List.length_map, List.length_drop, List.length_take]; omega)), ?_⟩
 intro p4 hp4; generalize e4 : up _ p4 (O.lst _) = Γ4; have g4 := al_g e4; have l4 := al_l e4 hp4
 rw [← List.map_append] at g4
 have pm4 : (ss.drop (r1 % 9).toNat ++ ss.take (r1 % 9).toNat).Perm ss := by
  have := (List.perm_append_comm (l₁ := ss.drop (r1 % 9).toNat) (l₂ := ss.take (r1 % 9).toNat))
  rw [List.take_append_drop] at this
  exact this
 generalize ss.drop (r1 % 9).toNat ++ ss.take (r1 % 9).toNat = os0 at *
 have l04 := l02.trans (l3.trans l4)
 clear e1 e2 e3 e4
 and_intros
 refine ⟨fun τ Γ' => ∃ (po : Addr) (os : List Str), τ = [some (.ref a), some (.ref b), some (.int D), some (.int (mn : Nat)), some (.ref po), none, none, none, none, none, none, none] ∧ os.Perm ss ∧ Γ' po = some (.lst (os.map T.str)) ∧ Le Γ Γ', ?_, ?_⟩
 ·and_intros
  refine t_ixR (l04 _ _ ga) x1 ?_
  and_intros
  refine c_if (fun c => ?_) (fun c => ?_)
  ·and_intros
   refine ⟨rfl, p4, _, rfl, it3_l g4, ?_⟩
   intro p5 hp5; generalize e5 : up _ p5 (O.lst _) = Γ5; have g5 := al_g e5; have l5 := al_l e5 hp5
   and_intros
   exact ⟨p5, os0.reverse, rfl, (List.reverse_perm _).trans pm4, by rw [List.map_reverse]; exact g5, l04.trans l5⟩
  ·and_intros
   exact ⟨p4, os0, rfl, pm4, g4, l04⟩
 rintro τ Γ5 ⟨po, os, rfl, pm, go, l05⟩
 and_intros
 intro pp hpp; generalize e6 : up _ pp (O.lst _) = Γ6; have gp := al_g e6; have l6 := al_l e6 hpp
 have l06 := l05.trans l6
 and_intros
 refine ⟨a, _, rfl, l06 _ _ ga, ?_⟩
 intro pf hpf; generalize e7 : up _ pf (O.lst _) = Γ7; have gf := al_g e7; have l7 := al_l e7 hpf
 rw [cut_map, cut_drop (by omega)] at gf
 have lfr : (ns.drop (4 + 6 * (mn : Int)).toNat).length = 24 := by rw [List.length_drop]; omega
 generalize ns.drop (4 + 6 * (mn : Int)).toNat = fr at *
 have bp : Γ pp = none := le_none l05 hpp
 have nap : a ≠ pp := gnn ga bp
 have nbp : b ≠ pp := gnn gb bp
 have nop : po ≠ pp := gnn go hpp
 have nfp : pf ≠ pp := (gnn gp hpf).symm
 have ol : os.length = 9 := by rw [pm.length_eq, s9]
 and_intros
 refine ⟨mn, rfl, by omega, by omega, ?_⟩
 refine ⟨fun rest τ Γ' => ∃ (i m : Nat) (qs : List (Str × Str × Kd)) (o7 o8 o9 o10 : Option T), rest = rngT i m ∧ i + m = mn ∧ τ = [some (.ref a), some (.ref b), some (.int D), some (.int (mn : Nat)), some (.ref po), some (.ref pp), some (.ref pf), o7, o8, o9, o10, none] ∧ qs.length = i ∧ qs.map (·.1) = os.take i ∧ (∀ x ∈ qs, PlG ss D x) ∧ Γ' pp = some (.lst (qs.map plT)) ∧ Γ' po = some (.lst (os.map T.str)) ∧ Γ' pf = some (.lst (fr.map T.int)) ∧ Kq [pp] Γ Γ', ⟨0, mn, [], none, none, none, none, rfl, by omega, rfl, rfl, rfl, fun _ h => (nomatch h), l7 _ _ gp, l7 _ _ (l6 _ _ go), gf, (l06.trans l7).kq⟩, ?_, ?_⟩
 rotate_left
 ·rintro x rr τ Γ' ⟨i, m, qs, o7, o8, o9, o10, er, im, rfl, ql, qn, qok, gp', go', gf', kq⟩
  obtain ⟨m', rfl, rfl, rfl⟩ := rngT_cons er
  have ga' := kq _ _ (by simpa using nap) ga
  have gb' := kq _ _ (by simpa using nbp) gb
  and_intros
  refine ⟨a, _, rfl, ga', ?_⟩
  intro q1 hq1; generalize e1 : up _ q1 (O.lst _) = Δ1; have h1 := al_g e1; have k1 := al_l e1 hq1
  rw [cut_map, cut_mid (by omega) (by omega)] at h1
  have l6s : ((ns.drop (4 + 6 * (i : Int)).toNat).take ((10 + 6 * (i : Int)).toNat - (4 + 6 * (i : Int)).toNat)).length = 6 := by rw [List.length_take, List.length_drop]; omega
  generalize (ns.drop (4 + 6 * (i : Int)).toNat).take ((10 + 6 * (i : Int)).toNat - (4 + 6 * (i : Int)).toNat) = sm at *
  obtain ⟨s5, _, _, y5⟩ := ix_int (ns := sm) (j := 5) (by omega)
  obtain ⟨s4, _, _, y4⟩ := ix_int (ns := sm) (j := 4) (by omega)
  and_intros
  intro q2 hq2; generalize e2 : up _ q2 (O.lst _) = Δ2; have h2 := al_g e2; have k2 := al_l e2 hq2
  and_intros
  refine t_ixR (k2 _ _ h1) y5 ?_
  and_intros
  obtain ⟨wt, hwt, mwt⟩ := at_some (xs := waysL.map T.str) (r := s5 % 4) (Int.emod_nonneg _ (by decide)) (Int.emod_lt_of_pos _ (by decide))
  obtain ⟨wy, mwy, rfl⟩ := List.mem_map.mp mwt
  refine t_ixR h2 hwt ?_
  and_intros
  refine t_ixR (k2 _ _ h1) y4 ?_
  and_intros
  have b2 : 0 ≤ s4 % 2 ∧ s4 % 2 < 2 := ⟨Int.emod_nonneg _ (by decide), Int.emod_lt_of_pos _ (by decide)⟩
  refine ⟨q1, _, rfl, k2 _ _ h1, ?_⟩
  intro q3 hq3; generalize e3 : up _ q3 (O.lst _) = Δ3; have h3 := al_g e3; have k3 := al_l e3 hq3
  rw [cut_map, cut_take (by omega)] at h3
  have k13 := (k1.trans k2).trans k3
  clear e1 e2 e3
  and_intros
  refine ⟨fun τ Δ => ∃ (ps : Addr) (st : List Int), τ = [some (.ref a), some (.ref b), some (.int D), some (.int (mn : Nat)), some (.ref po), some (.ref pp), some (.ref pf), some (.int (i : Nat)), some (.ref q1), some (.str wy), some (.ref ps), none] ∧ 2 ≤ st.length ∧ st.length ≤ 100 ∧ Δ ps = some (.lst (st.map T.int)) ∧ Le Γ' Δ, ?_, ?_⟩
  ·and_intros
   refine t_ixR (k13 _ _ ga') x2 ?_
   and_intros
   refine t_I (by show (0 : Int) < _; omega) ?_
   and_intros
   refine c_if (fun c => ?_) (fun c => ?_)
   ·and_intros
    intro q4 hq4; generalize e4 : up _ q4 (O.lst _) = Δ4; have h4 := al_g e4; have k4 := al_l e4 hq4
    and_intros
    refine t_ixR (k4 _ _ (k13 _ _ ga')) x1 ?_
    and_intros
    obtain ⟨d, hd, xd⟩ := menu (ns := [4, 8, 12]) (r := r1 / 18 % 3) (Int.emod_nonneg _ (by decide)) (Int.emod_lt_of_pos _ (by decide))
    have hd : d = 4 ∨ d = 8 ∨ d = 12 := by simpa using hd
    refine t_ixR h4 xd ?_
    and_intros
    refine ⟨pf, _, rfl, k4 _ _ (k13 _ _ gf'), ?_⟩
    intro q5 hq5; generalize e5 : up _ q5 (O.lst _) = Δ5; have h5 := al_g e5; have k5 := al_l e5 hq5
    rw [cut_map, cut_mid (by decide) (by omega)] at h5
    and_intros
    refine ⟨q5, _, rfl, ?_, ?_, h5, (k13.trans k4).trans k5⟩
    ·rw [List.length_take, List.length_drop, lfr]; show 2 ≤ min ((12 + d).toNat - 12) (24 - 12); omega
    ·rw [List.length_take, List.length_drop, lfr]; show min ((12 + d).toNat - 12) (24 - 12) ≤ 100; omega
   ·and_intros
    exact ⟨q3, _, rfl, by rw [List.length_take]; omega, by rw [List.length_take]; omega, h3, k13⟩
  rintro τ Δ ⟨ps, st, rfl, st2, st100, hs, kΔ⟩
  and_intros
  refine t_tyL (kΔ _ _ gp') ?_
  and_intros
  have hi : i < os.length := by omega
  refine t_ixR (kΔ _ _ go') (atI_nat (v := T.str os[i]) (by simp [hi])) ?_
  and_intros
  refine ⟨ps, b, D, st, ss, rfl, hs, kΔ _ _ gb', st2, st100, s9, nm, D1, fun k kg kd => ?_⟩
  and_intros
  refine ⟨pp, _, _, rfl, rfl, kΔ _ _ gp', small1000 (by rw [List.length_map]; omega), ?_⟩
  and_intros
  refine ⟨i + 1, m', qs ++ [(os[i], wy, k)], _, _, _, _, rfl, by omega, rfl, by rw [List.length_append, ql]; rfl, ?_, fun y hy => ?_, ?_, by rw [up_ne nop]; exact kΔ _ _ go', by rw [up_ne nfp]; exact kΔ _ _ gf', (kq.trans kΔ.kq).trans (.set (by simp) _)⟩
  ·rw [List.map_append, qn, List.take_add_one]; simp [hi]
  ·rcases List.mem_append.mp hy with hy | hy
   ·exact qok y hy
   ·rw [List.mem_singleton.mp hy]; exact ⟨mwy, kg, kd⟩
  ·rw [up_same, List.map_append]; rfl
 rintro τ Γ' ⟨i, m, qs, o7, o8, o9, o10, er, im, rfl, ql, qn, qok, gp', go', gf', kq⟩
 have hm := rngT_nil er
 subst hm
 have ei : i = mn := im
 subst ei
 refine ⟨trivial, ?_⟩
 have ga' := kq _ _ (by simpa using nap) ga
 have gb' := kq _ _ (by simpa using nbp) gb
 have lΓ : Le Γ Γ' := fun x o h => kq x o (by have := gnn h bp; simpa using this) h
 and_intros
 refine ⟨fun τ Δ => ∃ re : Option Kd, τ = [some (.ref a), some (.ref b), some (.int D), some (.int (i : Nat)), some (.ref po), some (.ref pp), some (.ref pf), o7, o8, o9, o10, some (reT re)] ∧ (∀ k, re = some k → GF ss k ∧ (k.depth : Int) ≤ D) ∧ Le Γ' Δ, ?_, ?_⟩
 ·and_intros
  refine t_ixR ga' x3 ?_
  and_intros
  refine c_if (fun c => ?_) (fun c => ?_)
  ·and_intros
   intro q4 hq4; generalize e4 : up _ q4 (O.lst _) = Δ4; have h4 := al_g e4; have k4 := al_l e4 hq4
   and_intros
   refine t_ixR (k4 _ _ ga') x3 ?_
   and_intros
   obtain ⟨d, hd, xd⟩ := menu (ns := [2, 6, 12]) (r := r3 / 4 % 3) (Int.emod_nonneg _ (by decide)) (Int.emod_lt_of_pos _ (by decide))
   have hd : d = 2 ∨ d = 6 ∨ d = 12 := by simpa using hd
   refine t_ixR h4 xd ?_
   and_intros
   refine ⟨pf, _, rfl, k4 _ _ gf', ?_⟩
   intro q5 hq5; generalize e5 : up _ q5 (O.lst _) = Δ5; have h5 := al_g e5; have k5 := al_l e5 hq5
   rw [cut_map, cut_take (by omega)] at h5
   and_intros
   refine ⟨q5, b, D, _, ss, rfl, h5, k5 _ _ (k4 _ _ gb'), by rw [List.length_take, lfr]; omega, by rw [List.length_take, lfr]; omega, s9, nm, D1, fun k kg kd => ?_⟩
   and_intros
   exact ⟨some k, rfl, (fun k2 e => by cases e; exact ⟨kg, kd⟩), k4.trans k5⟩
  ·and_intros
   exact ⟨none, rfl, (fun k2 e => nomatch e), .refl⟩
 rintro τ Δ ⟨re, rfl, hre, kΔ⟩
 and_intros
 refine t_ixR (kΔ _ _ ga') x2 ?_
 and_intros
 obtain ⟨t2, ht2, mt2⟩ := at_some (xs := ss.map T.str) (r := r2 / 2 % 9) (Int.emod_nonneg _ (by decide)) (by rw [List.length_map, s9]; exact Int.emod_lt_of_pos _ (by decide))
 obtain ⟨z2, mz2, rfl⟩ := List.mem_map.mp mt2
 refine t_ixR (kΔ _ _ gb') ht2 ?_
 and_intros
 refine t_ixR (kΔ _ _ ga') x2 ?_
 and_intros
 refine ⟨.ref pp, _, rfl, it3_l (kΔ _ _ gp'), ?_⟩
 and_intros
 refine drop0 (lΓ.trans kΔ) (q ⟨z2, r2 % 2, qs, re⟩ ⟨mz2, by show r2 % 2 = 0 ∨ r2 % 2 = 1; omega, fun x hx => ?_, qok, fun nd => ?_, hre⟩ ql)
 ·have : x.1 ∈ qs.map (·.1) := List.mem_map.mpr ⟨x, hx, rfl⟩
  rw [qn] at this
  exact pm.mem_iff.mp (List.mem_of_mem_take this)
 ·show (qs.map (·.1)).Nodup
  rw [qn]
  exact (pm.nodup_iff.mpr nd).sublist (List.take_sublist _ _)
def lw (k : Nat) : Str := wd (List.replicate (1 + k / 26) (k : Int))
theorem lw_nm {k : Nat} (h : k < 200) : Nm (lw k) := by
 unfold lw
 refine ⟨?_, ?_, wd_lets _⟩ <;> rw [wd_len, List.length_replicate] <;> omega
theorem flat_rep (x : T) (n : Nat) : (List.replicate n [x]).flatten = List.replicate n x := by
 induction n with
 | zero => rfl
 | succ n ih => rw [List.replicate_succ, List.flatten_cons, ih]; rfl
abbrev s_law_longer : Stmt := top 37
theorem sc_law_longer : FnScope ["paper", "many", "places", "k", "name", "way", "kind"] ["paper", "many"] (defScope s_law_longer) := ⟨rfl, rfl, rfl, by decide +kernel, rfl, by decide +kernel, by decide +kernel⟩
def spLg : Sp3 := fun ts Γ Z _ => ∃ (pa : Pa) (n : Nat), ts = [pa.tr, .int n] ∧ pa.ps ≠ [] ∧ n ≤ 200 ∧ ∀ ps : List (Str × Str × Kd), ps.map (·.1) = (List.range n).map lw → (∀ x ∈ ps, ∃ y ∈ pa.ps, x.2 = y.2) → Z (Pa.tr ⟨pa.nm, pa.sd, ps, pa.re⟩) Γ
theorem ok_longer (F : Fun K "_law_longer" "_law_longer" s_law_longer f fd) (c_law_word : Cl3 P w K mg base "_law_word" 1 ["numbers"] spWrd) (z_range : mg "range" = none) (z_len : mg "len" = none) (z_tuple : mg "tuple" = none) : FnOk P w K mg base CX0 2 f fd ["paper", "many"] (liSp spLg) := by
 refine okd F sc_law_longer (fun ts Γ Z Y h => ?_) (fun cdv A outer s H E ts Γ Z Y hr h => ?_)
 ·obtain ⟨pa, n, rfl, _⟩ := h
  rfl
 obtain ⟨pa, n, rfl, ne, n2, q⟩ := h
 refine ⟨_, (qss_cons (qs_set (i := 2) sc_law_longer.nd rfl (Or.inl rfl) (qe_lst qa_nil))
  (qss_cons (qs_for PassesOwn.never rfl (qi_range1 rfl z_range (qa_cons (qv 1) qa_nil)) (qg_name (i := 3) sc_law_longer.nd rfl (Or.inl rfl)) (qss_cons (qs_asg (qe_ix (qe_ix (qv 0) qe_int (fun _ _ => rfl)) (qe_op oq_mod (qv 3) (qe_callB cq_len rfl z_len PySem.boot_len (qa_cons (qe_ix (qv 0) qe_int (fun _ _ => rfl)) qa_nil))) (fun _ _ => rfl)) (qg_tup (n := 3) rfl (qgs_cons (qg_name (i := 4) sc_law_longer.nd rfl (Or.inl rfl)) (qgs_cons (qg_name (i := 5) sc_law_longer.nd rfl (Or.inl rfl)) (qgs_cons (qg_name (i := 6) sc_law_longer.nd rfl (Or.inl rfl)) qgs_nil)))))
  (qss_cons (qs_expr (qe_bm PySem.F.plainAttrs_list PySem.F.slot_list_append PySem.F.type_list_append mq_append (qv 2) (qa_cons (qe_tup (qa_cons (qe_call c_law_word hr (by omega) rfl (qa_cons (qe_op oq_repL (qe_lst (qa_cons (qv 3) qa_nil)) (qe_op oq_add qe_int (qe_op oq_fdiv (qv 3) qe_int))) qa_nil)) (qa_cons (qv 5) (qa_cons (qv 6) qa_nil)))) qa_nil)))
  qss_nil)))
  (qss_cons (qs_ret (qe_tup (qa_cons (qe_ix (qv 0) qe_int (fun _ _ => rfl)) (qa_cons (qe_ix (qv 0) qe_int (fun _ _ => rfl)) (qa_cons (qe_callTy cq_tuple rfl z_tuple bt_tuple (qa_cons (qv 2) qa_nil)) (qa_cons (qe_ix (qv 0) qe_int (fun _ _ => rfl)) qa_nil))))))
  qss_nil))), ?_⟩
 simp only [start3]
 have l0 : 0 < pa.ps.length := List.length_pos_iff.mpr ne
 unfold Pa.tr
 and_intros
 intro pp hpp; generalize e1 : up _ pp (O.lst _) = Γ1; have g1 := al_g e1; have l1 := al_l e1 hpp
 and_intros
 refine ⟨n, rfl, by omega, by omega, ?_⟩
 refine ⟨fun rest τ Γ' => ∃ (i m : Nat) (qs : List (Str × Str × Kd)) (o3 o4 o5 o6 : Option T), rest = rngT i m ∧ i + m = n ∧ τ = [some (.tup [.str pa.nm, .int pa.sd, .tup (pa.ps.map plT), reT pa.re]), some (.int (n : Nat)), some (.ref pp), o3, o4, o5, o6] ∧ qs.length = i ∧ qs.map (·.1) = (List.range i).map lw ∧ (∀ x ∈ qs, ∃ y ∈ pa.ps, x.2 = y.2) ∧ Γ' pp = some (.lst (qs.map plT)) ∧ Kq [pp] Γ Γ', ⟨0, n, [], none, none, none, none, rfl, by omega, rfl, rfl, rfl, fun _ h => (nomatch h), g1, l1.kq⟩, ?_, ?_⟩
 rotate_left
 ·rintro x rr τ Γ' ⟨i, m, qs, o3, o4, o5, o6, er, im, rfl, ql, qn, qok, gp, kq⟩
  obtain ⟨m', rfl, rfl, rfl⟩ := rngT_cons er
  and_intros
  refine t_ixT (i := 2) (t := .tup (pa.ps.map plT)) rfl ?_
  and_intros
  refine t_ixT (i := 2) (t := .tup (pa.ps.map plT)) rfl ?_
  and_intros
  rw [List.length_map]
  refine t_I (by show (0 : Int) < _; omega) ?_
  have hj : ((i : Nat) : Int) % (pa.ps.length : Int) = ((i % pa.ps.length : Nat) : Int) := by omega
  have hj2 : i % pa.ps.length < pa.ps.length := Nat.mod_lt _ l0
  rw [hj]
  generalize i % pa.ps.length = j at *
  have ey : (pa.ps.map plT)[j]? = some (plT pa.ps[j]) := by simp [hj2]
  refine t_ixN ey ?_
  unfold plT
  and_intros
  refine t_tyL gp ?_
  and_intros
  intro p2 hp2; generalize e2 : up _ p2 (O.lst _) = Γ2; have g2 := al_g e2; have l2 := al_l e2 hp2
  and_intros
  have hd : 1 + ((i : Nat) : Int) / 26 = ((1 + i / 26 : Nat) : Int) := by omega
  rw [hd]
  refine ⟨p2, _, _, rfl, rfl, g2, by omega, by omega, by show 1 * _ ≤ _; rw [sizeLine_eq]; omega, ?_⟩
  intro p3 hp3; generalize e3 : up _ p3 (O.lst _) = Γ3; have g3 := al_g e3; have l3 := al_l e3 hp3
  rw [flat_rep, Int.toNat_natCast, ← List.map_replicate] at g3
  and_intros
  refine ⟨p3, List.replicate (1 + i / 26) (i : Int), rfl, g3, by rw [List.length_replicate]; omega, ?_⟩
  and_intros
  refine ⟨pp, _, _, rfl, rfl, l3 _ _ (l2 _ _ gp), small1000 (by rw [List.length_map]; omega), ?_⟩
  and_intros
  refine ⟨i + 1, m', qs ++ [(lw i, pa.ps[j].2)], _, _, _, _, rfl, by omega, rfl, by rw [List.length_append, ql]; rfl, ?_, fun y hy => ?_, ?_, (kq.trans (l2.trans l3).kq).trans (.set (by simp) _)⟩
  ·rw [List.map_append, qn, List.range_succ, List.map_append]; rfl
  ·rcases List.mem_append.mp hy with hy | hy
   ·exact qok y hy
   ·rw [List.mem_singleton.mp hy]; exact ⟨pa.ps[j], List.getElem_mem hj2, rfl⟩
  ·rw [up_same, List.map_append]; rfl
 rintro τ Γ' ⟨i, m, qs, o3, o4, o5, o6, er, im, rfl, ql, qn, qok, gp, kq⟩
 have hm := rngT_nil er
 subst hm
 have ei : i = n := im
 subst ei
 refine ⟨trivial, ?_⟩
 and_intros
 refine ⟨.ref pp, _, rfl, it3_l gp, ?_⟩
 and_intros
 refine t_ixT (i := 3) (t := reT pa.re) rfl ?_
 and_intros
 have lΓ : Le Γ Γ' := fun x o h => kq x o (by have := gnn h hpp; simpa using this) h
 exact drop0 lΓ (q qs qn qok)
end
inductive Pb (b : Nat) (Γ : Gp) : T → Prop
 | non : Pb b Γ .non
 | bl (k : Bool) : Pb b Γ (.bl k)
 | int {i : Int} (h : i.natAbs < 2 ^ b) : Pb b Γ (.int i)
 | str {z : Str} (l : z.length ≤ b) : Pb b Γ (.str z)
 | tup {ts : List T} (l : ts.length ≤ b) (h : ∀ t ∈ ts, Pb b Γ t) : Pb b Γ (.tup ts)
 | lst {a : Addr} {ts : List T} (g : Γ a = some (.lst ts)) : Pb b Γ (.ref a)
 | dct {a : Addr} {kvs : List (Key × T)} (g : Γ a = some (.dK kvs)) : Pb b Γ (.ref a)
theorem Pb.mono {b c : Nat} {Γ Γ' : Gp} (hb : b ≤ c) (l : Le Γ Γ') {t : T} (h : Pb b Γ t) : Pb c Γ' t := by
 induction h with
 | non => exact .non
 | bl b => exact .bl b
 | int h => exact .int (Nat.lt_of_lt_of_le h (Nat.pow_le_pow_right (by decide) hb))
 | str l => exact .str (Nat.le_trans l hb)
 | tup l _ ih => exact .tup (Nat.le_trans l hb) ih
 | lst g => exact .lst (l _ _ g)
 | dct g => exact .dct (l _ _ g)
theorem Pb.pt {b : Nat} {Γ : Gp} (hb : b ≤ 999) {t : T} (h : Pb b Γ t) : Pt Γ t := by
 induction h with
 | non => exact .non
 | bl b => exact .bl b
 | int h => exact .int _
 | str l => exact .str (by omega)
 | tup l _ ih => exact .tup (by omega) ih
 | lst g => exact .lst g
 | dct g => exact .dct g
theorem Pb.items {b : Nat} {Γ : Gp} {ts : List T} (h : Pb b Γ (.tup ts)) : ts.length ≤ b ∧ ∀ t ∈ ts, Pb b Γ t := by
 cases h with
 | tup l h => exact ⟨l, h⟩
theorem Pb.txt {b : Nat} {Γ : Gp} {z : Str} (h : Pb b Γ (.str z)) : z.length ≤ b := by
 cases h with
 | str l => exact l
theorem Pb.num {b : Nat} {Γ : Gp} {i : Int} (h : Pb b Γ (.int i)) : i.natAbs < 2 ^ b := by
 cases h with
 | int l => exact l
mutual
def pbOk : T → Bool
 | .non => true
 | .bl _ => true
 | .int i => decide (i.natAbs < 1267650600228229401496703205376)
 | .str z => decide (z.length ≤ 100)
 | .tup ts => decide (ts.length ≤ 100) && pbAll ts
 | _ => false
def pbAll : List T → Bool
 | [] => true
 | t :: r => pbOk t && pbAll r
end
mutual
theorem pb_of : ∀ {t : T} {Γ : Gp}, pbOk t = true → Pb 100 Γ t
 | .non, Γ, _ => .non
 | .bl b, Γ, _ => .bl b
 | .int i, Γ, h => .int (by unfold pbOk at h; exact of_decide_eq_true h)
 | .str z, Γ, h => .str (by unfold pbOk at h; exact of_decide_eq_true h)
 | .tup ts, Γ, h => by
  unfold pbOk at h
  rw [Bool.and_eq_true] at h
  exact .tup (of_decide_eq_true h.1) (pb_all h.2)
 | .ref a, Γ, h => by unfold pbOk at h; cases h
 | .ty n, Γ, h => by unfold pbOk at h; cases h
 | .scr K a ts, Γ, h => by unfold pbOk at h; cases h
theorem pb_all : ∀ {ts : List T} {Γ : Gp}, pbAll ts = true → ∀ t ∈ ts, Pb 100 Γ t
 | [], Γ, _, t, h => by cases h
 | x :: r, Γ, h, t, ht => by
  unfold pbAll at h
  rw [Bool.and_eq_true] at h
  rcases List.mem_cons.mp ht with e | ht
  ·rw [e]; exact pb_of h.1
  ·exact pb_all h.2 t ht
end
theorem tx_len {b : Nat} {i : Int} (hb : 1 ≤ b) (h : i.natAbs < 2 ^ b) : (toString i : Str).length ≤ b + 1 := by
 have hl : i.natAbs.log2 < b := by
  rcases Nat.eq_zero_or_pos i.natAbs with e | e
  ·rw [e]; exact hb
  ·exact (Nat.log2_lt (by omega)).mpr h
 have := int_text_length_le (a := i) (k := b) hb hl
 show (Str.ofString (toString i)).length ≤ _
 rw [ofString_length]
 exact this
section
variable {P : Program} {w : World} {K : PySem.W.Frag} {mg : Str → Option Value} {base : Heap} {f C : Addr} {fd : FuncData} {v1 v2 v3 : Value}
abbrev s_law_sign : Stmt := top 31
theorem sc_law_sign : FnScope ["number", "some"] ["number"] (defScope s_law_sign) := ⟨rfl, rfl, rfl, by decide +kernel, rfl, by decide +kernel, by decide +kernel⟩
def spSig : Sp3 := fun ts Γ Z _ => ∃ n : Int, ts = [.int n] ∧ ∀ z : Str, z.length = 1 → Z (.str z) Γ
theorem ok_sign (F : Fun K "_law_sign" "_law_sign" s_law_sign f fd) : FnOk P w K mg base CX0 1 f fd ["number"] (liSp spSig) := by
 refine okd F sc_law_sign (fun ts Γ Z Y h => ?_) (fun cdv A outer s H E ts Γ Z Y hr h => ?_)
 ·obtain ⟨n, rfl, _⟩ := h
  rfl
 obtain ⟨n, rfl, q⟩ := h
 refine ⟨_, (qss_cons (qs_set (i := 1) sc_law_sign.nd rfl (Or.inl rfl) qe_str)
  (qss_cons (qs_set (i := 1) sc_law_sign.nd rfl (Or.inl rfl) (qe_op oq_adds (qv 1) qe_str))
  (qss_cons (qs_ret (qe_ixS (qv 1) (qe_op oq_mod (qv 0) qe_int) (fun _ _ => rfl)))
  qss_nil))), ?_⟩
 simp only [start3]
 and_intros
 refine t_adds ?_ ?_
 ·decide
 and_intros
 have h0 := Int.emod_nonneg n (by decide : (94 : Int) ≠ 0)
 have h1 := Int.emod_lt_of_pos n (by decide : (0 : Int) < 94)
 have hl : ((" !\"#$&'()*+,-./0123456789:;<=>?@ABCDEFGHIJKLMNOPQRSTUVWXYZ[\\]^_`" : Str) ++ ("abcdefghijklmnopqrstuvwxyz{|}~" : Str)).cps.toList.length = 94 := by decide +kernel
 obtain ⟨c, hc, _⟩ := at_some (xs := ((" !\"#$&'()*+,-./0123456789:;<=>?@ABCDEFGHIJKLMNOPQRSTUVWXYZ[\\]^_`" : Str) ++ ("abcdefghijklmnopqrstuvwxyz{|}~" : Str)).cps.toList) h0 (by rw [hl]; exact h1)
 refine ⟨_, _, c, rfl, rfl, by decide +kernel, hc, ?_⟩
 exact drop0 .refl (q _ rfl)
abbrev s_law_plain : Stmt := top 32
theorem sc_law_plain : FnScope ["number", "some"] ["number"] (defScope s_law_plain) := ⟨rfl, rfl, rfl, by decide +kernel, rfl, by decide +kernel, by decide +kernel⟩
def spPln : Sp3 := fun ts Γ Z _ => ∃ n : Int, ts = [.int n] ∧ ∀ (t : T) (Γ' : Gp), Pb 100 Γ' t → Le Γ Γ' → Z t Γ'
theorem ok_plain (F : Fun K "_law_plain" "_law_plain" s_law_plain f fd) (z_len : mg "len" = none) : FnOk P w K mg base CX0 1 f fd ["number"] (liSp spPln) := by
 refine okd F sc_law_plain (fun ts Γ Z Y h => ?_) (fun cdv A outer s H E ts Γ Z Y hr h => ?_)
 ·obtain ⟨n, rfl, _⟩ := h
  rfl
 obtain ⟨n, rfl, q⟩ := h
 refine ⟨_, (qss_cons (qs_set (i := 1) sc_law_plain.nd rfl (Or.inl rfl) (qe_lst (qa_cons qe_non (qa_cons qe_bl (qa_cons qe_bl (qa_cons qe_int (qa_cons qe_int (qa_cons qe_int (qa_cons qe_int (qa_cons qe_int (qa_cons qe_int (qa_cons qe_int (qa_cons (qe_neg qe_int) (qa_cons qe_int (qa_cons qe_int (qa_cons qe_int (qa_cons qe_int (qa_cons qe_int (qa_cons (qe_op oq_pow qe_int qe_int) qa_nil)))))))))))))))))))
  (qss_cons (qs_set (i := 1) sc_law_plain.nd rfl (Or.inl rfl) (qe_op oq_catL (qv 1) (qe_lst (qa_cons qe_str (qa_cons qe_str (qa_cons qe_str (qa_cons qe_str (qa_cons qe_str qa_nil))))))))
  (qss_cons (qs_set (i := 1) sc_law_plain.nd rfl (Or.inl rfl) (qe_op oq_catL (qv 1) (qe_lst (qa_cons qe_str (qa_cons qe_str (qa_cons qe_str (qa_cons qe_str (qa_cons qe_str (qa_cons qe_str (qa_cons qe_str (qa_cons qe_str (qa_cons qe_str (qa_cons qe_str (qa_cons qe_str qa_nil))))))))))))))
  (qss_cons (qs_set (i := 1) sc_law_plain.nd rfl (Or.inl rfl) (qe_op oq_catL (qv 1) (qe_lst (qa_cons qe_str (qa_cons (qe_tup qa_nil) (qa_cons (qe_lst qa_nil) (qa_cons qe_dnew (qa_cons (qe_tup (qa_cons qe_str qa_nil)) (qa_cons (qe_tup (qa_cons qe_str (qa_cons qe_int qa_nil))) (qa_cons (qe_tup (qa_cons qe_str (qa_cons qe_int qa_nil))) (qa_cons (qe_tup (qa_cons qe_str (qa_cons qe_bl qa_nil))) (qa_cons (qe_lst (qa_cons qe_str qa_nil)) (qa_cons (qe_tup (qa_cons qe_str qa_nil)) qa_nil)))))))))))))
  (qss_cons (qs_set (i := 1) sc_law_plain.nd rfl (Or.inl rfl) (qe_op oq_catL (qv 1) (qe_lst (qa_cons (qe_tup (qa_cons qe_str (qa_cons (qe_tup (qa_cons qe_str qa_nil)) qa_nil))) (qa_cons (qe_tup (qa_cons qe_str (qa_cons qe_str (qa_cons (qe_tup (qa_cons qe_str qa_nil)) (qa_cons qe_str qa_nil))))) qa_nil)))))
  (qss_cons (qs_set (i := 1) sc_law_plain.nd rfl (Or.inl rfl) (qe_op oq_catL (qv 1) (qe_lst (qa_cons (qe_tup (qa_cons qe_str (qa_cons (qe_tup qa_nil) qa_nil))) (qa_cons (qe_tup (qa_cons qe_str (qa_cons (qe_tup (qa_cons (qe_tup (qa_cons qe_str (qa_cons (qe_tup (qa_cons qe_str qa_nil)) qa_nil))) qa_nil)) qa_nil))) (qa_cons (qe_tup (qa_cons qe_str (qa_cons (qe_tup (qa_cons (qe_tup (qa_cons qe_str (qa_cons (qe_tup (qa_cons qe_str (qa_cons qe_int qa_nil))) qa_nil))) (qa_cons (qe_tup (qa_cons qe_str (qa_cons (qe_tup (qa_cons qe_str (qa_cons qe_int qa_nil))) qa_nil))) qa_nil))) qa_nil))) qa_nil))))))
  (qss_cons (qs_ret (qe_ix (qv 1) (qe_op oq_mod (qv 0) (qe_callB cq_len rfl z_len PySem.boot_len (qa_cons (qv 1) qa_nil))) (fun _ _ => rfl)))
  qss_nil))))))), ?_⟩
 simp only [start3]
 and_intros
 intro p1 hp1; generalize e1 : up _ p1 (O.lst _) = Γ1; have g1 := al_g e1; have l1 := al_l e1 hp1
 obtain ⟨A, hA, gA, nA⟩ : ∃ A : List T, (∀ Γ', ∀ x ∈ A, Pb 100 Γ' x) ∧ Γ1 p1 = some (.lst A) ∧ A.length = 17 := ⟨_, fun Γ' => pb_all (by decide +kernel), g1, rfl⟩
 and_intros
 intro p2 hp2; generalize e2 : up _ p2 (O.lst _) = Γ2; have g2 := al_g e2; have l2 := al_l e2 hp2
 obtain ⟨B, hB, gB, nB⟩ : ∃ A : List T, (∀ Γ', ∀ x ∈ A, Pb 100 Γ' x) ∧ Γ2 p2 = some (.lst A) ∧ A.length = 5 := ⟨_, fun Γ' => pb_all (by decide +kernel), g2, rfl⟩
 refine ⟨p1, p2, _, _, rfl, rfl, l2 _ _ gA, gB, Nat.le_of_lt (small1000 (by omega)), ?_⟩
 intro p3 hp3; generalize e3 : up _ p3 (O.lst _) = Γ3; have g3 := al_g e3; have l3 := al_l e3 hp3
 and_intros
 intro p4 hp4; generalize e4 : up _ p4 (O.lst _) = Γ4; have g4 := al_g e4; have l4 := al_l e4 hp4
 obtain ⟨C, hC, gC, nC⟩ : ∃ A : List T, (∀ Γ', ∀ x ∈ A, Pb 100 Γ' x) ∧ Γ4 p4 = some (.lst A) ∧ A.length = 11 := ⟨_, fun Γ' => pb_all (by decide +kernel), g4, rfl⟩
 refine ⟨p3, p4, _, _, rfl, rfl, l4 _ _ g3, gC, Nat.le_of_lt (small1000 (by rw [List.length_append]; omega)), ?_⟩
 intro p5 hp5; generalize e5 : up _ p5 (O.lst _) = Γ5; have g5 := al_g e5; have l5 := al_l e5 hp5
 and_intros
 intro p6 hp6; generalize e6 : up _ p6 (O.lst _) = Γ6; have g6 := al_g e6; have l6 := al_l e6 hp6
 and_intros
 unfold eDn
 intro p7 hp7; generalize e7 : up _ p7 (O.dK _) = Γ7; have g7 := al_g e7; have l7 := al_l e7 hp7
 and_intros
 intro p8 hp8; generalize e8 : up _ p8 (O.lst _) = Γ8; have g8 := al_g e8; have l8 := al_l e8 hp8
 and_intros
 intro p9 hp9; generalize e9 : up _ p9 (O.lst _) = Γ9; have g9 := al_g e9; have l9 := al_l e9 hp9
 obtain ⟨D, hD, gD, nD⟩ : ∃ A : List T, (∀ x ∈ A, Pb 100 Γ9 x) ∧ Γ9 p9 = some (.lst A) ∧ A.length = 10 := by
  refine ⟨_, fun x hx => ?_, g9, rfl⟩
  simp only [List.mem_cons, List.not_mem_nil, or_false] at hx
  rcases hx with rfl | rfl | rfl | rfl | rfl | rfl | rfl | rfl | rfl | rfl
  ·exact pb_of (by decide +kernel)
  ·exact pb_of (by decide +kernel)
  ·exact .lst (l9 _ _ (l8 _ _ (l7 _ _ g6)))
  ·exact .dct (l9 _ _ (l8 _ _ g7))
  ·exact pb_of (by decide +kernel)
  ·exact pb_of (by decide +kernel)
  ·exact pb_of (by decide +kernel)
  ·exact pb_of (by decide +kernel)
  ·exact .lst (l9 _ _ g8)
  ·exact pb_of (by decide +kernel)
 have l59 : Le Γ5 Γ9 := l6.trans (l7.trans (l8.trans l9))
 refine ⟨p5, p9, _, _, rfl, rfl, l59 _ _ g5, gD, Nat.le_of_lt (small1000 (by rw [List.length_append, List.length_append]; omega)), ?_⟩
 intro p10 hp10; generalize e10 : up _ p10 (O.lst _) = Γ10; have g10 := al_g e10; have l10 := al_l e10 hp10
 and_intros
 intro p11 hp11; generalize e11 : up _ p11 (O.lst _) = Γ11; have g11 := al_g e11; have l11 := al_l e11 hp11
 obtain ⟨G, hG, gG, nG⟩ : ∃ A : List T, (∀ Γ', ∀ x ∈ A, Pb 100 Γ' x) ∧ Γ11 p11 = some (.lst A) ∧ A.length = 2 := ⟨_, fun Γ' => pb_all (by decide +kernel), g11, rfl⟩
 refine ⟨p10, p11, _, _, rfl, rfl, l11 _ _ g10, gG, Nat.le_of_lt (small1000 (by rw [List.length_append, List.length_append, List.length_append]; omega)), ?_⟩
 intro p12 hp12; generalize e12 : up _ p12 (O.lst _) = Γ12; have g12 := al_g e12; have l12 := al_l e12 hp12
 and_intros
 intro p13 hp13; generalize e13 : up _ p13 (O.lst _) = Γ13; have g13 := al_g e13; have l13 := al_l e13 hp13
 obtain ⟨I, hI, gI, nI⟩ : ∃ A : List T, (∀ Γ', ∀ x ∈ A, Pb 100 Γ' x) ∧ Γ13 p13 = some (.lst A) ∧ A.length = 3 := ⟨_, fun Γ' => pb_all (by decide +kernel), g13, rfl⟩
 refine ⟨p12, p13, _, _, rfl, rfl, l13 _ _ g12, gI, Nat.le_of_lt (small1000 (by rw [List.length_append, List.length_append, List.length_append, List.length_append]; omega)), ?_⟩
 intro p14 hp14; generalize e14 : up _ p14 (O.lst _) = Γ14; have g14 := al_g e14; have l14 := al_l e14 hp14
 have l914 : Le Γ9 Γ14 := l10.trans (l11.trans (l12.trans (l13.trans l14)))
 have l014 : Le Γ Γ14 := l1.trans (l2.trans (l3.trans (l4.trans (l5.trans (l59.trans l914)))))
 obtain ⟨J, hJ, gJ, nJ⟩ : ∃ A : List T, (∀ x ∈ A, Pb 100 Γ14 x) ∧ Γ14 p14 = some (.lst A) ∧ A.length = 48 := by
  refine ⟨_, fun x hx => ?_, g14, by simp only [List.length_append]; omega⟩
  simp only [List.mem_append] at hx
  rcases hx with ((((hx | hx) | hx) | hx) | hx) | hx
  ·exact hA _ x hx
  ·exact hB _ x hx
  ·exact hC _ x hx
  ·exact (hD x hx).mono (Nat.le_refl _) l914
  ·exact hG _ x hx
  ·exact hI _ x hx
 and_intros
 refine t_lenR gJ ?_
 rw [nJ]
 refine t_I (by show (0 : Int) < _; decide) ?_
 obtain ⟨t, ht, mt⟩ := at_some (xs := J) (r := n % ((48 : Nat) : Int)) (Int.emod_nonneg _ (by decide)) (by rw [nJ]; exact Int.emod_lt_of_pos _ (by decide))
 refine t_ixR gJ ht ?_
 exact drop0 .refl (q t Γ14 (hJ t mt) l014)
end
section
variable {b : Nat} {Γ : Gp} {us : List T}
theorem pb_cut (h : Pb b Γ (.tup us)) (lo hi : Option Int) : ∀ t ∈ cutN us lo hi, Pb b Γ t := fun t ht => h.items.2 t (cut_mem ht)
theorem pb_row {vs : List T} (hb : 100 ≤ b) (l : vs.length ≤ 2 * b) (h : ∀ t ∈ vs, Pb b Γ t) : Pb (3 * b + 2) Γ (.tup vs) := .tup (by omega) fun t ht => (h t ht).mono (by omega) .refl
end
section
variable {P : Program} {w : World} {K : PySem.W.Frag} {mg : Str → Option Value} {base : Heap} {f C : Addr} {fd : FuncData} {v1 v2 v3 : Value}
theorem at_b (r : Int) (n : Nat) : 0 ≤ r % (if ((n : Nat) : Int) > 1 then ((n : Nat) : Int) else 1) ∧ (r % (if ((n : Nat) : Int) > 1 then ((n : Nat) : Int) else 1) < n ∨ n = 0) := by
 split
 ·exact ⟨Int.emod_nonneg _ (by omega), .inl (Int.emod_lt_of_pos _ (by omega))⟩
 ·refine ⟨Int.emod_nonneg _ (by decide), ?_⟩
  have := Int.emod_lt_of_pos r (by decide : (0 : Int) < 1)
  omega
abbrev s_law_other_row : Stmt := top 33
theorem sc_law_other_row : FnScope ["node", "way", "s", "at", "second"] ["node", "way", "s"] (defScope s_law_other_row) := ⟨rfl, rfl, rfl, by decide +kernel, rfl, by decide +kernel, by decide +kernel⟩
def spRow : Sp3 := fun ts Γ Z _ => ∃ (b : Nat) (us : List T) (wy : Int) (s : Addr) (ns : List Int), ts = [.tup us, .int wy, .ref s] ∧ 100 ≤ b ∧ b ≤ 400 ∧ Pb b Γ (.tup us) ∧ Γ s = some (.lst (ns.map T.int)) ∧ ns.length = 7 ∧ ∀ (t : T) (Γ' : Gp), Pb (3 * b + 2) Γ' t → Le Γ Γ' → Z t Γ'
theorem ok_other_row (F : Fun K "_law_other_row" "_law_other_row" s_law_other_row f fd) (c_law_plain : Cl3 P w K mg base "_law_plain" 1 ["number"] spPln) (z_max : mg "max" = none) (z_len : mg "len" = none) (z_list : mg "list" = none) : FnOk P w K mg base CX0 2 f fd ["node", "way", "s"] (liSp spRow) := by
 refine okd F sc_law_other_row (fun ts Γ Z Y h => ?_) (fun cdv A outer s H E ts Γ Z Y hr h => ?_)
 ·obtain ⟨b, us, wy, sa, ns, rfl, _⟩ := h
  rfl
 obtain ⟨b, us, wy, sa, ns, rfl, b1, b2, pu, gs, n7, q⟩ := h
 refine ⟨_, (qss_cons (qs_set (i := 3) sc_law_other_row.nd rfl (Or.inl rfl) (qe_op oq_mod (qe_ix (qv 2) qe_int (fun _ _ => rfl)) (qe_callB (cq_max2 rfl) rfl z_max PyProof.Rows.boot_max (qa_cons qe_int (qa_cons (qe_callB cq_len rfl z_len PySem.boot_len (qa_cons (qv 0) qa_nil)) qa_nil)))))
  (qss_cons (qs_if (qt_cmpR oq_eq (qv 1) qe_int (nomark _)) (qss_cons (qs_ret (qe_callTy cq_list rfl z_list bt_list (qa_cons (qv 0) qa_nil)))
  qss_nil) qss_nil)
  (qss_cons (qs_if (qt_cmpR oq_eq (qv 1) qe_int (nomark _)) (qss_cons (qs_ret (qe_op oq_cat (qe_slice sq_tup (qv 0) qo_none (qo_some (qv 3))) (qe_slice sq_tup (qv 0) (qo_some (qe_op oq_add (qv 3) qe_int)) qo_none)))
  qss_nil) qss_nil)
  (qss_cons (qs_if (qt_cmpR oq_eq (qv 1) qe_int (nomark _)) (qss_cons (qs_ret (qe_op oq_cat (qe_op oq_cat (qe_slice sq_tup (qv 0) qo_none (qo_some (qv 3))) (qe_slice sq_tup (qv 0) (qo_some (qv 3)) (qo_some (qe_op oq_add (qv 3) qe_int)))) (qe_slice sq_tup (qv 0) (qo_some (qv 3)) qo_none)))
  qss_nil) qss_nil)
  (qss_cons (qs_if (qt_cmpR oq_eq (qv 1) qe_int (nomark _)) (qss_cons (qs_set (i := 4) sc_law_other_row.nd rfl (Or.inl rfl) (qe_slice sq_tup (qv 0) (qo_some (qe_op oq_add (qv 3) qe_int)) (qo_some (qe_op oq_add (qv 3) qe_int))))
  (qss_cons (qs_ret (qe_op oq_cat (qe_op oq_cat (qe_op oq_cat (qe_slice sq_tup (qv 0) qo_none (qo_some (qv 3))) (qv 4)) (qe_slice sq_tup (qv 0) (qo_some (qv 3)) (qo_some (qe_op oq_add (qv 3) qe_int)))) (qe_slice sq_tup (qv 0) (qo_some (qe_op oq_add (qv 3) qe_int)) qo_none)))
  qss_nil)) qss_nil)
  (qss_cons (qs_if (qt_cmpR oq_eq (qv 1) qe_int (nomark _)) (qss_cons (qs_ret (qe_op oq_cat (qe_op oq_cat (qe_slice sq_tup (qv 0) qo_none (qo_some (qv 3))) (qe_tup (qa_cons (qe_call c_law_plain hr (by omega) rfl (qa_cons (qe_ix (qv 2) qe_int (fun _ _ => rfl)) qa_nil)) qa_nil))) (qe_slice sq_tup (qv 0) (qo_some (qv 3)) qo_none)))
  qss_nil) qss_nil)
  (qss_cons (qs_if (qt_cmpR oq_eq (qv 1) qe_int (nomark _)) (qss_cons (qs_ret (qe_op oq_cat (qv 0) (qe_tup (qa_cons (qe_call c_law_plain hr (by omega) rfl (qa_cons (qe_ix (qv 2) qe_int (fun _ _ => rfl)) qa_nil)) qa_nil))))
  qss_nil) qss_nil)
  (qss_cons (qs_ret (qe_revT (qv 0) (qe_neg qe_int)))
  qss_nil)))))))), ?_⟩
 simp only [start3]
 obtain ⟨r5, _, _, x5⟩ := ix_int (ns := ns) (j := 5) (by omega)
 obtain ⟨r4, _, _, x4⟩ := ix_int (ns := ns) (j := 4) (by omega)
 obtain ⟨ul, um⟩ := pu.items
 have sl := sizeLine_eq
 and_intros
 refine t_ixR gs x5 ?_
 and_intros
 refine t_I (by show (0 : Int) < _; split <;> omega) ?_
 obtain ⟨a0, _⟩ := at_b r5 us.length
 generalize r5 % (if ((us.length : Nat) : Int) > 1 then ((us.length : Nat) : Int) else 1) = at_ at *
 have cl : ∀ lo hi, (cutN us lo hi).length ≤ us.length := fun lo hi => cutN_length us lo hi
 have c1 := cl none (some at_)
 have c2 := cl (some (at_ + 1)) none
 have c3 := cl (some at_) (some (at_ + 1))
 have c4 := cl (some at_) none
 have c5 := cl (some (at_ + 1)) (some (at_ + 2))
 have c6 := cl (some (at_ + 2)) none
 have d1 : (cutN us none (some at_)).length = min at_.toNat us.length := by rw [cut_take a0, List.length_take]
 have d2 : (cutN us (some (at_ + 1)) none).length = us.length - (at_ + 1).toNat := by rw [cut_drop (by omega), List.length_drop]
 have d3 : (cutN us (some at_) (some (at_ + 1))).length ≤ 1 := by rw [cut_mid a0 (by omega), List.length_take]; omega
 have d4 : (cutN us (some at_) none).length = us.length - at_.toNat := by rw [cut_drop a0, List.length_drop]
 have d5 : (cutN us (some (at_ + 1)) (some (at_ + 2))).length ≤ 1 := by rw [cut_mid (by omega) (by omega), List.length_take]; omega
 have d6 : (cutN us (some (at_ + 2)) none).length = us.length - (at_ + 2).toNat := by rw [cut_drop (by omega), List.length_drop]
 and_intros
 refine c_if (fun w0 => ?_) (fun w0 => ?_)
 ·and_intros
  intro p1 hp1; generalize e1 : up _ p1 (O.lst _) = Γ1; have g1 := al_g e1; have l1 := al_l e1 hp1
  exact drop0 .refl (q _ Γ1 (.lst g1) l1)
 and_intros
 refine c_if (fun w1 => ?_) (fun w1 => ?_)
 ·and_intros
  refine t_cat (by omega) ?_
  refine drop0 .refl (q _ Γ (pb_row b1 (by rw [List.length_append]; omega) fun t ht => ?_) .refl)
  rcases List.mem_append.mp ht with ht | ht <;> exact pb_cut pu _ _ t ht
 and_intros
 refine c_if (fun w2 => ?_) (fun w2 => ?_)
 ·and_intros
  refine t_cat (by omega) ?_
  and_intros
  refine t_cat (by rw [List.length_append]; omega) ?_
  refine drop0 .refl (q _ Γ (pb_row b1 (by rw [List.length_append, List.length_append]; omega) fun t ht => ?_) .refl)
  simp only [List.mem_append] at ht
  rcases ht with (ht | ht) | ht <;> exact pb_cut pu _ _ t ht
 and_intros
 refine c_if (fun w3 => ?_) (fun w3 => ?_)
 ·and_intros
  refine t_cat (by omega) ?_
  and_intros
  refine t_cat (by rw [List.length_append]; omega) ?_
  and_intros
  refine t_cat (by rw [List.length_append, List.length_append]; omega) ?_
  refine drop0 .refl (q _ Γ (pb_row b1 (by rw [List.length_append, List.length_append, List.length_append]; omega) fun t ht => ?_) .refl)
  simp only [List.mem_append] at ht
  rcases ht with ((ht | ht) | ht) | ht <;> exact pb_cut pu _ _ t ht
 and_intros
 refine c_if (fun w4 => ?_) (fun w4 => ?_)
 ·and_intros
  refine t_ixR gs x4 ?_
  and_intros
  refine ⟨r4, rfl, fun t Γ1 pt l1 => ?_⟩
  and_intros
  refine t_cat (by show _ + 1 ≤ _; omega) ?_
  and_intros
  refine t_cat (by rw [List.length_append]; show _ + 1 + _ ≤ _; omega) ?_
  refine drop0 .refl (q _ Γ1 (pb_row b1 (by rw [List.length_append, List.length_append]; show _ + 1 + _ ≤ _; omega) fun t2 ht => ?_) l1)
  simp only [List.mem_append, List.mem_singleton] at ht
  rcases ht with (ht | ht) | ht
  ·exact (pb_cut pu _ _ t2 ht).mono (Nat.le_refl _) l1
  ·rw [ht]; exact pt.mono b1 .refl
  ·exact (pb_cut pu _ _ t2 ht).mono (Nat.le_refl _) l1
 and_intros
 refine c_if (fun w5 => ?_) (fun w5 => ?_)
 ·and_intros
  refine t_ixR gs x4 ?_
  and_intros
  refine ⟨r4, rfl, fun t Γ1 pt l1 => ?_⟩
  and_intros
  refine t_cat (by show _ + 1 ≤ _; omega) ?_
  refine drop0 .refl (q _ Γ1 (pb_row b1 (by rw [List.length_append]; show _ + 1 ≤ _; omega) fun t2 ht => ?_) l1)
  simp only [List.mem_append, List.mem_singleton] at ht
  rcases ht with ht | ht
  ·exact (um t2 ht).mono (Nat.le_refl _) l1
  ·rw [ht]; exact pt.mono b1 .refl
 and_intros
 refine ⟨rfl, us, rfl, ?_⟩
 refine drop0 .refl (q _ Γ (pb_row b1 (by rw [List.length_reverse]; omega) fun t ht => um t (List.mem_reverse.mp ht)) .refl)
abbrev s_law_other_word : Stmt := top 34
theorem sc_law_other_word : FnScope ["node", "way", "s", "at", "sign", "some"] ["node", "way", "s"] (defScope s_law_other_word) := ⟨rfl, rfl, rfl, by decide +kernel, rfl, by decide +kernel, by decide +kernel⟩
def spWw : Sp3 := fun ts Γ Z _ => ∃ (b : Nat) (z : Str) (wy : Int) (s : Addr) (ns : List Int), ts = [.str z, .int wy, .ref s] ∧ 100 ≤ b ∧ b ≤ 400 ∧ z.length ≤ b ∧ 0 ≤ wy ∧ wy < 7 ∧ Γ s = some (.lst (ns.map T.int)) ∧ ns.length = 7 ∧ ∀ (y : Str), y.length ≤ 3 * b + 2 → Z (.str y) Γ
theorem ok_other_word (F : Fun K "_law_other_word" "_law_other_word" s_law_other_word f fd) (c_law_sign : Cl3 P w K mg base "_law_sign" 1 ["number"] spSig) (z_max : mg "max" = none) (z_len : mg "len" = none) : FnOk P w K mg base CX0 2 f fd ["node", "way", "s"] (liSp spWw) := by
 refine okd F sc_law_other_word (fun ts Γ Z Y h => ?_) (fun cdv A outer s H E ts Γ Z Y hr h => ?_)
 ·obtain ⟨b, z, wy, sa, ns, rfl, _⟩ := h
  rfl
 obtain ⟨b, z, wy, sa, ns, rfl, b1, b2, zl, w0, w7, gs, n7, q⟩ := h
 refine ⟨_, (qss_cons (qs_set (i := 3) sc_law_other_word.nd rfl (Or.inl rfl) (qe_op oq_mod (qe_ix (qv 2) qe_int (fun _ _ => rfl)) (qe_callB (cq_max2 rfl) rfl z_max PyProof.Rows.boot_max (qa_cons qe_int (qa_cons (qe_callB cq_lens rfl z_len PySem.boot_len (qa_cons (qv 0) qa_nil)) qa_nil)))))
  (qss_cons (qs_set (i := 4) sc_law_other_word.nd rfl (Or.inl rfl) (qe_call c_law_sign hr (by omega) rfl (qa_cons (qe_ix (qv 2) qe_int (fun _ _ => rfl)) qa_nil)))
  (qss_cons (qs_set (i := 5) sc_law_other_word.nd rfl (Or.inl rfl) (qe_lst (qa_cons (qe_op oq_adds (qe_op oq_adds (qe_slice sq_str (qv 0) qo_none (qo_some (qv 3))) (qv 4)) (qe_slice sq_str (qv 0) (qo_some (qe_op oq_add (qv 3) qe_int)) qo_none)) (qa_cons (qe_op oq_adds (qe_op oq_adds (qe_slice sq_str (qv 0) qo_none (qo_some (qv 3))) (qv 4)) (qe_slice sq_str (qv 0) (qo_some (qv 3)) qo_none)) (qa_cons (qe_op oq_adds (qe_slice sq_str (qv 0) qo_none (qo_some (qv 3))) (qe_slice sq_str (qv 0) (qo_some (qe_op oq_add (qv 3) qe_int)) qo_none)) qa_nil)))))
  (qss_cons (qs_ret (qe_ix (qe_op oq_catL (qv 5) (qe_lst (qa_cons (qe_bm0 PySem.F.plainAttrs_str PySem.F.slot_str_upper PySem.F.type_str_upper mq_upper (qv 0)) (qa_cons (qe_op oq_adds (qv 0) (qv 4)) (qa_cons (qe_op oq_adds (qv 0) (qv 0)) (qa_cons (qe_revX (qv 0) (qe_neg qe_int)) qa_nil)))))) (qv 1) (fun _ _ => rfl)))
  qss_nil)))), ?_⟩
 simp only [start3]
 obtain ⟨r5, _, _, x5⟩ := ix_int (ns := ns) (j := 5) (by omega)
 obtain ⟨r6, _, _, x6⟩ := ix_int (ns := ns) (j := 6) (by omega)
 have sl := sizeLine_eq
 and_intros
 refine t_ixR gs x5 ?_
 and_intros
 refine ⟨z, rfl, by omega, ?_⟩
 and_intros
 refine t_I (by show (0 : Int) < _; split <;> omega) ?_
 obtain ⟨a0, _⟩ := at_b r5 z.length
 generalize r5 % (if ((z.length : Nat) : Int) > 1 then ((z.length : Nat) : Int) else 1) = at_ at *
 and_intros
 refine t_ixR gs x6 ?_
 and_intros
 refine ⟨r6, rfl, fun sg sg1 => ?_⟩
 and_intros
 refine ⟨by omega, fun y1 hy1 => ?_⟩
 have c1 := cut_le hy1
 and_intros
 refine t_adds ?_ ?_
 ·omega
 and_intros
 refine ⟨by omega, fun y2 hy2 => ?_⟩
 have c2 := cut_le hy2
 refine t_adds ?_ ?_
 ·rw [app_len]; omega
 and_intros
 refine ⟨by omega, fun y3 hy3 => ?_⟩
 have c3 := cut_le hy3
 and_intros
 refine t_adds ?_ ?_
 ·omega
 and_intros
 refine ⟨by omega, fun y4 hy4 => ?_⟩
 have c4 := cut_le hy4
 refine t_adds ?_ ?_
 ·rw [app_len]; omega
 and_intros
 refine ⟨by omega, fun y5 hy5 => ?_⟩
 have c5 := cut_le hy5
 and_intros
 refine ⟨by omega, fun y6 hy6 => ?_⟩
 have c6 := cut_le hy6
 refine t_adds ?_ ?_
 ·omega
 and_intros
 intro p1 hp1; generalize e1 : up _ p1 (O.lst _) = Γ1; have g1 := al_g e1; have l1 := al_l e1 hp1
 and_intros
 refine ⟨rfl, by omega, fun y7 c7 => ?_⟩
 and_intros
 refine t_adds ?_ ?_
 ·omega
 and_intros
 refine t_adds ?_ ?_
 ·omega
 and_intros
 refine ⟨rfl, z, rfl, by omega, fun y8 c8 _ => ?_⟩
 and_intros
 intro p2 hp2; generalize e2 : up _ p2 (O.lst _) = Γ2; have g2 := al_g e2; have l2 := al_l e2 hp2
 refine ⟨p1, p2, _, _, rfl, rfl, l2 _ _ g1, g2, Nat.le_of_lt (small1000 (by show 3 + 4 ≤ 1000; decide)), ?_⟩
 intro p3 hp3; generalize e3 : up _ p3 (O.lst _) = Γ3; have g3 := al_g e3; have l3 := al_l e3 hp3
 obtain ⟨zs, g3, hz, nz⟩ : ∃ zs : List Str, Γ3 p3 = some (.lst (zs.map T.str)) ∧ (∀ y ∈ zs, y.length ≤ 3 * b + 2) ∧ zs.length = 7 := by
  refine ⟨[_, _, _, _, _, _, _], g3, fun y hy => ?_, rfl⟩
  simp only [List.mem_cons, List.not_mem_nil, or_false] at hy
  rcases hy with rfl | rfl | rfl | rfl | rfl | rfl | rfl
  ·rw [app_len, app_len]; omega
  ·rw [app_len, app_len]; omega
  ·rw [app_len]; omega
  ·omega
  ·rw [app_len]; omega
  ·rw [app_len]; omega
  ·omega
 and_intros
 obtain ⟨t, ht, mt⟩ := at_some (xs := zs.map T.str) (r := wy) w0 (by rw [List.length_map, nz]; exact w7)
 obtain ⟨y, my, rfl⟩ := List.mem_map.mp mt
 refine t_ixR g3 ht ?_
 exact drop0 (l1.trans (l2.trans l3)) (q y (hz y my))
abbrev s_law_whole : Stmt := top 26
theorem sc_law_whole : FnScope ["thing"] ["thing"] (defScope s_law_whole) := ⟨rfl, rfl, rfl, by decide +kernel, rfl, by decide +kernel, by decide +kernel⟩
theorem ok_law_whole (F : Fun K "_law_whole" "_law_whole" s_law_whole f fd) (z_isinstance : mg "isinstance" = none) (z_int : mg "int" = none) (z_bool : mg "bool" = none) : FnOk P w K mg base CX0 1 f fd ["thing"] (liSp spWh) := by
 refine okd F sc_law_whole (fun ts Γ Z Y h => ?_) (fun cdv A outer s H E ts Γ Z Y hr h => ?_)
 ·obtain ⟨t, rfl, _⟩ := h
  rfl
 obtain ⟨t, rfl, pt, q⟩ := h
 refine ⟨_, (qss_cons (qs_ret (qe_and (qe_inst rfl z_isinstance rfl z_int bt_int (qv 0)) (qe_one (qe_not (qe_inst rfl z_isinstance rfl z_bool bt_bool (qv 0))))))
  qss_nil), ?_⟩
 simp only [start3]
 and_intros
 refine t_in (in_int pt) ?_
 and_intros
 refine c_if (fun c => ?_) (fun c => ?_)
 ·and_intros
  refine t_in (in_bl pt) ?_
  and_intros
  refine drop0 .refl ?_
  cases t with
  | int i => exact q
  | bl b => exact q
  | _ => cases c
 ·refine drop0 .refl ?_
  cases t with
  | int i => cases c
  | bl b => cases c
  | _ => exact q
abbrev s_law_other : Stmt := top 35
theorem sc_law_other : FnScope ["node", "s", "way"] ["node", "s"] (defScope s_law_other) := ⟨rfl, rfl, rfl, by decide +kernel, rfl, by decide +kernel, by decide +kernel⟩
def spOth : Sp3 := fun ts Γ Z _ => ∃ (b : Nat) (t : T) (s : Addr) (ns : List Int), ts = [t, .ref s] ∧ 100 ≤ b ∧ b ≤ 400 ∧ Pb b Γ t ∧ Γ s = some (.lst (ns.map T.int)) ∧ ns.length = 7 ∧ ∀ (t' : T) (Γ' : Gp), Pb (3 * b + 2) Γ' t' → Le Γ Γ' → Z t' Γ'
theorem ok_other (F : Fun K "_law_other" "_law_other" s_law_other f fd) (c_law_plain : Cl3 P w K mg base "_law_plain" 1 ["number"] spPln) (c_law_other_row : Cl3 P w K mg base "_law_other_row" 2 ["node", "way", "s"] spRow) (c_law_other_word : Cl3 P w K mg base "_law_other_word" 2 ["node", "way", "s"] spWw) (c_law_whole : Cl3 P w K mg base "_law_whole" 1 ["thing"] spWh) (z_isinstance : mg "isinstance" = none) (z_tuple : mg "tuple" = none) (z_str : mg "str" = none) : FnOk P w K mg base CX0 3 f fd ["node", "s"] (liSp spOth) := by
 refine okd F sc_law_other (fun ts Γ Z Y h => ?_) (fun cdv A outer s H E ts Γ Z Y hr h => ?_)
 ·obtain ⟨b, t, sa, ns, rfl, _⟩ := h
  rfl
 obtain ⟨b, t, sa, ns, rfl, b1, b2, pb, gs, n7, q⟩ := h
 refine ⟨_, (qss_cons (qs_set (i := 2) sc_law_other.nd rfl (Or.inl rfl) (qe_op oq_mod (qe_ix (qv 1) qe_int (fun _ _ => rfl)) qe_int))
  (qss_cons (qs_if (PW.pt (qw_and (qt_val (qe_inst rfl z_isinstance rfl z_tuple bt_tuple (qv 0))) (qw_and1 (qt_cmpR oq_lt (qv 2) qe_int (nomark _))))) (qss_cons (qs_ret (qe_call c_law_other_row hr (by omega) rfl (qa_cons (qv 0) (qa_cons (qv 2) (qa_cons (qv 1) qa_nil)))))
  qss_nil) qss_nil)
  (qss_cons (qs_if (PW.pt (qw_and (qt_val (qe_inst rfl z_isinstance rfl z_str bt_str (qv 0))) (qw_and1 (qt_cmpR oq_lt (qv 2) qe_int (nomark _))))) (qss_cons (qs_ret (qe_call c_law_other_word hr (by omega) rfl (qa_cons (qv 0) (qa_cons (qv 2) (qa_cons (qv 1) qa_nil)))))
  qss_nil) qss_nil)
  (qss_cons (qs_if (PW.pt (qw_and (qt_val (qe_call c_law_whole hr (by omega) rfl (qa_cons (qv 0) qa_nil))) (qw_and1 (qt_cmpR oq_lt (qv 2) qe_int (nomark _))))) (qss_cons (qs_ret (qe_ix (qe_lst (qa_cons (qe_op oq_add (qv 0) qe_int) (qa_cons (qe_op oq_sub (qv 0) qe_int) (qa_cons (qe_op oq_sub (qe_neg (qv 0)) qe_int) (qa_cons (qe_op oq_add (qv 0) qe_int) (qa_cons (qe_op oq_mul (qv 0) qe_int) (qa_cons (qe_cmpR oq_eq (qv 0) qe_int (nomark _)) (qa_cons (qe_callTy cq_str rfl z_str bt_str (qa_cons (qv 0) qa_nil)) qa_nil)))))))) (qv 2) (fun _ _ => rfl)))
  qss_nil) qss_nil)
  (qss_cons (qs_if (qt_cmpR oq_eq (qv 2) qe_int (nomark _)) (qss_cons (qs_ret (qe_tup (qa_cons (qv 0) qa_nil)))
  qss_nil) qss_nil)
  (qss_cons (qs_if (qt_cmpR oq_eq (qv 2) qe_int (nomark _)) (qss_cons (qs_ret (qe_tup (qa_cons qe_str (qa_cons (qv 0) qa_nil))))
  qss_nil) qss_nil)
  (qss_cons (qs_ret (qe_call c_law_plain hr (by omega) rfl (qa_cons (qe_ix (qv 1) qe_int (fun _ _ => rfl)) qa_nil)))
  qss_nil))))))), ?_⟩
 simp only [start3]
 obtain ⟨r3, _, _, x3⟩ := ix_int (ns := ns) (j := 3) (by omega)
 obtain ⟨r4, _, _, x4⟩ := ix_int (ns := ns) (j := 4) (by omega)
 have pt : Pt Γ t := pb.pt (by omega)
 and_intros
 refine t_ixR gs x3 ?_
 and_intros
 have w0 : 0 ≤ r3 % 11 ∧ r3 % 11 < 11 := ⟨Int.emod_nonneg _ (by decide), Int.emod_lt_of_pos _ (by decide)⟩
 generalize r3 % 11 = wy at *
 have pb0 := pb
 refine t_in (in_tup pt) ?_
 and_intros
 by_cases hw : wy < 7
 ·cases pb with
  | @tup us l h =>
   and_intros
   refine c_ifT (decide_eq_true hw) ?_
   and_intros
   exact ⟨b, us, wy, sa, ns, rfl, b1, b2, .tup l h, gs, n7, fun t' Γ' p' l' => drop0 .refl (q t' Γ' p' l')⟩
  | @str z l =>
   and_intros
   refine t_in (in_str pt) ?_
   and_intros
   refine c_ifT (decide_eq_true hw) ?_
   and_intros
   exact ⟨b, z, wy, sa, ns, rfl, b1, b2, l, w0.1, hw, gs, n7, fun y ly => drop0 .refl (q _ Γ (.str ly) .refl)⟩
  | @int i hi =>
   and_intros
   refine t_in (in_str pt) ?_
   and_intros
   refine ⟨.int i, rfl, pt, ?_⟩
   show ∃ k, T.bl true = .bl k ∧ _
   and_intros
   refine c_ifT (decide_eq_true hw) ?_
   and_intros
   refine ⟨i, rfl, ?_, ?_⟩
   ·rcases Nat.eq_zero_or_pos i.natAbs with e | e
    ·rw [e]; decide
    ·exact Nat.lt_of_lt_of_le ((Nat.log2_lt (by omega)).mpr hi) (by omega)
   and_intros
   intro p1 hp1; generalize e1 : up _ p1 (O.lst _) = Γ1; have g1 := al_g e1; have l1 := al_l e1 hp1
   and_intros
   have tl := tx_len (by omega) hi
   have p2 : (2 : Nat) ^ b * 4 ≤ 2 ^ (3 * b + 2) := by
    rw [show (2 : Nat) ^ b * 4 = 2 ^ (b + 2) by rw [Nat.pow_add]]
    exact Nat.pow_le_pow_right (by decide) (by omega)
   have p3 : (65536 : Nat) ≤ 2 ^ b := Nat.le_trans (by decide : (65536 : Nat) ≤ 2 ^ 100) (Nat.pow_le_pow_right (by decide) b1)
   generalize (2 : Nat) ^ b = B at *
   obtain ⟨L, g1, hL, nL⟩ : ∃ L : List T, Γ1 p1 = some (.lst L) ∧ (∀ x ∈ L, Pb (3 * b + 2) Γ1 x) ∧ L.length = 7 := by
    refine ⟨_, g1, fun x hx => ?_, rfl⟩
    simp only [List.mem_cons, List.not_mem_nil, or_false] at hx
    rcases hx with rfl | rfl | rfl | rfl | rfl | rfl | rfl
    ·exact .int (by omega)
    ·exact .int (by omega)
    ·exact .int (by omega)
    ·exact .int (by omega)
    ·exact .int (by omega)
    ·exact .bl _
    ·exact .str (by omega)
   obtain ⟨x, hx, mx⟩ := at_some (xs := L) (r := wy) w0.1 (by rw [nL]; exact hw)
   refine t_ixR g1 hx ?_
   exact drop0 .refl (q x Γ1 (hL x mx) l1)
  | non =>
   have hw' : decide (wy < 7) = true := decide_eq_true hw
   and_intros
   try (rw [hw']; and_intros)
   refine t_in (in_str pt) ?_
   and_intros
   try (rw [hw']; and_intros)
   refine ⟨_, rfl, pt, ?_⟩
   and_intros
   try (rw [hw']; and_intros)
   refine c_if (fun c7 => ?_) (fun c7 => ?_)
   ·and_intros
    exact drop0 .refl (q _ Γ (.tup (by show 1 ≤ _; omega) (fun x hx => by rw [List.mem_singleton.mp hx]; exact pb0.mono (by omega) .refl)) .refl)
   and_intros
   refine c_if (fun c8 => ?_) (fun c8 => ?_)
   ·and_intros
    refine drop0 .refl (q _ Γ (.tup (by show 2 ≤ _; omega) (fun x hx => ?_)) .refl)
    simp only [List.mem_cons, List.not_mem_nil, or_false] at hx
    rcases hx with rfl | rfl
    ·exact .str (by show 3 ≤ _; omega)
    ·exact pb0.mono (by omega) .refl
   and_intros
   refine t_ixR gs x4 ?_
   and_intros
   exact ⟨r4, rfl, fun t' Γ' p' l' => drop0 .refl (q t' Γ' (p'.mono (by omega) .refl) l')⟩
  | bl k =>
   have hw' : decide (wy < 7) = true := decide_eq_true hw
   and_intros
   try (rw [hw']; and_intros)
   refine t_in (in_str pt) ?_
   and_intros
   try (rw [hw']; and_intros)
   refine ⟨_, rfl, pt, ?_⟩
   and_intros
   try (rw [hw']; and_intros)
   refine c_if (fun c7 => ?_) (fun c7 => ?_)
   ·and_intros
    exact drop0 .refl (q _ Γ (.tup (by show 1 ≤ _; omega) (fun x hx => by rw [List.mem_singleton.mp hx]; exact pb0.mono (by omega) .refl)) .refl)
   and_intros
   refine c_if (fun c8 => ?_) (fun c8 => ?_)
   ·and_intros
    refine drop0 .refl (q _ Γ (.tup (by show 2 ≤ _; omega) (fun x hx => ?_)) .refl)
    simp only [List.mem_cons, List.not_mem_nil, or_false] at hx
    rcases hx with rfl | rfl
    ·exact .str (by show 3 ≤ _; omega)
    ·exact pb0.mono (by omega) .refl
   and_intros
   refine t_ixR gs x4 ?_
   and_intros
   exact ⟨r4, rfl, fun t' Γ' p' l' => drop0 .refl (q t' Γ' (p'.mono (by omega) .refl) l')⟩
  | lst g =>
   have hw' : decide (wy < 7) = true := decide_eq_true hw
   and_intros
   try (rw [hw']; and_intros)
   refine t_in (in_str pt) ?_
   and_intros
   try (rw [hw']; and_intros)
   refine ⟨_, rfl, pt, ?_⟩
   and_intros
   try (rw [hw']; and_intros)
   refine c_if (fun c7 => ?_) (fun c7 => ?_)
   ·and_intros
    exact drop0 .refl (q _ Γ (.tup (by show 1 ≤ _; omega) (fun x hx => by rw [List.mem_singleton.mp hx]; exact pb0.mono (by omega) .refl)) .refl)
   and_intros
   refine c_if (fun c8 => ?_) (fun c8 => ?_)
   ·and_intros
    refine drop0 .refl (q _ Γ (.tup (by show 2 ≤ _; omega) (fun x hx => ?_)) .refl)
    simp only [List.mem_cons, List.not_mem_nil, or_false] at hx
    rcases hx with rfl | rfl
    ·exact .str (by show 3 ≤ _; omega)
    ·exact pb0.mono (by omega) .refl
   and_intros
   refine t_ixR gs x4 ?_
   and_intros
   exact ⟨r4, rfl, fun t' Γ' p' l' => drop0 .refl (q t' Γ' (p'.mono (by omega) .refl) l')⟩
  | dct g =>
   have hw' : decide (wy < 7) = true := decide_eq_true hw
   and_intros
   try (rw [hw']; and_intros)
   refine t_in (in_str pt) ?_
   and_intros
   try (rw [hw']; and_intros)
   refine ⟨_, rfl, pt, ?_⟩
   and_intros
   try (rw [hw']; and_intros)
   refine c_if (fun c7 => ?_) (fun c7 => ?_)
   ·and_intros
    exact drop0 .refl (q _ Γ (.tup (by show 1 ≤ _; omega) (fun x hx => by rw [List.mem_singleton.mp hx]; exact pb0.mono (by omega) .refl)) .refl)
   and_intros
   refine c_if (fun c8 => ?_) (fun c8 => ?_)
   ·and_intros
    refine drop0 .refl (q _ Γ (.tup (by show 2 ≤ _; omega) (fun x hx => ?_)) .refl)
    simp only [List.mem_cons, List.not_mem_nil, or_false] at hx
    rcases hx with rfl | rfl
    ·exact .str (by show 3 ≤ _; omega)
    ·exact pb0.mono (by omega) .refl
   and_intros
   refine t_ixR gs x4 ?_
   and_intros
   exact ⟨r4, rfl, fun t' Γ' p' l' => drop0 .refl (q t' Γ' (p'.mono (by omega) .refl) l')⟩
 ·have hw' : decide (wy < 7) = false := decide_eq_false hw
  cases pb
  all_goals
   and_intros
   try (rw [hw']; and_intros)
   refine t_in (in_str pt) ?_
   and_intros
   try (rw [hw']; and_intros)
   refine ⟨_, rfl, pt, ?_⟩
   and_intros
   try (rw [hw']; and_intros)
   refine c_if (fun c7 => ?_) (fun c7 => ?_)
   ·and_intros
    exact drop0 .refl (q _ Γ (.tup (by show 1 ≤ _; omega) (fun x hx => by rw [List.mem_singleton.mp hx]; exact pb0.mono (by omega) .refl)) .refl)
   and_intros
   refine c_if (fun c8 => ?_) (fun c8 => ?_)
   ·and_intros
    refine drop0 .refl (q _ Γ (.tup (by show 2 ≤ _; omega) (fun x hx => ?_)) .refl)
    simp only [List.mem_cons, List.not_mem_nil, or_false] at hx
    rcases hx with rfl | rfl
    ·exact .str (by show 3 ≤ _; omega)
    ·exact pb0.mono (by omega) .refl
   and_intros
   refine t_ixR gs x4 ?_
   and_intros
   exact ⟨r4, rfl, fun t' Γ' p' l' => drop0 .refl (q t' Γ' (p'.mono (by omega) .refl) l')⟩
end
theorem sizeD (l : Nat) : Builtin.Range.rangeSize ((l : Int) - 1) (-1) (-1) = (l : Int) := by
 unfold Builtin.Range.rangeSize
 rw [if_neg (by decide)]
 by_cases h : l = 0
 ·subst h; rfl
 ·rw [if_pos (by omega), show -(-1 : Int) = 1 by decide, Int.ediv_one]
  omega
def jT (j : Nat) : T := .int (j : Int)
section
variable {P : Program} {w : World} {K : PySem.W.Frag} {mg : Str → Option Value} {base : Heap} {f C : Addr} {fd : FuncData} {v1 v2 v3 : Value}
abbrev s_law_spoilt : Stmt := top 36
theorem sc_law_spoilt : FnScope ["thing", "s", "nodes", "path", "number", "made", "k"] ["thing", "s"] (defScope s_law_spoilt) := ⟨rfl, rfl, rfl, by decide +kernel, rfl, by decide +kernel, by decide +kernel⟩
def spSpo : Sp3 := fun ts Γ Z _ => ∃ (b : Nat) (t : T) (s : Addr) (ns : List Int), ts = [t, .ref s] ∧ 100 ≤ b ∧ b ≤ 400 ∧ Pb b Γ t ∧ Γ s = some (.lst (ns.map T.int)) ∧ ns.length = 7 ∧ ∀ (t' : T) (Γ' : Gp), Pb (3 * b + 2) Γ' t' → Le Γ Γ' → Z t' Γ'
theorem ok_spoilt (F : Fun K "_law_spoilt" "_law_spoilt" s_law_spoilt f fd) (c_law_other : Cl3 P w K mg base "_law_other" 3 ["node", "s"] spOth) (z_isinstance : mg "isinstance" = none) (z_tuple : mg "tuple" = none) (z_len : mg "len" = none) (z_range : mg "range" = none) : FnOk P w K mg base CX0 4 f fd ["thing", "s"] (liSp spSpo) := by
 refine okd F sc_law_spoilt (fun ts Γ Z Y h => ?_) (fun cdv A outer s H E ts Γ Z Y hr h => ?_)
 ·obtain ⟨b, t, sa, ns, rfl, _⟩ := h
  rfl
 obtain ⟨b, t, sa, ns, rfl, b1, b2, pb, gs, n7, q⟩ := h
 refine ⟨_, (qss_cons (qs_set (i := 2) sc_law_spoilt.nd rfl (Or.inl rfl) (qe_lst (qa_cons (qv 0) qa_nil)))
  (qss_cons (qs_set (i := 3) sc_law_spoilt.nd rfl (Or.inl rfl) (qe_lst qa_nil))
  (qss_cons (qs_set (i := 4) sc_law_spoilt.nd rfl (Or.inl rfl) (qe_op oq_add (qe_op oq_mul (qe_ix (qv 1) qe_int (fun _ _ => rfl)) qe_int) (qe_ix (qv 1) qe_int (fun _ _ => rfl))))
  (qss_cons (qs_while PassesOwn.never (PW.pt (qw_and (qt_cmpR oq_lt (qe_callB cq_len rfl z_len PySem.boot_len (qa_cons (qv 3) qa_nil)) (qe_op oq_mod (qe_ix (qv 1) qe_int (fun _ _ => rfl)) qe_int) (nomark _)) (qw_and (qt_val (qe_inst rfl z_isinstance rfl z_tuple bt_tuple (qe_ix (qv 2) (qe_neg qe_int) (fun _ _ => rfl)))) (qw_and1 (qt_cmpR oq_gt (qe_callB cq_len rfl z_len PySem.boot_len (qa_cons (qe_ix (qv 2) (qe_neg qe_int) (fun _ _ => rfl)) qa_nil)) qe_int (nomark _)))))) (qss_cons (qs_expr (qe_bm PySem.F.plainAttrs_list PySem.F.slot_list_append PySem.F.type_list_append mq_append (qv 3) (qa_cons (qe_op oq_mod (qv 4) (qe_callB cq_len rfl z_len PySem.boot_len (qa_cons (qe_ix (qv 2) (qe_neg qe_int) (fun _ _ => rfl)) qa_nil))) qa_nil)))
  (qss_cons (qs_set (i := 4) sc_law_spoilt.nd rfl (Or.inl rfl) (qe_op oq_fdiv (qv 4) (qe_callB cq_len rfl z_len PySem.boot_len (qa_cons (qe_ix (qv 2) (qe_neg qe_int) (fun _ _ => rfl)) qa_nil))))
  (qss_cons (qs_expr (qe_bm PySem.F.plainAttrs_list PySem.F.slot_list_append PySem.F.type_list_append mq_append (qv 2) (qa_cons (qe_ix (qe_ix (qv 2) (qe_neg qe_int) (fun _ _ => rfl)) (qe_ix (qv 3) (qe_neg qe_int) (fun _ _ => rfl)) (fun _ _ => rfl)) qa_nil)))
  qss_nil))))
  (qss_cons (qs_set (i := 5) sc_law_spoilt.nd rfl (Or.inl rfl) (qe_call c_law_other hr (by omega) rfl (qa_cons (qe_ix (qv 2) (qe_neg qe_int) (fun _ _ => rfl)) (qa_cons (qv 1) qa_nil))))
  (qss_cons (qs_for PassesOwn.never rfl (qi_range3 rfl z_range (qa_cons (qe_op oq_sub (qe_callB cq_len rfl z_len PySem.boot_len (qa_cons (qv 3) qa_nil)) qe_int) (qa_cons (qe_neg qe_int) (qa_cons (qe_neg qe_int) qa_nil)))) (qg_name (i := 6) sc_law_spoilt.nd rfl (Or.inl rfl)) (qss_cons (qs_set (i := 5) sc_law_spoilt.nd rfl (Or.inl rfl) (qe_op oq_cat (qe_op oq_cat (qe_slice sq_tup (qe_ix (qv 2) (qv 6) (fun _ _ => rfl)) qo_none (qo_some (qe_ix (qv 3) (qv 6) (fun _ _ => rfl)))) (qe_tup (qa_cons (qv 5) qa_nil))) (qe_slice sq_tup (qe_ix (qv 2) (qv 6) (fun _ _ => rfl)) (qo_some (qe_op oq_add (qe_ix (qv 3) (qv 6) (fun _ _ => rfl)) qe_int)) qo_none)))
  qss_nil))
  (qss_cons (qs_ret (qv 5))
  qss_nil))))))), ?_⟩
 simp only [start3]
 have sl := sizeLine_eq
 obtain ⟨r0, _, _, x0⟩ := ix_int (ns := ns) (j := 0) (by omega)
 obtain ⟨r1, _, _, x1⟩ := ix_int (ns := ns) (j := 1) (by omega)
 obtain ⟨r2, _, _, x2⟩ := ix_int (ns := ns) (j := 2) (by omega)
 and_intros
 intro pn hpn; generalize e1 : up _ pn (O.lst _) = Γ1; have gn := al_g e1; have l1 := al_l e1 hpn
 and_intros
 intro pp hpp; generalize e2 : up _ pp (O.lst _) = Γ2; have gp := al_g e2; have l2 := al_l e2 hpp
 have bp : Γ pp = none := le_none l1 hpp
 have nnp : pn ≠ pp := gnn gn hpp
 have nsn : sa ≠ pn := gnn gs hpn
 have nsp : sa ≠ pp := gnn gs bp
 have l02 := l1.trans l2
 and_intros
 refine t_ixR (l02 _ _ gs) x1 ?_
 and_intros
 refine t_ixR (l02 _ _ gs) x2 ?_
 and_intros
 have b12 : 0 ≤ r0 % 12 ∧ r0 % 12 < 12 := ⟨Int.emod_nonneg _ (by decide), Int.emod_lt_of_pos _ (by decide)⟩
 refine ⟨fun m τ Γ' => ∃ (ts : List T) (js : List Nat) (nr : Int), m = 12 - js.length ∧ ts.length = js.length + 1 ∧ js.length ≤ 12 ∧ (∀ k, k < js.length → ∃ us, ts[k]? = some (.tup us)) ∧ (∀ x ∈ ts, Pb b Γ x) ∧ τ = [some t, some (.ref sa), some (.ref pn), some (.ref pp), some (.int nr), none, none] ∧ Γ' pn = some (.lst ts) ∧ Γ' pp = some (.lst (js.map jT)) ∧ Kq [pn, pp] Γ Γ', ⟨12, [t], [], _, rfl, rfl, by decide, fun k h => absurd h (Nat.not_lt_zero _), fun x hx => by rw [List.mem_singleton.mp hx]; exact pb, rfl, l2 _ _ gn, gp, l02.kq⟩, ?_⟩
 rintro m τ Γ' ⟨ts, js, nr, rfl, tl, jl, ch, pa, rfl, gn', gp', kq⟩
 have gs' := kq _ _ (by simp [nsn, nsp]) gs
 obtain ⟨x, hx⟩ : ∃ x, ts[ts.length - 1]? = some x := ⟨ts[ts.length - 1]'(by omega), by simp⟩
 have px := pa x (List.mem_of_getElem? hx)
 have ax := atI_last hx
 have lΓ : Le Γ Γ' := fun y o h => kq y o (by
  have n1 : y ≠ pn := gnn h hpn
  have n2 : y ≠ pp := gnn h bp
  simp [n1, n2]) h
 and_intros
 refine t_lenR gp' ?_
 rw [List.length_map]
 and_intros
 refine t_ixR gs' x0 ?_
 and_intros
 refine c_if (fun c1 => ?_) (fun c1 => ?_)
 and_intros
 refine t_ixR gn' ax ?_
 refine t_in (in_tup ((px.mono (Nat.le_refl _) lΓ).pt (by omega))) ?_
 and_intros
 refine c_if (fun c2 => ?_) (fun c2 => ?_)
 obtain ⟨us, rfl⟩ := isTup_t c2
 and_intros
 refine t_ixR gn' ax ?_
 and_intros
 refine c_if (fun c3 => ?_) (fun c3 => ?_)
 ·have c1 := of_decide_eq_true c1
  have c3 := of_decide_eq_true c3
  obtain ⟨ul, um⟩ := px.items
  and_intros
  refine ⟨fun τ Γ3 => ∃ (j : Nat) (nr2 : Int), j < us.length ∧ τ = [some t, some (.ref sa), some (.ref pn), some (.ref pp), some (.int nr2), none, none] ∧ Γ3 pn = some (.lst (ts ++ [us.getD j .non])) ∧ Γ3 pp = some (.lst ((js ++ [j]).map jT)) ∧ Kq [pn, pp] Γ Γ3, ?_, ?_⟩
  ·rintro τ Γ3 ⟨j, nr2, hj, rfl, gn3, gp3, kq3⟩
   refine ⟨12 - (js ++ [j]).length, ?_, ts ++ [us.getD j .non], js ++ [j], nr2, rfl, ?_, ?_, fun k hk => ?_, fun y hy => ?_, rfl, gn3, gp3, kq3⟩
   ·rw [List.length_append]; show 12 - (js.length + 1) < _; omega
   ·rw [List.length_append, List.length_append, tl]; rfl
   ·rw [List.length_append]; show js.length + 1 ≤ 12; omega
   ·rw [List.length_append] at hk
    have hk : k < js.length + 1 := hk
    by_cases e : k = js.length
    ·refine ⟨us, ?_⟩
     rw [List.getElem?_append_left (by omega), e, show js.length = ts.length - 1 by omega]
     exact hx
    ·obtain ⟨vs, hv⟩ := ch k (by omega)
     exact ⟨vs, by rw [List.getElem?_append_left (by omega)]; exact hv⟩
   ·rcases List.mem_append.mp hy with hy | hy
    ·exact pa y hy
    ·rw [List.mem_singleton.mp hy]
     refine um _ ?_
     rw [List.getD_eq_getElem?_getD, List.getElem?_eq_getElem hj]
     exact List.getElem_mem hj
  and_intros
  refine t_tyL gp' ?_
  and_intros
  refine t_ixR gn' ax ?_
  and_intros
  refine t_I (by show (0 : Int) < _; omega) ?_
  have b0 := Int.emod_nonneg nr (show (us.length : Int) ≠ 0 by omega)
  have b1' := Int.emod_lt_of_pos nr (show (0 : Int) < us.length by omega)
  obtain ⟨j, hj⟩ : ∃ j : Nat, nr % (us.length : Int) = j := ⟨(nr % (us.length : Int)).toNat, by omega⟩
  have hj2 : j < us.length := by omega
  rw [hj]
  and_intros
  refine ⟨pp, _, _, rfl, rfl, gp', small1000 (by rw [List.length_map]; omega), ?_⟩
  have gnB : (up Γ' pp (.lst (js.map jT ++ [T.int (j : Nat)]))) pn = some (.lst ts) := by rw [up_ne nnp]; exact gn'
  have gpB : (up Γ' pp (.lst (js.map jT ++ [T.int (j : Nat)]))) pp = some (.lst ((js ++ [j]).map jT)) := by rw [up_same, List.map_append]; rfl
  and_intros
  refine t_ixR gnB ax ?_
  and_intros
  refine t_I ⟨by omega, by omega⟩ ?_
  and_intros
  refine t_tyL gnB ?_
  and_intros
  refine t_ixR gnB ax ?_
  and_intros
  refine t_ixR gpB (atI_last (x := jT j) (by simp)) ?_
  refine t_ixN (t := us.getD j .non) (by rw [List.getD_eq_getElem?_getD, List.getElem?_eq_getElem hj2]; rfl) ?_
  and_intros
  refine ⟨pn, _, _, rfl, rfl, gnB, small1000 (by omega), ?_⟩
  and_intros
  exact ⟨j, _, hj2, rfl, up_same, by rw [up_ne nnp.symm]; exact gpB, (kq.trans (.set (by simp) _)).trans (.set (by simp) _)⟩
 all_goals
  and_intros
  refine t_ixR gn' ax ?_
  and_intros
  refine ⟨b, _, sa, ns, rfl, b1, b2, px.mono (Nat.le_refl _) lΓ, gs', n7, fun t' Γ3 pt' l3 => ?_⟩
  and_intros
  unfold iRg3
  and_intros
  refine t_lenR (l3 _ _ gp') ?_
  rw [List.length_map]
  and_intros
  refine ⟨(js.length : Int) - 1, -1, -1, js.length, rfl, .inr rfl, by omega, by omega, by decide, by decide, sizeD _, ?_⟩
  refine ⟨fun rest τ Γ4 => ∃ (m : Nat) (u : T) (o6 : Option T), m ≤ js.length ∧ rest = rngT3 ((m : Int) - 1) (-1) m ∧ τ = [some t, some (.ref sa), some (.ref pn), some (.ref pp), some (.int nr), some u, o6] ∧ Pb (3 * b + 2) Γ3 u ∧ Γ4 = Γ3, ⟨js.length, t', none, Nat.le_refl _, rfl, rfl, pt', rfl⟩, ?_, ?_⟩
  ·rintro τ Γ4 ⟨m, u, o6, mj, er, rfl, pu, rfl⟩
   refine ⟨trivial, ?_⟩
   and_intros
   exact drop0 .refl (q u Γ4 pu (lΓ.trans l3))
  ·rintro y rr τ Γ4 ⟨m, u, o6, mj, er, rfl, pu, rfl⟩
   obtain ⟨m', rfl, rfl, rfl⟩ := rngT3_cons er
   have em : ((m' + 1 : Nat) : Int) - 1 = (m' : Nat) := by omega
   rw [em]
   obtain ⟨vs, hv⟩ := ch m' (by omega)
   have pv : Pb b Γ4 (.tup vs) := (pa _ (List.mem_of_getElem? hv)).mono (Nat.le_refl _) (lΓ.trans l3)
   obtain ⟨vl, vm⟩ := pv.items
   have hj : (js.map jT)[m']? = some (jT js[m']) := by rw [List.getElem?_map, List.getElem?_eq_getElem (by omega)]; rfl
   generalize js[m'] = j at *
   and_intros
   refine t_ixR (l3 _ _ gn') (atI_nat hv) ?_
   and_intros
   refine t_ixR (l3 _ _ gp') (atI_nat hj) ?_
   unfold jT
   and_intros
   refine t_cat (by have := cutN_length vs none (some (j : Int)); show _ + 1 ≤ _; omega) ?_
   and_intros
   refine t_ixR (l3 _ _ gn') (atI_nat hv) ?_
   and_intros
   refine t_ixR (l3 _ _ gp') (atI_nat hj) ?_
   unfold jT
   and_intros
   have d1 : (cutN vs none (some (j : Int))).length = min j vs.length := by rw [cut_take (by omega), List.length_take]; rfl
   have d2 : (cutN vs (some ((j : Int) + 1)) none).length = vs.length - (j + 1) := by rw [cut_drop (by omega), List.length_drop]; omega
   refine t_cat (by rw [List.length_append]; show _ + 1 + _ ≤ _; omega) ?_
   and_intros
   refine ⟨m', _, _, by omega, by rw [show (m' : Int) + -1 = (m' : Int) - 1 by omega], rfl, .tup (by rw [List.length_append, List.length_append]; show _ + 1 + _ ≤ _; omega) (fun z hz => ?_), rfl⟩
   simp only [List.mem_append, List.mem_singleton] at hz
   rcases hz with (hz | hz) | hz
   ·exact (vm z (cut_mem hz)).mono (by omega) .refl
   ·rw [hz]; exact pu
   ·exact (vm z (cut_mem hz)).mono (by omega) .refl
end
theorem fds_bad {f : T → Bool} {ds r : List T} {x : T} (h : fdB f x = false ∨ ∃ z b, x = .tup [.str z, b] ∧ z ∈ ds.map nmOf) : fdsB f (.tup (ds ++ x :: r)) = false := by
 rw [fdsB_eq]
 rcases h with h | ⟨z, b, rfl, hz⟩
 ·have : (ds ++ x :: r).all (fdB f) = false := by rw [List.all_append, List.all_cons, h]; simp
  rw [this]; simp
 ·have : ¬ ((ds ++ .tup [.str z, b] :: r).map nmOf).Nodup := by
   rw [List.map_append, List.map_cons, List.nodup_append]
   rintro ⟨_, _, h3⟩
   exact h3 z hz z (by simp [nmOf]) rfl
  rw [decide_eq_false this, Bool.and_false]
theorem pls_bad {ds r : List T} {x : T} (h : plB x = false ∨ ∃ z b c, x = .tup [.str z, b, c] ∧ z ∈ ds.map nmOf) : plsB (.tup (ds ++ x :: r)) = false := by
 rw [plsB_eq]
 rcases h with h | ⟨z, b, c, rfl, hz⟩
 ·have : (ds ++ x :: r).all plB = false := by rw [List.all_append, List.all_cons, h]; simp
  rw [this]; rfl
 ·have : ¬ ((ds ++ .tup [.str z, b, c] :: r).map nmOf).Nodup := by
   rw [List.map_append, List.map_cons, List.nodup_append]
   rintro ⟨_, _, h3⟩
   exact h3 z hz z (by simp [nmOf]) rfl
  rw [decide_eq_false this, Bool.and_false]
section
variable {P : Program} {w : World} {K : PySem.W.Frag} {mg : Str → Option Value} {base : Heap} {f C : Addr} {fd : FuncData} {v1 v2 v3 : Value}
abbrev s_law_is_name : Stmt := top 27
theorem sc_law_is_name : FnScope ["thing"] ["thing"] (defScope s_law_is_name) := ⟨rfl, rfl, rfl, by decide +kernel, rfl, by decide +kernel, by decide +kernel⟩
theorem ok_law_is_name (F : Fun K "_law_is_name" "_law_is_name" s_law_is_name f fd) (z_isinstance : mg "isinstance" = none) (z_str : mg "str" = none) (z_len : mg "len" = none) : FnOk P w K mg base CX0 1 f fd ["thing"] (liSp spNmB) := by
 refine okd F sc_law_is_name (fun ts Γ Z Y h => ?_) (fun cdv A outer s H E ts Γ Z Y hr h => ?_)
 ·obtain ⟨t, rfl, _⟩ := h
  rfl
 obtain ⟨t, rfl, pt, q⟩ := h
 refine ⟨_, (qss_cons (qs_if (PW.pt (qw_or (qt_not (qt_val (qe_inst rfl z_isinstance rfl z_str bt_str (qv 0)))) (qw_or (qt_cmpR oq_lt (qe_callB cq_lens rfl z_len PySem.boot_len (qa_cons (qv 0) qa_nil)) qe_int (nomark _)) (qw_or1 (qt_cmpR oq_gt (qe_callB cq_lens rfl z_len PySem.boot_len (qa_cons (qv 0) qa_nil)) qe_int (nomark _)))))) (qss_cons (qs_ret qe_bl)
  qss_nil) qss_nil)
  (qss_cons (qs_ret (qe_cmpR (oq_eqNil hr.units0) (qe_comp (own := ["sign"]) (cap := []) (compOk0 rfl (by decide +kernel) (by decide +kernel)) rfl (qi_str (qv 0)) (fun _ _ _ _ => (qg_name (i := 0) (show List.Nodup (["sign"] : List Str) from by decide +kernel) rfl (Or.inl rfl) (Or.inr rfl))) (fun _ _ _ _ => (qts_one (qt_cmpR oq_nins (qv 0) qe_str (by with_unfolding_all rfl)))) (fun _ _ _ _ => (qv 0))) (qe_lst qa_nil) (nomark _)))
  qss_nil)), ?_⟩
 simp only [start3]
 and_intros
 refine t_in (in_str pt) ?_
 and_intros
 refine c_if (fun c => ?_) (fun c => ?_)
 ·and_intros
  refine drop0 .refl ?_
  cases t with
  | str z => cases c
  | _ => exact q
 obtain ⟨z, rfl⟩ := isStr_t (t := t) (by simpa using c)
 have zl := pt.txt
 have no : nmB (.str z) = false → dropK Z (.bl false) Γ := fun h => by rw [h] at q; exact drop0 .refl q
 and_intros
 refine ⟨z, rfl, Nat.le_of_lt (small1000 zl), ?_⟩
 and_intros
 refine c_if (fun c1 => ?_) (fun c1 => ?_)
 ·have c1 := of_decide_eq_true c1
  and_intros
  refine no ?_
  rw [nmB_eq, decide_eq_false (show ¬ 1 ≤ z.length by omega)]
  rfl
 have c1 := of_decide_eq_false c1
 and_intros
 refine ⟨z, rfl, Nat.le_of_lt (small1000 zl), ?_⟩
 and_intros
 refine c_if (fun c2 => ?_) (fun c2 => ?_)
 ·have c2 := of_decide_eq_true c2
  and_intros
  refine no ?_
  rw [nmB_eq, decide_eq_false (show ¬ z.length ≤ 8 by omega), Bool.and_false]
  rfl
 have c2 := of_decide_eq_false c2
 and_intros
 refine ⟨Nat.le_of_lt (small1000 (by unfold signsT; rw [List.length_map, len_codes]; omega)), ?_⟩
 refine ⟨fun rest τ ys Γ' => ∃ (cs ds : List Nat) (o : Option T), rest = cs.map (fun c => T.str ⟨#[c]⟩) ∧ z.cps.toList = ds ++ cs ∧ τ = [o] ∧ ys = (ds.filter fun c => !goodc c).map (fun c => T.str ⟨#[c]⟩) ∧ Γ' = Γ, ⟨z.cps.toList, [], none, rfl, rfl, rfl, rfl, rfl⟩, ?_, ?_⟩
 ·rintro τ ys Γ' ⟨cs, ds, o, er, ez, rfl, rfl, rfl⟩
  have hz : cs = [] := by
   cases cs with
   | nil => rfl
   | cons _ _ => cases er
  subst hz
  rw [List.append_nil] at ez
  subst ez
  refine ⟨trivial, ?_⟩
  intro p1 hp1; generalize e1 : up _ p1 (O.lst _) = Γ1; have g1 := al_g e1; have l1 := al_l e1 hp1
  and_intros
  intro p2 hp2; generalize e2 : up _ p2 (O.lst _) = Γ2; have g2 := al_g e2; have l2 := al_l e2 hp2
  refine ⟨p1, p2, _, rfl, rfl, l2 _ _ g1, g2, ?_⟩
  have : ((z.cps.toList.filter fun c => !goodc c).map fun c => T.str ⟨#[c]⟩).isEmpty = nmB (.str z) := by
   rw [nmB_eq, decide_eq_true (show 1 ≤ z.length by omega), decide_eq_true (show z.length ≤ 8 by omega), List.isEmpty_map, Bool.eq_iff_iff]
   generalize z.cps.toList = l
   simp [List.filter_eq_nil_iff]
  rw [this]
  exact drop0 (l1.trans l2) q
 ·rintro x r τ ys Γ' ⟨cs, ds, o, er, ez, rfl, rfl, rfl⟩
  cases cs with
  | nil => cases er
  | cons c cs =>
   cases er
   refine ⟨trivial, ?_⟩
   and_intros
   refine ⟨_, _, rfl, rfl, ?_⟩
   show ∃ k, T.bl (!goodc c) = .bl k ∧ _
   and_intros
   refine c_if (fun c3 => ?_) (fun c3 => ?_)
   ·and_intros
    exact ⟨cs, ds ++ [c], _, rfl, by rw [ez]; simp, rfl, by rw [List.filter_append, List.map_append]; simp [c3], rfl⟩
   ·exact ⟨cs, ds ++ [c], _, rfl, by rw [ez]; simp, rfl, by rw [List.filter_append, List.map_append]; simp [c3], rfl⟩
abbrev s_law_are_fields : Stmt := top 28
theorem sc_law_are_fields : FnScope ["thing", "depth", "names", "one"] ["thing", "depth"] (defScope s_law_are_fields) := ⟨rfl, rfl, rfl, by decide +kernel, rfl, by decide +kernel, by decide +kernel⟩
def spLk (n : Nat) : Sp3 := fun ts Γ Z _ => ∃ (t : T) (d : Int), ts = [t, .int d] ∧ 1 ≤ d ∧ (6 - d).toNat < n ∧ Pt Γ t ∧ Z (.bl (kwB (6 - d).toNat t)) Γ
def spLf (n : Nat) : Sp3 := fun ts Γ Z _ => ∃ (t : T) (d : Int), ts = [t, .int d] ∧ 1 ≤ d ∧ (5 - d).toNat < n ∧ Pt Γ t ∧ Z (.bl (fdsB (kwB (5 - d).toNat) t)) Γ
theorem ok_law_are_fields {n lv : Nat} (F : Fun K "_law_are_fields" "_law_are_fields" s_law_are_fields f fd) (c_law_is_name : Cl3 P w K mg base "_law_is_name" 1 ["thing"] spNmB) (c_law_is_kind : Cl3 P w K mg base "_law_is_kind" (lv + 1) ["thing", "depth"] (spLk n)) (z_isinstance : mg "isinstance" = none) (z_tuple : mg "tuple" = none) (z_len : mg "len" = none) : FnOk P w K mg base CX0 (lv + 2) f fd ["thing", "depth"] (liSp (spLf n)) := by
 refine okd F sc_law_are_fields (fun ts Γ Z Y h => ?_) (fun cdv A outer s H E ts Γ Z Y hr h => ?_)
 ·obtain ⟨t, d, rfl, _⟩ := h
  rfl
 obtain ⟨t, d, rfl, d1, dn, pt, q⟩ := h
 refine ⟨_, (qss_cons (qs_if (PW.pt (qw_or (qt_not (qt_val (qe_inst rfl z_isinstance rfl z_tuple bt_tuple (qv 0)))) (qw_or (qt_cmpR oq_lt (qe_callB cq_len rfl z_len PySem.boot_len (qa_cons (qv 0) qa_nil)) qe_int (nomark _)) (qw_or1 (qt_cmpR oq_gt (qe_callB cq_len rfl z_len PySem.boot_len (qa_cons (qv 0) qa_nil)) qe_int (nomark _)))))) (qss_cons (qs_ret qe_bl)
  qss_nil) qss_nil)
  (qss_cons (qs_set (i := 2) sc_law_are_fields.nd rfl (Or.inl rfl) (qe_lst qa_nil))
  (qss_cons (qs_for PassesOwn.never rfl (qi_tup (qv 0)) (qg_name (i := 3) sc_law_are_fields.nd rfl (Or.inl rfl)) (qss_cons (qs_if (PW.pt (qw_or (qt_not (qt_val (qe_inst rfl z_isinstance rfl z_tuple bt_tuple (qv 3)))) (qw_or (qt_cmpR oq_ne (qe_callB cq_len rfl z_len PySem.boot_len (qa_cons (qv 3) qa_nil)) qe_int (nomark _)) (qw_or (qt_not (qt_val (qe_call c_law_is_name hr (by omega) rfl (qa_cons (qe_ix (qv 3) qe_int (fun _ _ => rfl)) qa_nil)))) (qw_or1 (qt_cmpR oq_in (qe_ix (qv 3) qe_int (fun _ _ => rfl)) (qv 2) (by with_unfolding_all rfl))))))) (qss_cons (qs_ret qe_bl)
  qss_nil) qss_nil)
  (qss_cons (qs_if (qt_not (qt_val (qe_call c_law_is_kind hr (by omega) rfl (qa_cons (qe_ix (qv 3) qe_int (fun _ _ => rfl)) (qa_cons (qe_op oq_add (qv 1) qe_int) qa_nil))))) (qss_cons (qs_ret qe_bl)
  qss_nil) qss_nil)
  (qss_cons (qs_expr (qe_bm PySem.F.plainAttrs_list PySem.F.slot_list_append PySem.F.type_list_append mq_append (qv 2) (qa_cons (qe_ix (qv 3) qe_int (fun _ _ => rfl)) qa_nil)))
  qss_nil))))
  (qss_cons (qs_ret qe_bl)
  qss_nil)))), ?_⟩
 simp only [start3]
 and_intros
 refine t_in (in_tup pt) ?_
 and_intros
 refine c_if (fun c => ?_) (fun c => ?_)
 ·and_intros
  refine drop0 .refl ?_
  cases t with
  | tup ts => cases c
  | _ => exact q
 obtain ⟨ts, rfl⟩ := isTup_t (t := t) (by simpa using c)
 obtain ⟨tl, tm⟩ := pt.items
 generalize he : (5 - d).toNat = e at *
 have no : ∀ Γ', Le Γ Γ' → fdsB (kwB e) (.tup ts) = false → dropK Z (.bl false) Γ' := fun Γ' l h => by rw [h] at q; exact drop0 l q
 and_intros
 refine c_if (fun c1 => ?_) (fun c1 => ?_)
 ·have c1 := of_decide_eq_true c1
  and_intros
  refine no Γ .refl ?_
  rw [fdsB_eq, decide_eq_false (show ¬ 1 ≤ ts.length by omega)]
  rfl
 have c1 := of_decide_eq_false c1
 and_intros
 refine c_if (fun c2 => ?_) (fun c2 => ?_)
 ·have c2 := of_decide_eq_true c2
  and_intros
  refine no Γ .refl ?_
  rw [fdsB_eq, decide_eq_false (show ¬ ts.length ≤ 6 by omega), Bool.and_false]
  rfl
 have c2 := of_decide_eq_false c2
 and_intros
 intro pn hpn; generalize e1 : up _ pn (O.lst _) = Γ1; have gn := al_g e1; have l1 := al_l e1 hpn
 and_intros
 refine ⟨fun rest τ Γ' => ∃ (ds : List T) (o3 : Option T), ts = ds ++ rest ∧ τ = [some (.tup ts), some (.int d), some (.ref pn), o3] ∧ ds.all (fdB (kwB e)) = true ∧ (ds.map nmOf).Nodup ∧ Γ' pn = some (.lst ((ds.map nmOf).map T.str)) ∧ Kq [pn] Γ Γ', ⟨[], none, rfl, rfl, rfl, List.nodup_nil, gn, l1.kq⟩, ?_, ?_⟩
 ·rintro τ Γ' ⟨ds, o3, ez, rfl, al, nd, gn', kq⟩
  rw [List.append_nil] at ez
  subst ez
  refine ⟨trivial, ?_⟩
  and_intros
  have : fdsB (kwB e) (.tup ts) = true := by rw [fdsB_eq, decide_eq_true (show 1 ≤ ts.length by omega), decide_eq_true (show ts.length ≤ 6 by omega), al, decide_eq_true nd]; rfl
  rw [this] at q
  exact drop0 (fun x o h => kq x o (by have := gnn h hpn; simpa using this) h) q
 ·rintro x r τ Γ' ⟨ds, o3, ez, rfl, al, nd, gn', kq⟩
  have lΓ : Le Γ Γ' := fun x o h => kq x o (by have := gnn h hpn; simpa using this) h
  have px : Pt Γ' x := (tm x (by rw [ez]; simp)).mono lΓ
  have bad : (fdB (kwB e) x = false ∨ ∃ z b, x = .tup [.str z, b] ∧ z ∈ ds.map nmOf) → dropK Z (.bl false) Γ' := fun h => no Γ' lΓ (by rw [ez]; exact fds_bad h)
  and_intros
  refine t_in (in_tup px) ?_
  and_intros
  refine c_if (fun c3 => ?_) (fun c3 => ?_)
  ·and_intros
   refine bad (.inl ?_)
   cases x with
   | tup us => cases c3
   | _ => rfl
  obtain ⟨us, rfl⟩ := isTup_t (t := x) (by simpa using c3)
  obtain ⟨ul, um⟩ := px.items
  and_intros
  refine c_if (fun c4 => ?_) (fun c4 => ?_)
  ·have c4 : us.length ≠ 2 := fun e => by rw [e] at c4; revert c4; decide
   and_intros
   exact bad (.inl (fdB_no c4))
  have c4 : us.length = 2 := by
   have : decide (V.int (us.length : Int) = V.int 2) = true := by simpa using c4
   have := d_int this
   omega
  match us, c4 with
  | [y, k], _ =>
   have eb : fdB (kwB e) (.tup [y, k]) = (nmB y && kwB e k) := rfl
   and_intros
   refine ⟨y, rfl, um y (by simp), ?_⟩
   and_intros
   refine c_if (fun c5 => ?_) (fun c5 => ?_)
   ·and_intros
    exact bad (.inl (by rw [eb, show nmB y = false by simpa using c5]; rfl))
   have c5 : nmB y = true := by simpa using c5
   obtain ⟨z, rfl⟩ := nmB_str c5
   and_intros
   refine t_inL gn' rfl (scs_strs _) rfl (strs_fl _) ?_
   show ∃ k, T.bl (inV (.str z) ((ds.map nmOf).map V.str)) = .bl k ∧ _
   rw [inV_strs]
   and_intros
   refine c_if (fun c6 => ?_) (fun c6 => ?_)
   ·and_intros
    exact bad (.inr ⟨z, k, rfl, of_decide_eq_true c6⟩)
   have c6 := of_decide_eq_false c6
   and_intros
   refine ⟨k, d + 1, rfl, by omega, by omega, um k (by simp), ?_⟩
   rw [show (6 - (d + 1)).toNat = e by omega]
   and_intros
   refine c_if (fun c7 => ?_) (fun c7 => ?_)
   ·and_intros
    exact bad (.inl (by rw [eb, show kwB e k = false by simpa using c7, Bool.and_false]))
   have c7 : kwB e k = true := by simpa using c7
   and_intros
   refine t_tyL gn' ?_
   and_intros
   have dl : ds.length ≤ 6 := by rw [ez, List.length_append] at c2; omega
   refine ⟨pn, _, _, rfl, rfl, gn', small1000 (by rw [List.length_map, List.length_map]; omega), ?_⟩
   and_intros
   refine ⟨ds ++ [.tup [.str z, k]], _, by rw [ez]; simp, rfl, ?_, ?_, ?_, kq.trans (.set (by simp) _)⟩
   ·rw [List.all_append, al]
    show (true && (fdB (kwB e) (.tup [.str z, k]) && true)) = true
    rw [eb, c5, c7]; rfl
   ·rw [List.map_append, List.nodup_append]
    refine ⟨nd, by simp, fun a ha b hb e => c6 ?_⟩
    have hb : b = z := by simpa [nmOf] using hb
    rw [← hb, ← e]; exact ha
   ·rw [up_same, List.map_append, List.map_append]; rfl
abbrev s_law_is_kind : Stmt := top 29
theorem sc_law_is_kind : FnScope ["thing", "depth"] ["thing", "depth"] (defScope s_law_is_kind) := ⟨rfl, rfl, rfl, by decide +kernel, rfl, by decide +kernel, by decide +kernel⟩
theorem ok_law_is_kind {n lv : Nat} (F : Fun K "_law_is_kind" "_law_is_kind" s_law_is_kind f fd) (c_law_whole : Cl3 P w K mg base "_law_whole" 1 ["thing"] spWh) (c_law_is_kind : Cl3 P w K mg base "_law_is_kind" (lv + 1) ["thing", "depth"] (spLk n)) (c_law_are_fields : Cl3 P w K mg base "_law_are_fields" (lv + 2) ["thing", "depth"] (spLf n)) (z_isinstance : mg "isinstance" = none) (z_tuple : mg "tuple" = none) (z_str : mg "str" = none) (z_len : mg "len" = none) : FnOk P w K mg base CX0 (lv + 3) f fd ["thing", "depth"] (liSp (spLk (n + 1))) := by
 refine okd F sc_law_is_kind (fun ts Γ Z Y h => ?_) (fun cdv A outer s H E ts Γ Z Y hr h => ?_)
 ·obtain ⟨t, d, rfl, _⟩ := h
  rfl
 obtain ⟨t, d, rfl, d1, dn, pt, q⟩ := h
 refine ⟨_, (qss_cons (qs_if (PW.pt (qw_or (qt_cmpR oq_gt (qv 1) qe_int (nomark _)) (qw_or (qt_not (qt_val (qe_inst rfl z_isinstance rfl z_tuple bt_tuple (qv 0)))) (qw_or (qt_cmpR oq_lt (qe_callB cq_len rfl z_len PySem.boot_len (qa_cons (qv 0) qa_nil)) qe_int (nomark _)) (qw_or1 (qt_not (qt_val (qe_inst rfl z_isinstance rfl z_str bt_str (qe_ix (qv 0) qe_int (fun _ _ => rfl)))))))))) (qss_cons (qs_ret qe_bl)
  qss_nil) qss_nil)
  (qss_cons (qs_if (qt_cmpR oq_eq (qe_callB cq_len rfl z_len PySem.boot_len (qa_cons (qv 0) qa_nil)) qe_int (nomark _)) (qss_cons (qs_ret (qe_cmpR oq_eq (qe_ix (qv 0) qe_int (fun _ _ => rfl)) qe_str (nomark _)))
  qss_nil) qss_nil)
  (qss_cons (qs_if (qt_cmpR oq_ne (qe_callB cq_len rfl z_len PySem.boot_len (qa_cons (qv 0) qa_nil)) qe_int (nomark _)) (qss_cons (qs_ret qe_bl)
  qss_nil) qss_nil)
  (qss_cons (qs_if (qt_cmpR oq_eq (qe_ix (qv 0) qe_int (fun _ _ => rfl)) qe_str (nomark _)) (qss_cons (qs_ret (qe_and (qe_call c_law_whole hr (by omega) rfl (qa_cons (qe_ix (qv 0) qe_int (fun _ _ => rfl)) qa_nil)) (qe_and (qe_cmpR oq_le qe_int (qe_ix (qv 0) qe_int (fun _ _ => rfl)) (nomark _)) (qe_one (qe_cmpR oq_le (qe_ix (qv 0) qe_int (fun _ _ => rfl)) qe_int (nomark _))))))
  qss_nil) qss_nil)
  (qss_cons (qs_if (qt_cmpR oq_eq (qe_ix (qv 0) qe_int (fun _ _ => rfl)) qe_str (nomark _)) (qss_cons (qs_ret (qe_call c_law_is_kind hr (by omega) rfl (qa_cons (qe_ix (qv 0) qe_int (fun _ _ => rfl)) (qa_cons (qe_op oq_add (qv 1) qe_int) qa_nil))))
  qss_nil) qss_nil)
  (qss_cons (qs_ret (qe_and (qe_or (qe_cmpR oq_eq (qe_ix (qv 0) qe_int (fun _ _ => rfl)) qe_str (nomark _)) (qe_one (qe_cmpR oq_eq (qe_ix (qv 0) qe_int (fun _ _ => rfl)) qe_str (nomark _)))) (qe_one (qe_call c_law_are_fields hr (by omega) rfl (qa_cons (qe_ix (qv 0) qe_int (fun _ _ => rfl)) (qa_cons (qv 1) qa_nil))))))
  qss_nil)))))), ?_⟩
 simp only [start3]
 have no : kwB (6 - d).toNat t = false → dropK Z (.bl false) Γ := fun h => by rw [h] at q; exact drop0 .refl q
 and_intros
 refine c_if (fun c => ?_) (fun c => ?_)
 ·have c := of_decide_eq_true c
  and_intros
  refine no ?_
  rw [show (6 - d).toNat = 0 by omega]
  unfold kwB
  rfl
 have c := of_decide_eq_false c
 obtain ⟨e, he⟩ : ∃ e : Nat, (6 - d).toNat = e + 1 := ⟨(5 - d).toNat, by omega⟩
 have he2 : (5 - d).toNat = e := by omega
 rw [he] at no q
 and_intros
 refine t_in (in_tup pt) ?_
 and_intros
 refine c_if (fun c => ?_) (fun c => ?_)
 ·and_intros
  exact no (kwB_no (by simpa using c))
 obtain ⟨ts, rfl⟩ := isTup_t (t := t) (by simpa using c)
 obtain ⟨tl, tm⟩ := pt.items
 and_intros
 refine c_if (fun c1 => ?_) (fun c1 => ?_)
 ·have c1 := of_decide_eq_true c1
  and_intros
  exact no (kwB_len (by omega) (by omega))
 have c1 := of_decide_eq_false c1
 obtain ⟨h, ys, rfl⟩ : ∃ h ys, ts = h :: ys := by
  cases ts with
  | nil => exact absurd (by decide) c1
  | cons h ys => exact ⟨h, ys, rfl⟩
 and_intros
 refine t_in (in_str (tm h (by simp))) ?_
 and_intros
 refine c_if (fun c2 => ?_) (fun c2 => ?_)
 ·and_intros
  exact no (kwB_hd (by simpa using c2))
 obtain ⟨z, rfl⟩ := isStr_t (t := h) (by simpa using c2)
 and_intros
 match ys with
 | [] =>
  and_intros
  rw [kwB_1] at q
  have e : decide (V.str z = V.str "text") = decide (z = "text") := decide_eq_decide.mpr ⟨V.str.inj, fun e => by rw [e]⟩
  rw [e]
  exact drop0 .refl q
 | x :: y :: r =>
  refine c_if (fun c3 => ?_) (fun c3 => ?_)
  ·have := d_int c3
   simp only [List.length_cons] at this
   omega
  and_intros
  exact no (kwB_len (by simp) (by simp))
 | [x] =>
  have px := tm x (by simp)
  rw [kwB_2] at q
  and_intros
  refine c_if (fun c3 => ?_) (fun c3 => ?_)
  ·rw [if_pos (d_str c3)] at q
   and_intros
   refine ⟨x, rfl, px, ?_⟩
   and_intros
   refine c_if (fun c4 => ?_) (fun c4 => ?_)
   ·obtain ⟨i, rfl⟩ := whB_t c4
    and_intros
    have q : Z (.bl (decide (1 ≤ i) && decide (i ≤ 4))) Γ := q
    refine c_if (fun c5 => ?_) (fun c5 => ?_)
    ·rw [c5, Bool.true_and] at q
     and_intros
     exact drop0 .refl q
    ·rw [c5, Bool.false_and] at q
     exact drop0 .refl q
   ·have : nrB x = false := by
     cases x with
     | int i => cases c4
     | _ => rfl
    rw [this] at q
    exact drop0 .refl q
  rw [if_neg (d_strN c3)] at q
  and_intros
  refine c_if (fun c4 => ?_) (fun c4 => ?_)
  ·rw [if_pos (d_str c4)] at q
   and_intros
   refine ⟨x, d + 1, rfl, by omega, by omega, px, ?_⟩
   rw [show (6 - (d + 1)).toNat = e by omega]
   exact drop0 .refl q
  rw [if_neg (d_strN c4)] at q
  and_intros
  have fin : (decide (z = "rec") || decide (z = "pick")) = true → spLf n [x, .int d] Γ (dropK Z) fun _ _ => False := fun h => by
   rw [h, Bool.true_and] at q
   refine ⟨x, d, rfl, by omega, by omega, px, ?_⟩
   rw [he2]
   exact drop0 .refl q
  refine c_if (fun c5 => ?_) (fun c5 => ?_)
  ·and_intros
   exact fin (by rw [decide_eq_true (d_str c5)]; rfl)
  and_intros
  refine c_if (fun c6 => ?_) (fun c6 => ?_)
  ·and_intros
   exact fin (by rw [decide_eq_true (d_str c6), Bool.or_true])
  ·rw [decide_eq_false (d_strN c5), decide_eq_false (d_strN c6)] at q
   exact drop0 .refl q
abbrev s_law_is_paper : Stmt := top 30
theorem sc_law_is_paper : FnScope ["thing", "names", "one"] ["thing"] (defScope s_law_is_paper) := ⟨rfl, rfl, rfl, by decide +kernel, rfl, by decide +kernel, by decide +kernel⟩
theorem ok_law_is_paper (F : Fun K "_law_is_paper" "_law_is_paper" s_law_is_paper f fd) (c_law_is_name : Cl3 P w K mg base "_law_is_name" 1 ["thing"] spNmB) (c_law_whole : Cl3 P w K mg base "_law_whole" 1 ["thing"] spWh) (c_law_is_kind : Cl3 P w K mg base "_law_is_kind" 13 ["thing", "depth"] (spLk 6)) (z_isinstance : mg "isinstance" = none) (z_tuple : mg "tuple" = none) (z_str : mg "str" = none) (z_len : mg "len" = none) : FnOk P w K mg base CX0 14 f fd ["thing"] (liSp spIp) := by
 refine okd F sc_law_is_paper (fun ts Γ Z Y h => ?_) (fun cdv A outer s H E ts Γ Z Y hr h => ?_)
 ·obtain ⟨t, rfl, _⟩ := h
  rfl
 obtain ⟨t, rfl, pt, q⟩ := h
 refine ⟨_, (qss_cons (qs_if (PW.pt (qw_or (qt_not (qt_val (qe_inst rfl z_isinstance rfl z_tuple bt_tuple (qv 0)))) (qw_or (qt_cmpR oq_ne (qe_callB cq_len rfl z_len PySem.boot_len (qa_cons (qv 0) qa_nil)) qe_int (nomark _)) (qw_or1 (qt_not (qt_val (qe_call c_law_is_name hr (by omega) rfl (qa_cons (qe_ix (qv 0) qe_int (fun _ _ => rfl)) qa_nil)))))))) (qss_cons (qs_ret qe_bl)
  qss_nil) qss_nil)
  (qss_cons (qs_if (PW.pt (qw_or (qt_not (qt_val (qe_call c_law_whole hr (by omega) rfl (qa_cons (qe_ix (qv 0) qe_int (fun _ _ => rfl)) qa_nil)))) (qw_or (qt_cmpR oq_lt (qe_ix (qv 0) qe_int (fun _ _ => rfl)) qe_int (nomark _)) (qw_or (qt_cmpR oq_gt (qe_ix (qv 0) qe_int (fun _ _ => rfl)) qe_int (nomark _)) (qw_or1 (qt_not (qt_val (qe_inst rfl z_isinstance rfl z_tuple bt_tuple (qe_ix (qv 0) qe_int (fun _ _ => rfl)))))))))) (qss_cons (qs_ret qe_bl)
  qss_nil) qss_nil)
  (qss_cons (qs_set (i := 1) sc_law_is_paper.nd rfl (Or.inl rfl) (qe_lst qa_nil))
  (qss_cons (qs_for PassesOwn.never rfl (qi_tup (qe_ix (qv 0) qe_int (fun _ _ => rfl))) (qg_name (i := 2) sc_law_is_paper.nd rfl (Or.inl rfl)) (qss_cons (qs_if (PW.pt (qw_or (qt_not (qt_val (qe_inst rfl z_isinstance rfl z_tuple bt_tuple (qv 2)))) (qw_or (qt_cmpR oq_ne (qe_callB cq_len rfl z_len PySem.boot_len (qa_cons (qv 2) qa_nil)) qe_int (nomark _)) (qw_or (qt_not (qt_val (qe_call c_law_is_name hr (by omega) rfl (qa_cons (qe_ix (qv 2) qe_int (fun _ _ => rfl)) qa_nil)))) (qw_or1 (qt_cmpR oq_in (qe_ix (qv 2) qe_int (fun _ _ => rfl)) (qv 1) (by with_unfolding_all rfl))))))) (qss_cons (qs_ret qe_bl)
  qss_nil) qss_nil)
  (qss_cons (qs_if (PW.pt (qw_or (qt_not (qt_val (qe_inst rfl z_isinstance rfl z_str bt_str (qe_ix (qv 2) qe_int (fun _ _ => rfl))))) (qw_or1 (qt_cmpR oq_nin (qe_ix (qv 2) qe_int (fun _ _ => rfl)) (qe_lst (qa_cons qe_str (qa_cons qe_str (qa_cons qe_str (qa_cons qe_str qa_nil))))) (by with_unfolding_all rfl))))) (qss_cons (qs_ret qe_bl)
  qss_nil) qss_nil)
  (qss_cons (qs_if (qt_not (qt_val (qe_call c_law_is_kind hr (by omega) rfl (qa_cons (qe_ix (qv 2) qe_int (fun _ _ => rfl)) (qa_cons qe_int qa_nil))))) (qss_cons (qs_ret qe_bl)
  qss_nil) qss_nil)
  (qss_cons (qs_expr (qe_bm PySem.F.plainAttrs_list PySem.F.slot_list_append PySem.F.type_list_append mq_append (qv 1) (qa_cons (qe_ix (qv 2) qe_int (fun _ _ => rfl)) qa_nil)))
  qss_nil)))))
  (qss_cons (qs_ret (qe_or (qe_cmpR oq_isN (qe_ix (qv 0) qe_int (fun _ _ => rfl)) qe_non (nomark _)) (qe_one (qe_call c_law_is_kind hr (by omega) rfl (qa_cons (qe_ix (qv 0) qe_int (fun _ _ => rfl)) (qa_cons qe_int qa_nil))))))
  qss_nil))))), ?_⟩
 simp only [start3]
 and_intros
 refine t_in (in_tup pt) ?_
 and_intros
 refine c_if (fun c => ?_) (fun c => ?_)
 ·and_intros
  refine drop0 .refl ?_
  cases t with
  | tup ts => cases c
  | _ => exact q
 obtain ⟨ts, rfl⟩ := isTup_t (t := t) (by simpa using c)
 obtain ⟨tl, tm⟩ := pt.items
 and_intros
 refine c_if (fun c1 => ?_) (fun c1 => ?_)
 ·have c1 : ts.length ≠ 4 := fun e => by rw [e] at c1; revert c1; decide
  and_intros
  rw [paB_no c1] at q
  exact drop0 .refl q
 have c1 : ts.length = 4 := by
  have : decide (V.int (ts.length : Int) = V.int 4) = true := by simpa using c1
  have := d_int this
  omega
 match ts, c1 with
 | [a, b, c, d], _ =>
  have q : Z (.bl (nmB a && (sdB b && (plsB c && reB d)))) Γ := q
  and_intros
  refine ⟨a, rfl, tm a (by simp), ?_⟩
  and_intros
  refine c_if (fun c2 => ?_) (fun c2 => ?_)
  ·and_intros
   rw [show nmB a = false by simpa using c2, Bool.false_and] at q
   exact drop0 .refl q
  rw [show nmB a = true by simpa using c2, Bool.true_and] at q
  and_intros
  refine ⟨b, rfl, tm b (by simp), ?_⟩
  and_intros
  refine c_if (fun c3 => ?_) (fun c3 => ?_)
  ·have : sdB b = false := by
    cases b with
    | int i => cases c3
    | _ => rfl
   and_intros
   rw [this, Bool.false_and] at q
   exact drop0 .refl q
  obtain ⟨i, rfl⟩ := whB_t (t := b) (by simpa using c3)
  have q : Z (.bl ((decide (i = 0) || decide (i = 1)) && (plsB c && reB d))) Γ := q
  and_intros
  refine c_if (fun c4 => ?_) (fun c4 => ?_)
  ·have c4 := of_decide_eq_true c4
   and_intros
   rw [decide_eq_false (show ¬ i = 0 by omega), decide_eq_false (show ¬ i = 1 by omega)] at q
   exact drop0 .refl q
  have c4 := of_decide_eq_false c4
  and_intros
  refine c_if (fun c5 => ?_) (fun c5 => ?_)
  ·have c5 := of_decide_eq_true c5
   and_intros
   rw [decide_eq_false (show ¬ i = 0 by omega), decide_eq_false (show ¬ i = 1 by omega)] at q
   exact drop0 .refl q
  have c5 := of_decide_eq_false c5
  have ei : (decide (i = 0) || decide (i = 1)) = true := by
   have : i = 0 ∨ i = 1 := by omega
   rcases this with e | e <;> rw [e] <;> rfl
  rw [ei, Bool.true_and] at q
  and_intros
  have pc := tm c (by simp)
  have pd := tm d (by simp)
  refine t_ixT (i := 2) (t := c) rfl ?_
  refine t_in (in_tup pc) ?_
  and_intros
  refine c_if (fun c6 => ?_) (fun c6 => ?_)
  ·have : plsB c = false := by
    cases c with
    | tup us => cases c6
    | _ => rfl
   and_intros
   rw [this, Bool.false_and] at q
   exact drop0 .refl q
  obtain ⟨us, rfl⟩ := isTup_t (t := c) (by simpa using c6)
  obtain ⟨ul, um⟩ := pc.items
  have no : ∀ Γ', Le Γ Γ' → plsB (.tup us) = false → dropK Z (.bl false) Γ' := fun Γ' l h => by rw [h, Bool.false_and] at q; exact drop0 l q
  and_intros
  intro pn hpn; generalize e1 : up _ pn (O.lst _) = Γ1; have gn := al_g e1; have l1 := al_l e1 hpn
  and_intros
  refine t_ixT (i := 2) (t := .tup us) rfl ?_
  and_intros
  refine ⟨fun rest τ Γ' => ∃ (ds : List T) (o2 : Option T), us = ds ++ rest ∧ τ = [some (.tup [a, .int i, .tup us, d]), some (.ref pn), o2] ∧ ds.all plB = true ∧ (ds.map nmOf).Nodup ∧ Γ' pn = some (.lst ((ds.map nmOf).map T.str)) ∧ Kq [pn] Γ Γ', ⟨[], none, rfl, rfl, rfl, List.nodup_nil, gn, l1.kq⟩, ?_, ?_⟩
  ·rintro τ Γ' ⟨ds, o2, ez, rfl, al, nd, gn', kq⟩
   rw [List.append_nil] at ez
   subst ez
   have lΓ : Le Γ Γ' := fun x o h => kq x o (by have := gnn h hpn; simpa using this) h
   rw [plsB_eq, al, decide_eq_true nd, Bool.true_and, Bool.true_and] at q
   refine ⟨trivial, ?_⟩
   and_intros
   refine t_ixT (i := 3) (t := d) rfl ?_
   and_intros
   refine c_if (fun c7 => ?_) (fun c7 => ?_)
   ·have : d = .non := by
     cases d with
     | non => rfl
     | _ => cases c7
    rw [this] at q
    exact drop0 lΓ q
   ·have : reB d = kwB 5 d := by
     cases d with
     | non => cases c7
     | _ => rfl
    rw [this] at q
    and_intros
    refine t_ixT (i := 3) (t := d) rfl ?_
    and_intros
    exact ⟨d, 1, rfl, by decide, by decide, pd.mono lΓ, drop0 lΓ q⟩
  ·rintro x r τ Γ' ⟨ds, o2, ez, rfl, al, nd, gn', kq⟩
   have lΓ : Le Γ Γ' := fun x o h => kq x o (by have := gnn h hpn; simpa using this) h
   have px : Pt Γ' x := (um x (by rw [ez]; simp)).mono lΓ
   have bad : ∀ Δ, Le Γ Δ → (plB x = false ∨ ∃ z b c, x = .tup [.str z, b, c] ∧ z ∈ ds.map nmOf) → dropK Z (.bl false) Δ := fun Δ l h => no Δ l (by rw [ez]; exact pls_bad h)
   and_intros
   refine t_in (in_tup px) ?_
   and_intros
   refine c_if (fun c7 => ?_) (fun c7 => ?_)
   ·and_intros
    refine bad Γ' lΓ (.inl ?_)
    cases x with
    | tup us => cases c7
    | _ => rfl
   obtain ⟨vs, rfl⟩ := isTup_t (t := x) (by simpa using c7)
   obtain ⟨vl, vm⟩ := px.items
   and_intros
   refine c_if (fun c8 => ?_) (fun c8 => ?_)
   ·have c8 : vs.length ≠ 3 := fun e => by rw [e] at c8; revert c8; decide
    and_intros
    exact bad Γ' lΓ (.inl (plB_no c8))
   have c8 : vs.length = 3 := by
    have : decide (V.int (vs.length : Int) = V.int 3) = true := by simpa using c8
    have := d_int this
    omega
   match vs, c8 with
   | [y, wy, k], _ =>
    have eb : plB (.tup [y, wy, k]) = (nmB y && (wyB wy && kwB 5 k)) := rfl
    and_intros
    refine ⟨y, rfl, vm y (by simp), ?_⟩
    and_intros
    refine c_if (fun c9 => ?_) (fun c9 => ?_)
    ·and_intros
     exact bad Γ' lΓ (.inl (by rw [eb, show nmB y = false by simpa using c9]; rfl))
    have c9 : nmB y = true := by simpa using c9
    obtain ⟨z, rfl⟩ := nmB_str c9
    and_intros
    refine t_inL gn' rfl (scs_strs _) rfl (strs_fl _) ?_
    show ∃ k, T.bl (inV (.str z) ((ds.map nmOf).map V.str)) = .bl k ∧ _
    rw [inV_strs]
    and_intros
    refine c_if (fun c10 => ?_) (fun c10 => ?_)
    ·and_intros
     exact bad Γ' lΓ (.inr ⟨z, wy, k, rfl, of_decide_eq_true c10⟩)
    have c10 := of_decide_eq_false c10
    and_intros
    refine t_in (in_str (vm wy (by simp))) ?_
    and_intros
    refine c_if (fun c11 => ?_) (fun c11 => ?_)
    ·have : wyB wy = false := by
      cases wy with
      | str z => cases c11
      | _ => rfl
     and_intros
     exact bad Γ' lΓ (.inl (by rw [eb, this, Bool.false_and, Bool.and_false]))
    obtain ⟨wz, rfl⟩ := isStr_t (t := wy) (by simpa using c11)
    and_intros
    intro p2 hp2; generalize e2 : up _ p2 (O.lst _) = Γ2; have g2 := al_g e2; have l2 := al_l e2 hp2
    have g2 : Γ2 p2 = some (.lst (waysL.map T.str)) := g2
    refine t_inL g2 rfl (scs_strs _) rfl (strs_fl _) ?_
    show ∃ k, T.bl (!inV (.str wz) (waysL.map V.str)) = .bl k ∧ _
    rw [inV_strs]
    have ew : wyB (.str wz) = decide (wz ∈ waysL) := rfl
    and_intros
    refine c_if (fun c12 => ?_) (fun c12 => ?_)
    ·and_intros
     exact bad Γ2 (lΓ.trans l2) (.inl (by rw [eb, ew, show decide (wz ∈ waysL) = false by simpa using c12, Bool.false_and, Bool.and_false]))
    have c12 : decide (wz ∈ waysL) = true := by cases h : decide (wz ∈ waysL) with | true => rfl | false => rw [h] at c12; cases c12
    and_intros
    refine t_ixT (i := 2) (t := k) rfl ?_
    and_intros
    refine ⟨k, 1, rfl, by decide, by decide, (vm k (by simp)).mono l2, ?_⟩
    show ∃ k', T.bl (kwB 5 k) = .bl k' ∧ _
    and_intros
    refine c_if (fun c13 => ?_) (fun c13 => ?_)
    ·and_intros
     exact bad Γ2 (lΓ.trans l2) (.inl (by rw [eb, show kwB 5 k = false by simpa using c13, Bool.and_false, Bool.and_false]))
    have c13 : kwB 5 k = true := by simpa using c13
    and_intros
    refine t_tyL (l2 _ _ gn') ?_
    and_intros
    have dl : ds.length ≤ 999 := by rw [ez, List.length_append] at ul; omega
    refine ⟨pn, _, _, rfl, rfl, l2 _ _ gn', small1000 (by rw [List.length_map, List.length_map]; omega), ?_⟩
    and_intros
    refine ⟨ds ++ [.tup [.str z, .str wz, k]], _, by rw [ez]; simp, rfl, ?_, ?_, ?_, (kq.trans l2.kq).trans (.set (by simp) _)⟩
    ·rw [List.all_append, al]
     show (true && (plB (.tup [.str z, .str wz, k]) && true)) = true
     rw [eb, c9, ew, c12, c13]; rfl
    ·rw [List.map_append, List.nodup_append]
     refine ⟨nd, by simp, fun a ha b hb e => c10 ?_⟩
     have hb : b = z := by simpa [nmOf] using hb
     rw [← hb, ← e]; exact ha
    ·rw [up_same, List.map_append, List.map_append]; rfl
end
mutual
theorem pb_kd : ∀ {k : Kd} {Γ : Gp}, k.fit → Pb 100 Γ k.tr
 | .num w, Γ, h => by
  unfold Kd.fit at h
  rw [Kd.tr]
  exact .tup (by simp) fun t ht => by
   have ht : t = .str "num" ∨ t = .int w := by simpa using ht
   rcases ht with rfl | rfl
   ·exact .str (by decide)
   ·exact .int (Nat.lt_of_lt_of_le (show w.natAbs < 5 by omega) (by decide))
 | .text, Γ, h => by
  rw [Kd.tr]
  exact .tup (by simp) fun t ht => by
   have ht : t = .str "text" := by simpa using ht
   rw [ht]; exact .str (by decide)
 | .row k, Γ, h => by
  unfold Kd.fit at h
  rw [Kd.tr]
  have hk := pb_kd (Γ := Γ) h
  exact .tup (by simp) fun t ht => by
   have ht : t = .str "row" ∨ t = k.tr := by simpa using ht
   rcases ht with rfl | rfl
   ·exact .str (by decide)
   ·exact hk
 | .rec_ fs, Γ, h => by
  unfold Kd.fit at h
  rw [Kd.tr]
  have hk := pb_fs (Γ := Γ) h.1
  have hl := h.2
  exact .tup (by simp) fun t ht => by
   have ht : t = .str "rec" ∨ t = .tup (trF fs) := by simpa using ht
   rcases ht with rfl | rfl
   ·exact .str (by decide)
   ·exact .tup (by rw [trF_len]; omega) hk
 | .pick fs, Γ, h => by
  unfold Kd.fit at h
  rw [Kd.tr]
  have hk := pb_fs (Γ := Γ) h.1
  have hl := h.2
  exact .tup (by simp) fun t ht => by
   have ht : t = .str "pick" ∨ t = .tup (trF fs) := by simpa using ht
   rcases ht with rfl | rfl
   ·exact .str (by decide)
   ·exact .tup (by rw [trF_len]; omega) hk
theorem pb_fs : ∀ {fs : List (Str × Kd)} {Γ : Gp}, fitF fs → ∀ t ∈ trF fs, Pb 100 Γ t
 | [], Γ, _, t, ht => by rw [trF] at ht; cases ht
 | (nm, k) :: r, Γ, h, t, ht => by
  unfold fitF at h
  obtain ⟨hn, hk, hr⟩ := h
  rw [trF] at ht
  have hk := pb_kd (Γ := Γ) hk
  have hr := pb_fs (Γ := Γ) hr
  rcases List.mem_cons.mp ht with rfl | ht
  ·exact .tup (by simp) fun t ht => by
    have ht : t = .str nm ∨ t = k.tr := by simpa using ht
    rcases ht with rfl | rfl
    ·exact .str (by have := hn.2.1; omega)
    ·exact hk
  ·exact hr t ht
end
theorem ways_len : ∀ z ∈ waysL, z.length ≤ 5 := by decide +kernel
theorem pb_pa {Γ : Gp} {pa : Pa} (h1 : Nm pa.nm) (h2 : pa.sd = 0 ∨ pa.sd = 1) (h3 : pa.ps.length ≤ 100) (h4 : ∀ x ∈ pa.ps, Nm x.1 ∧ x.2.1 ∈ waysL ∧ x.2.2.fit) (h5 : ∀ k, pa.re = some k → k.fit) : Pb 100 Γ pa.tr := by
 unfold Pa.tr
 refine .tup (by simp) fun t ht => ?_
 have ht : t = .str pa.nm ∨ t = .int pa.sd ∨ t = .tup (pa.ps.map plT) ∨ t = reT pa.re := by simpa using ht
 rcases ht with rfl | rfl | rfl | rfl
 ·exact .str (by have := h1.2.1; omega)
 ·exact .int (Nat.lt_of_lt_of_le (show pa.sd.natAbs < 2 by omega) (by decide))
 ·refine .tup (by rw [List.length_map]; exact h3) fun t ht => ?_
  obtain ⟨x, hx, rfl⟩ := List.mem_map.mp ht
  obtain ⟨a, b, c⟩ := h4 x hx
  unfold plT
  refine .tup (by simp) fun t ht => ?_
  have ht : t = .str x.1 ∨ t = .str x.2.1 ∨ t = x.2.2.tr := by simpa using ht
  rcases ht with rfl | rfl | rfl
  ·exact .str (by have := a.2.1; omega)
  ·exact .str (by have := ways_len _ b; omega)
  ·exact pb_kd c
 ·cases e : pa.re with
  | none => exact .non
  | some k => exact pb_kd (h5 k e)
section
variable {P : Program} {w : World} {K : PySem.W.Frag} {mg : Str → Option Value} {base : Heap} {f C : Addr} {fd : FuncData} {v1 v2 v3 : Value}
abbrev s_law_thing : Stmt := top 38
theorem sc_law_thing : FnScope ["cell", "s", "many", "row", "names", "thing"] ["cell"] (defScope s_law_thing) := ⟨rfl, rfl, rfl, by decide +kernel, rfl, by decide +kernel, by decide +kernel⟩
def spThg : Sp3 := fun ts Γ Z _ => ∃ c : Int, ts = [.int c] ∧ ∀ (t : T) (Γ' : Gp), Pt Γ' t → Le Γ Γ' → Z t Γ'
theorem ok_thing (F : Fun K "_law_thing" "_law_thing" s_law_thing f fd) (c_law_draws : Cl3 P w K mg base "_law_draws" 1 ["cell", "count"] spDws) (c_law_names : Cl3 P w K mg base "_law_names" 2 ["row"] spNms) (c_law_paper : Cl3 P w K mg base "_law_paper" 3 ["row", "names", "deepest"] spPap) (c_law_longer : Cl3 P w K mg base "_law_longer" 2 ["paper", "many"] spLg) (c_law_spoilt : Cl3 P w K mg base "_law_spoilt" 4 ["thing", "s"] spSpo) (z_int : mg "int" = none) : FnOk P w K mg base CX0 5 f fd ["cell"] (liSp spThg) := by
 refine okd F sc_law_thing (fun ts Γ Z Y h => ?_) (fun cdv A outer s H E ts Γ Z Y hr h => ?_)
 ·obtain ⟨c, rfl, _⟩ := h
  rfl
 obtain ⟨c, rfl, q⟩ := h
 refine ⟨_, (qss_cons (qs_set (i := 1) sc_law_thing.nd rfl (Or.inl rfl) (qe_call c_law_draws hr (by omega) rfl (qa_cons (qv 0) (qa_cons qe_int qa_nil))))
  (qss_cons (qs_set (i := 2) sc_law_thing.nd rfl (Or.inl rfl) (qe_ix (qe_lst (qa_cons qe_int (qa_cons qe_int (qa_cons qe_int (qa_cons qe_int (qa_cons qe_int (qa_cons qe_int (qa_cons qe_int (qa_cons qe_int qa_nil))))))))) (qe_op oq_mod (qe_ix (qv 1) qe_int (fun _ _ => rfl)) qe_int) (fun _ _ => rfl)))
  (qss_cons (qs_set (i := 3) sc_law_thing.nd rfl (Or.inl rfl) (qe_slice sq_list (qe_call c_law_draws hr (by omega) rfl (qa_cons (qv 0) (qa_cons (qe_op oq_add qe_int (qe_op oq_mul qe_int (qv 2))) qa_nil))) (qo_some qe_int) qo_none))
  (qss_cons (qs_set (i := 4) sc_law_thing.nd rfl (Or.inl rfl) (qe_call c_law_names hr (by omega) rfl (qa_cons (qe_slice sq_list (qv 1) (qo_some qe_int) (qo_some qe_int)) qa_nil)))
  (qss_cons (qs_cut (qs_if (qt_cmpR oq_eq (qe_op oq_mod (qe_op oq_fdiv (qe_ix (qv 1) qe_int (fun _ _ => rfl)) qe_int) qe_int) qe_int (nomark _)) (qss_cons (qs_set (i := 4) sc_law_thing.nd rfl (Or.inl rfl) (qe_op oq_catL (qe_slice sq_list (qv 4) qo_none (qo_some qe_int)) (qe_slice sq_list (qv 4) qo_none (qo_some qe_int))))
  qss_nil) qss_nil))
  (qss_cons (qs_set (i := 5) sc_law_thing.nd rfl (Or.inl rfl) (qe_call c_law_paper hr (by omega) rfl (qa_cons (qv 3) (qa_cons (qv 4) (qa_cons (qe_ix (qe_lst (qa_cons qe_int (qa_cons qe_int qa_nil))) (qe_callTy cq_intB rfl z_int bt_int (qa_cons (qe_cmpR oq_eq (qe_op oq_mod (qe_op oq_fdiv (qe_ix (qv 1) qe_int (fun _ _ => rfl)) qe_int) qe_int) qe_int (nomark _)) qa_nil)) (fun _ _ => rfl)) qa_nil)))))
  (qss_cons (qs_cut (qs_if (PW.pt (qw_and (qt_cmpR oq_eq (qe_op oq_mod (qe_op oq_fdiv (qe_ix (qv 1) qe_int (fun _ _ => rfl)) qe_int) qe_int) qe_int (nomark _)) (qw_and1 (qt_cmpR oq_gt (qv 2) qe_int (nomark _))))) (qss_cons (qs_set (i := 5) sc_law_thing.nd rfl (Or.inl rfl) (qe_call c_law_longer hr (by omega) rfl (qa_cons (qv 5) (qa_cons (qe_op oq_add qe_int (qe_op oq_mod (qe_op oq_fdiv (qe_ix (qv 1) qe_int (fun _ _ => rfl)) qe_int) qe_int)) qa_nil))))
  qss_nil) qss_nil))
  (qss_cons (qs_cut (qs_if (qt_cmpR oq_eq (qe_op oq_mod (qe_ix (qv 1) qe_int (fun _ _ => rfl)) qe_int) qe_int (nomark _)) (qss_cons (qs_set (i := 5) sc_law_thing.nd rfl (Or.inl rfl) (qe_call c_law_spoilt hr (by omega) rfl (qa_cons (qv 5) (qa_cons (qe_slice sq_list (qv 1) (qo_some qe_int) (qo_some qe_int)) qa_nil))))
  qss_nil) qss_nil))
  (qss_cons (qs_cut (qs_if (qt_cmpR oq_eq (qe_op oq_mod (qe_ix (qv 1) qe_int (fun _ _ => rfl)) qe_int) qe_int (nomark _)) (qss_cons (qs_set (i := 5) sc_law_thing.nd rfl (Or.inl rfl) (qe_call c_law_spoilt hr (by omega) rfl (qa_cons (qv 5) (qa_cons (qe_slice sq_list (qv 1) (qo_some qe_int) (qo_some qe_int)) qa_nil))))
  qss_nil) qss_nil))
  (qss_cons (qs_ret (qv 5))
  qss_nil)))))))))), ?_⟩
 simp only [start3]
 and_intros
 refine ⟨c, 36, rfl, by decide, ?_⟩
 intro p1 hp1; generalize e1 : up _ p1 (O.lst _) = Γ1; have g1 := al_g e1; have l1 := al_l e1 hp1
 have x35 : atI ((dws c 36).map T.int) 35 = some (.int (dw c 35)) := atI_nat (j := 35) (by rw [List.getElem?_map, dws_get (by decide)]; rfl)
 have x0 : atI ((dws c 36).map T.int) 0 = some (.int (dw c 0)) := atI_nat (j := 0) (by rw [List.getElem?_map, dws_get (by decide)]; rfl)
 have dl := dws_len c 36
 obtain ⟨hmn, m9⟩ := mny_at (dw c 35)
 and_intros
 intro p2 hp2; generalize e2 : up _ p2 (O.lst _) = Γ2; have g2 := al_g e2; have l2 := al_l e2 hp2
 and_intros
 refine t_ixR (l2 _ _ g1) x35 ?_
 and_intros
 refine t_ixR g2 hmn ?_
 and_intros
 refine ⟨c, 63 + 6 * mny (dw c 35), by rw [show ((63 + 6 * mny (dw c 35) : Nat) : Int) = 63 + 6 * (mny (dw c 35) : Int) by omega], by omega, ?_⟩
 intro p3 hp3; generalize e3 : up _ p3 (O.lst _) = Γ3; have g3 := al_g e3; have l3 := al_l e3 hp3
 and_intros
 refine ⟨p3, _, rfl, g3, ?_⟩
 intro p4 hp4; generalize e4 : up _ p4 (O.lst _) = Γ4; have g4 := al_g e4; have l4 := al_l e4 hp4
 rw [cut_map, cut_drop (by decide)] at g4
 have n4 : ((dws c (63 + 6 * mny (dw c 35))).drop (Int.toNat 35)).length = 28 + 6 * mny (dw c 35) := by
  rw [List.length_drop, dws_len]
  show 63 + 6 * mny (dw c 35) - 35 = _
  omega
 have f4 : ((dws c (63 + 6 * mny (dw c 35))).drop (Int.toNat 35))[0]? = some (dw c 35) := by
  rw [List.getElem?_drop]
  exact dws_get (by show 35 < _; omega)
 generalize (dws c (63 + 6 * mny (dw c 35))).drop (Int.toNat 35) = rw4 at *
 have l24 := l3.trans l4
 have l14 := l2.trans l24
 clear e1 e2 e3 e4 g2 g3
 and_intros
 refine ⟨p1, _, rfl, l14 _ _ g1, ?_⟩
 intro p5 hp5; generalize e5 : up _ p5 (O.lst _) = Γ5; have g5 := al_g e5; have l5 := al_l e5 hp5
 rw [cut_map, cut_mid (by decide) (by decide)] at g5
 and_intros
 refine ⟨p5, _, rfl, g5, by rw [List.length_take, List.length_drop, dl]; rfl, fun ss p6 s9 snm snd hp6 => ?_⟩
 generalize e6 : up _ p6 (O.lst _) = Γ6; have g6 := al_g e6; have l6 := al_l e6 hp6
 have l46 := l5.trans l6
 have g1' := l46 _ _ (l14 _ _ g1)
 have g4' := l46 _ _ g4
 have lT := l1.trans (l14.trans l46)
 clear e5 e6 g5
 and_intros
 refine ⟨fun τ Δ => ∃ (pn : Addr) (ns : List Str), τ = [some (.int c), some (.ref p1), some (.int (mny (dw c 35) : Nat)), some (.ref p4), some (.ref pn), none] ∧ ns.length = 9 ∧ (∀ z ∈ ns, Nm z) ∧ Δ pn = some (.lst (ns.map T.str)) ∧ Le Γ6 Δ, ?_, ?_⟩
 ·and_intros
  try (refine t_ixR g1' x0 ?_; and_intros)
  refine c_if (fun _ => ?_) (fun _ => ?_)
  ·and_intros
   refine ⟨p6, _, rfl, g6, ?_⟩
   intro p7 hp7; generalize e7 : up _ p7 (O.lst _) = Γ7; have g7 := al_g e7; have l7 := al_l e7 hp7
   rw [cut_map, cut_take (by decide)] at g7
   and_intros
   refine ⟨p6, _, rfl, l7 _ _ g6, ?_⟩
   intro p8 hp8; generalize e8 : up _ p8 (O.lst _) = Γ8; have g8 := al_g e8; have l8 := al_l e8 hp8
   rw [cut_map, cut_take (by decide)] at g8
   refine ⟨p7, p8, _, _, rfl, rfl, l8 _ _ g7, g8, Nat.le_of_lt (small1000 (by rw [List.length_map, List.length_map, List.length_take, List.length_take]; omega)), ?_⟩
   intro p9 hp9; generalize e9 : up _ p9 (O.lst _) = Γ9; have g9 := al_g e9; have l9 := al_l e9 hp9
   rw [← List.map_append] at g9
   and_intros
   refine ⟨p9, _, rfl, ?_, fun z hz => ?_, g9, l7.trans (l8.trans l9)⟩
   ·rw [List.length_append, List.length_take, List.length_take, s9]; rfl
   ·rcases List.mem_append.mp hz with h | h <;> exact snm z (List.mem_of_mem_take h)
  ·and_intros
   exact ⟨p6, ss, rfl, s9, snm, g6, .refl⟩
 rintro τ Δ ⟨pn, ns, rfl, n9, nnm, gn, lD⟩
 and_intros
 intro p7 hp7; generalize e7 : up _ p7 (O.lst _) = Γ7; have g7 := al_g e7; have l7 := al_l e7 hp7
 and_intros
 try (refine t_ixR (l7 _ _ (lD _ _ g1')) x0 ?_; and_intros)
 refine ⟨_, rfl, ?_⟩
 obtain ⟨D, hD, xD⟩ : ∃ D : Int, (D = 5 ∨ D = 6) ∧ atI [T.int 5, .int 6] (if decide (V.int (dw c 0 / 8 % 8) = V.int 5) = true then 1 else 0) = some (.int D) := by
  by_cases e : decide (V.int (dw c 0 / 8 % 8) = V.int 5) = true
  ·rw [if_pos e]; exact ⟨6, .inr rfl, rfl⟩
  ·rw [if_neg e]; exact ⟨5, .inl rfl, rfl⟩
 refine t_ixR g7 xD ?_
 and_intros
 refine ⟨p4, pn, D, rw4, ns, dw c 35, rfl, l7 _ _ (lD _ _ g4'), l7 _ _ gn, f4, n4, n9, nnm, by omega, fun pa pg pl => ?_⟩
 have l67 := lD.trans l7
 have g17 := l67 _ _ g1'
 have pb0 : Pb 100 Γ7 pa.tr := pb_pa (nnm _ pg.nm) pg.sd (by omega) (fun x hx => ⟨nnm _ (pg.pn x hx), (pg.ps x hx).wy, (pg.ps x hx).kg.2⟩) (fun k e => (pg.re k e).1.2)
 and_intros
 refine ⟨fun τ Δ => ∃ t : T, τ = [some (.int c), some (.ref p1), some (.int (mny (dw c 35) : Nat)), some (.ref p4), some (.ref pn), some t] ∧ Pb 100 Δ t ∧ Δ = Γ7, ?_, ?_⟩
 ·and_intros
  try (refine t_ixR g17 x0 ?_; and_intros)
  refine c_if (fun _ => ?_) (fun _ => ?_)
  ·and_intros
   refine c_if (fun c2 => ?_) (fun c2 => ?_)
   ·have c2 := of_decide_eq_true c2
    and_intros
    try (refine t_ixR g17 x0 ?_; and_intros)
    have b51 : 0 ≤ dw c 0 / 4096 % 51 ∧ dw c 0 / 4096 % 51 < 51 := ⟨Int.emod_nonneg _ (by decide), Int.emod_lt_of_pos _ (by decide)⟩
    refine ⟨pa, (10 + dw c 0 / 4096 % 51).toNat, by rw [show (((10 + dw c 0 / 4096 % 51).toNat : Nat) : Int) = 10 + dw c 0 / 4096 % 51 by omega], fun e => by rw [e] at pl; simp at pl; omega, by omega, fun ps en eq => ?_⟩
    and_intros
    refine ⟨_, rfl, pb_pa (nnm _ pg.nm) pg.sd ?_ (fun x hx => ?_) (fun k e => (pg.re k e).1.2), rfl⟩
    ·have := congrArg List.length en
     rw [List.length_map, List.length_map, List.length_range] at this
     show ps.length ≤ 100
     omega
    ·obtain ⟨y, hy, ey⟩ := eq x hx
     have : x.1 ∈ ps.map (·.1) := List.mem_map.mpr ⟨x, hx, rfl⟩
     rw [en] at this
     obtain ⟨i, hi, ei⟩ := List.mem_map.mp this
     have hi := List.mem_range.mp hi
     refine ⟨by rw [← ei]; exact lw_nm (by omega), ?_, ?_⟩
     ·rw [ey]; exact (pg.ps y hy).wy
     ·rw [ey]; exact (pg.ps y hy).kg.2
   ·and_intros
    exact ⟨_, rfl, pb0, rfl⟩
  ·and_intros
   exact ⟨_, rfl, pb0, rfl⟩
 rintro τ Δ2 ⟨t0, rfl, pt0, rfl⟩
 and_intros
 refine ⟨fun τ Δ => ∃ t : T, τ = [some (.int c), some (.ref p1), some (.int (mny (dw c 35) : Nat)), some (.ref p4), some (.ref pn), some t] ∧ Pb 302 Δ t ∧ Le Δ2 Δ, ?_, ?_⟩
 ·and_intros
  try (refine t_ixR g17 x0 ?_; and_intros)
  refine c_if (fun _ => ?_) (fun _ => ?_)
  ·and_intros
   refine ⟨p1, _, rfl, g17, ?_⟩
   intro p8 hp8; generalize e8 : up _ p8 (O.lst _) = Γ8; have g8 := al_g e8; have l8 := al_l e8 hp8
   rw [cut_map, cut_mid (by decide) (by decide)] at g8
   and_intros
   refine ⟨100, t0, p8, _, rfl, by decide, by decide, pt0.mono (Nat.le_refl _) l8, g8, by rw [List.length_take, List.length_drop, dl]; rfl, fun t' Γ' pt' lt' => ?_⟩
   and_intros
   exact ⟨t', rfl, pt', l8.trans lt'⟩
  ·and_intros
   exact ⟨_, rfl, pt0.mono (by decide) .refl, .refl⟩
 rintro τ Δ3 ⟨t1, rfl, pt1, l23⟩
 and_intros
 refine ⟨fun τ Δ => ∃ t : T, τ = [some (.int c), some (.ref p1), some (.int (mny (dw c 35) : Nat)), some (.ref p4), some (.ref pn), some t] ∧ Pb 908 Δ t ∧ Le Δ3 Δ, ?_, ?_⟩
 ·and_intros
  try (refine t_ixR (l23 _ _ g17) x0 ?_; and_intros)
  refine c_if (fun _ => ?_) (fun _ => ?_)
  ·and_intros
   refine ⟨p1, _, rfl, l23 _ _ g17, ?_⟩
   intro p8 hp8; generalize e8 : up _ p8 (O.lst _) = Γ8; have g8 := al_g e8; have l8 := al_l e8 hp8
   rw [cut_map, cut_mid (by decide) (by decide)] at g8
   and_intros
   refine ⟨302, t1, p8, _, rfl, by decide, by decide, pt1.mono (Nat.le_refl _) l8, g8, by rw [List.length_take, List.length_drop, dl]; rfl, fun t' Γ' pt' lt' => ?_⟩
   and_intros
   exact ⟨t', rfl, pt', l8.trans lt'⟩
  ·and_intros
   exact ⟨_, rfl, pt1.mono (by decide) .refl, .refl⟩
 rintro τ Δ4 ⟨t2, rfl, pt2, l34⟩
 and_intros
 exact drop0 .refl (q t2 Δ4 (pt2.pt (by decide)) (lT.trans (l67.trans (l23.trans l34))))
abbrev s_law : Stmt := top 39
theorem sc_law : FnScope ["script", "cell", "thing", "found"] ["script"] (defScope s_law) := ⟨rfl, rfl, rfl, by decide +kernel, rfl, by decide +kernel, by decide +kernel⟩
def spLaw3 (K : PySem.W.Frag) : Sp3 := fun ts Γ Z _ => ∃ (a : Addr) (ns : List Int), ts = [.scr K a (ns.map T.int)] ∧ ns.length ≤ 63 ∧ ∀ Γ', Z (.bl true) Γ'
theorem ok_law3 (F : Fun K "law" "law" s_law f fd) (c_law_thing : Cl3 P w K mg base "_law_thing" 5 ["cell"] spThg) (c_is_paper : Cl3 P w K mg base "is_paper" 23 ["thing"] spIp) (c_law_is_paper : Cl3 P w K mg base "_law_is_paper" 14 ["thing"] spIp)
  (z_len : mg "len" = none) (z_isinstance : mg "isinstance" = none) (z_bool : mg "bool" = none) : FnOk P w K mg base CX0 24 f fd ["script"] (liSp (spLaw3 K)) := by
 refine okd F sc_law (fun ts Γ Z Y h => ?_) (fun cdv A outer s H E ts Γ Z Y hr h => ?_)
 ·obtain ⟨a, ns, rfl, _⟩ := h
  rfl
 obtain ⟨a, ns, rfl, h63, q⟩ := h
 refine ⟨_, (qss_cons (qs_for PassesOwn.never rfl (qi_list (qe_op oq_catC (qe_lst (qa_cons (qe_callB cq_lenC rfl z_len PySem.boot_len (qa_cons (qv 0) qa_nil)) qa_nil)) (qv 0))) (qg_name (i := 1) sc_law.nd rfl (Or.inl rfl)) (qss_cons (qs_set (i := 2) sc_law.nd rfl (Or.inl rfl) (qe_call c_law_thing hr (by omega) rfl (qa_cons (qv 1) qa_nil)))
  (qss_cons (qs_set (i := 3) sc_law.nd rfl (Or.inl rfl) (qe_call c_is_paper hr (by omega) rfl (qa_cons (qv 2) qa_nil)))
  (qss_cons (qs_if (PW.pt (qw_or (qt_not (qt_val (qe_inst rfl z_isinstance rfl z_bool bt_bool (qv 3)))) (qw_or1 (qt_cmpR oq_ne (qv 3) (qe_call c_law_is_paper hr (by omega) rfl (qa_cons (qv 2) qa_nil)) (nomark _))))) (qss_cons (qs_ret qe_bl)
  qss_nil) qss_nil)
  qss_nil))))
  (qss_cons (qs_ret qe_bl)
  qss_nil)), ?_⟩
 simp only [start3]
 and_intros
 refine ⟨a, _, rfl, ?_⟩
 rw [List.length_map]
 and_intros
 intro p1 hp1; generalize e1 : up _ p1 (O.lst _) = Γ1; have g1 := al_g e1; have l1 := al_l e1 hp1
 and_intros
 refine ⟨p1, a, _, _, rfl, rfl, g1, Nat.le_of_lt (small1000 (by rw [List.length_map]; show 1 + _ ≤ _; omega)), ?_⟩
 intro p2 hp2; generalize e2 : up _ p2 (O.lst _) = Γ2; have g2 := al_g e2; have l2 := al_l e2 hp2
 have g2 : Γ2 p2 = some (.lst (((ns.length : Int) :: ns).map T.int)) := g2
 generalize ((ns.length : Int) :: ns) = cs at *
 refine ⟨p2, _, rfl, it3_l g2, ?_⟩
 refine ⟨fun rest τ Γ' => ∃ (rs : List Int) (o1 o2 o3 : Option T), rest = rs.map T.int ∧ τ = [some (.scr K a (ns.map T.int)), o1, o2, o3] ∧ Γ' p2 = some (.lst (cs.map T.int)), ⟨cs, none, none, none, rfl, rfl, g2⟩, ?_, ?_⟩
 ·rintro τ Γ' ⟨rs, o1, o2, o3, er, rfl, g2'⟩
  refine ⟨it3_l g2', ?_⟩
  and_intros
  exact drop0 .refl (q _)
 ·rintro x rr τ Γ' ⟨rs, o1, o2, o3, er, rfl, g2'⟩
  cases rs with
  | nil => cases er
  | cons c rs =>
   cases er
   refine ⟨it3_l g2', ?_⟩
   and_intros
   refine ⟨c, rfl, fun t Γ3 pt l3 => ?_⟩
   and_intros
   refine ⟨t, rfl, pt, ?_⟩
   and_intros
   refine t_in (in_bl (.bl _)) ?_
   and_intros
   and_intros
   refine ⟨t, rfl, pt, ?_⟩
   and_intros
   refine ⟨.bl (paB t), .bl (paB t), rfl, rfl, rfl, ?_⟩
   and_intros
   refine c_ifF (by rw [decide_eq_true rfl]; rfl) ?_
   and_intros
   exact ⟨rs, _, _, _, rfl, rfl, l3 _ _ g2'⟩
theorem kw_all {f1 f2 : Addr} {fd1 fd2 : FuncData} (F : Fun K "is_kind_within" "is_kind_within" s_is_kind_within f fd) (m : mg "is_kind_within" = some (.ref f)) (kp : PySem.W.keepIn K (.ref f) = true) (b : Binds K fd ["thing", "depth"] [])
  (F_is_field : Fun K "is_field" "is_field" s_is_field f1 fd1) (m_is_field : mg "is_field" = some (.ref f1)) (kp_is_field : PySem.W.keepIn K (.ref f1) = true) (b_is_field : Binds K fd1 ["thing", "depth"] [])
  (F_are_fields : Fun K "are_fields" "are_fields" s_are_fields f2 fd2) (m_are_fields : mg "are_fields" = some (.ref f2)) (kp_are_fields : PySem.W.keepIn K (.ref f2) = true) (b_are_fields : Binds K fd2 ["thing", "depth"] [])
  (C1 : Cl3 P w K mg base "is_whole" 1 ["thing"] spWh) (C2 : Cl3 P w K mg base "is_name" 1 ["thing"] spNmB) (m_WIDEST_NUM : mg "WIDEST_NUM" = some v1) (g_WIDEST_NUM : GlobIs v1 (.int 4)) (m_MOST_FIELDS : mg "MOST_FIELDS" = some v2) (g_MOST_FIELDS : GlobIs v2 (.int 6)) (z_isinstance : mg "isinstance" = none) (z_tuple : mg "tuple" = none) (z_str : mg "str" = none) (z_len : mg "len" = none) (z_all : mg "all" = none) :
  ∀ n : Nat, Cl3 P w K mg base "is_kind_within" (3 * n + 1) ["thing", "depth"] (spKw n)
 | 0 => ⟨f, fd, noC fun ts Γ Z Y h => by obtain ⟨_, d, _, h, _⟩ := h; omega, m, kp, b⟩
 | n + 1 => by
  have c := kw_all F m kp b F_is_field m_is_field kp_is_field b_is_field F_are_fields m_are_fields kp_are_fields b_are_fields C1 C2 m_WIDEST_NUM g_WIDEST_NUM m_MOST_FIELDS g_MOST_FIELDS z_isinstance z_tuple z_str z_len z_all n
  have c1 : Cl3 P w K mg base "is_field" (3 * n + 2) ["thing", "depth"] (spFd n) := ⟨f1, fd1, ok_is_field F_is_field C2 c z_isinstance z_tuple z_len, m_is_field, kp_is_field, b_is_field⟩
  have c2 : Cl3 P w K mg base "are_fields" (3 * n + 3) ["thing", "depth"] (spFs n) := ⟨f2, fd2, ok_are_fields F_are_fields m_MOST_FIELDS g_MOST_FIELDS c1 z_isinstance z_tuple z_len z_all, m_are_fields, kp_are_fields, b_are_fields⟩
  exact ⟨f, fd, by rw [show 3 * (n + 1) + 1 = 3 * n + 4 by omega]; exact ok_is_kw F m_WIDEST_NUM g_WIDEST_NUM C1 c c2 z_isinstance z_tuple z_str z_len, m, kp, b⟩
theorem lk_all {f1 : Addr} {fd1 : FuncData} (F : Fun K "_law_is_kind" "_law_is_kind" s_law_is_kind f fd) (m : mg "_law_is_kind" = some (.ref f)) (kp : PySem.W.keepIn K (.ref f) = true) (b : Binds K fd ["thing", "depth"] [])
  (F__law_are_fields : Fun K "_law_are_fields" "_law_are_fields" s_law_are_fields f1 fd1) (m__law_are_fields : mg "_law_are_fields" = some (.ref f1)) (kp__law_are_fields : PySem.W.keepIn K (.ref f1) = true) (b__law_are_fields : Binds K fd1 ["thing", "depth"] [])
  (C1 : Cl3 P w K mg base "_law_whole" 1 ["thing"] spWh) (C2 : Cl3 P w K mg base "_law_is_name" 1 ["thing"] spNmB) (z_isinstance : mg "isinstance" = none) (z_tuple : mg "tuple" = none) (z_str : mg "str" = none) (z_len : mg "len" = none) :
  ∀ n : Nat, Cl3 P w K mg base "_law_is_kind" (2 * n + 1) ["thing", "depth"] (spLk n)
 | 0 => ⟨f, fd, noC fun ts Γ Z Y h => by obtain ⟨_, d, _, _, h, _⟩ := h; omega, m, kp, b⟩
 | n + 1 => by
  have c := lk_all F m kp b F__law_are_fields m__law_are_fields kp__law_are_fields b__law_are_fields C1 C2 z_isinstance z_tuple z_str z_len n
  have c1 : Cl3 P w K mg base "_law_are_fields" (2 * n + 2) ["thing", "depth"] (spLf n) := ⟨f1, fd1, ok_law_are_fields F__law_are_fields C2 c z_isinstance z_tuple z_len, m__law_are_fields, kp__law_are_fields, b__law_are_fields⟩
  exact ⟨f, fd, by rw [show 2 * (n + 1) + 1 = 2 * n + 3 by omega]; exact ok_law_is_kind F C1 c c1 z_isinstance z_tuple z_str z_len, m, kp, b⟩
end
def spLaw (K : PySem.W.Frag) : Sp := fun vs H Q _ => ∃ (a : Addr) (ns : List Int), vs = [.ref a] ∧ Only H ∧ SqL K H a (ns.map V.int) ∧ ns.length ≤ 63 ∧ ∀ H', Q (.bl true) H'
theorem rs_of_ints {H : Hp} : ∀ ns : List Int, Rs H (ns.map V.int) (ns.map T.int)
 | [] => rs_nil
 | n :: r => rs_cons r_int (rs_of_ints r)
theorem law_dn {K : PySem.W.Frag} (vs : List V) (H : Hp) (Q : VK) (E : XK) (h : spLaw K vs H Q E) : liSp (spLaw3 K) vs H Q E := by
 obtain ⟨a, ns, rfl, hO, hS, h63, q⟩ := h
 have sc : SqC K H a (ns.map V.int) := by
  rcases hS with (h | ⟨o, h⟩) | h
  ·rcases hO a with z | ⟨o, xs, z⟩
   ·rw [h] at z; cases z
   ·rw [h] at z; cases z
  ·exact .inl ⟨o, h⟩
  ·exact .inr h
 refine ⟨[.scr K a (ns.map T.int)], fun _ => none, fun x _ => x = .bl true, fun _ _ => False, rs_cons (r_scr sc (rs_of_ints ns)) rs_nil, fun _ _ h => (nomatch h), ⟨a, ns, rfl, h63, fun _ => rfl⟩, fun v x H' Γ' _ _ r z => ?_, fun _ _ _ _ _ z => z.elim⟩
 subst z
 rw [i_bl r]
 exact q H'
end Tg
set_option Elab.async false
set_option linter.all false
set_option maxRecDepth 100000
set_option maxHeartbeats 4000000
namespace Tg
open PySem L2 L3
theorem all_mk {l : PySem.W.OpenLaw} {w : World} {K : PySem.W.Frag} {h : Heap} {mg : Str → Option Value} {fa f1 f2 f3 f4 f5 f6 f7 f8 f9 f10 f11 f12 f13 f14 f15 f16 f17 f18 f19 f20 f21 f22 f23 f24 f25 f26 f27 f28 f29 f30 : Addr} (X : K.In h) (G : h.Ns mainGlobals mg) (hfa : mg "law" = some (.ref fa))
  {od1 an1 od2 an2 od3 an3 od4 an4 od5 an5 od6 an6 od7 an7 od8 an8 od9 an9 od10 an10 od11 an11 od12 an12 od13 an13 od14 an14 od15 an15 od16 an16 od17 an17 od18 an18 od19 an19 od20 an20 od21 an21 od22 an22 od23 an23 od24 an24 od25 an25 od26 an26 od27 an27 od28 an28 od29 an29 od30 an30 : Option Addr} {sl1 sl2 sl3 sl4 sl5 sl6 sl7 sl8 sl9 sl10 sl11 sl12 sl13 sl14 sl15 sl16 sl17 sl18 sl19 sl20 sl21 sl22 sl23 sl24 sl25 sl26 sl27 sl28 sl29 sl30 : Array (Option Value)} {oc1 kV1 dc1 pm1 cd1 ct1 oc2 kV2 dc2 pm2 cd2 ct2 oc3 kV3 dc3 pm3 cd3 ct3 oc4 kV4 dc4 pm4 cd4 ct4 oc5 kV5 dc5 pm5 cd5 ct5 oc6 kV6 dc6 pm6 cd6 ct6 oc7 kV7 dc7 pm7 cd7 ct7 oc8 kV8 dc8 pm8 cd8 ct8 oc9 kV9 dc9 pm9 cd9 ct9 oc10 kV10 dc10 pm10 cd10 ct10 oc11 kV11 dc11 pm11 cd11 ct11 oc12 kV12 dc12 pm12 cd12 ct12 oc13 kV13 dc13 pm13 cd13 ct13 oc14 kV14 dc14 pm14 cd14 ct14 oc15 kV15 dc15 pm15 cd15 ct15 oc16 kV16 dc16 pm16 cd16 ct16 oc17 kV17 dc17 pm17 cd17 ct17 oc18 kV18 dc18 pm18 cd18 ct18 oc19 kV19 dc19 pm19 cd19 ct19 oc20 kV20 dc20 pm20 cd20 ct20 oc21 kV21 dc21 pm21 cd21 ct21 oc22 kV22 dc22 pm22 cd22 ct22 oc23 kV23 dc23 pm23 cd23 ct23 oc24 kV24 dc24 pm24 cd24 ct24 oc25 kV25 dc25 pm25 cd25 ct25 oc26 kV26 dc26 pm26 cd26 ct26 oc27 kV27 dc27 pm27 cd27 ct27 oc28 kV28 dc28 pm28 cd28 ct28 oc29 kV29 dc29 pm29 cd29 ct29 oc30 kV30 dc30 pm30 cd30 ct30 : Value}
  (a1 : PySem.W.nsIn K mainGlobals "is_whole" = some (some (.ref f1))) (l1 : K.lookup f1 = some ⟨oc1, od1, .func (PySem.W.fnOf "is_whole" "is_whole" (defArgs s_is_whole) (defBody s_is_whole) (defScope s_is_whole) .none kV1 dc1 pm1 an1 cd1 ct1), sl1⟩) (c1 : PySem.W.codeIn K cd1 "is_whole" = true) (k1 : PySem.W.keepIn K (.ref f1) = true)
  (a2 : PySem.W.nsIn K mainGlobals "is_name" = some (some (.ref f2))) (l2 : K.lookup f2 = some ⟨oc2, od2, .func (PySem.W.fnOf "is_name" "is_name" (defArgs s_is_name) (defBody s_is_name) (defScope s_is_name) .none kV2 dc2 pm2 an2 cd2 ct2), sl2⟩) (c2 : PySem.W.codeIn K cd2 "is_name" = true) (k2 : PySem.W.keepIn K (.ref f2) = true)
  (a3 : PySem.W.nsIn K mainGlobals "is_kind" = some (some (.ref f3))) (l3 : K.lookup f3 = some ⟨oc3, od3, .func (PySem.W.fnOf "is_kind" "is_kind" (defArgs s_is_kind) (defBody s_is_kind) (defScope s_is_kind) .none kV3 dc3 pm3 an3 cd3 ct3), sl3⟩) (c3 : PySem.W.codeIn K cd3 "is_kind" = true) (k3 : PySem.W.keepIn K (.ref f3) = true)
  (a4 : PySem.W.nsIn K mainGlobals "is_kind_within" = some (some (.ref f4))) (l4 : K.lookup f4 = some ⟨oc4, od4, .func (PySem.W.fnOf "is_kind_within" "is_kind_within" (defArgs s_is_kind_within) (defBody s_is_kind_within) (defScope s_is_kind_within) .none kV4 dc4 pm4 an4 cd4 ct4), sl4⟩) (c4 : PySem.W.codeIn K cd4 "is_kind_within" = true) (k4 : PySem.W.keepIn K (.ref f4) = true)
  (a5 : PySem.W.nsIn K mainGlobals "are_fields" = some (some (.ref f5))) (l5 : K.lookup f5 = some ⟨oc5, od5, .func (PySem.W.fnOf "are_fields" "are_fields" (defArgs s_are_fields) (defBody s_are_fields) (defScope s_are_fields) .none kV5 dc5 pm5 an5 cd5 ct5), sl5⟩) (c5 : PySem.W.codeIn K cd5 "are_fields" = true) (k5 : PySem.W.keepIn K (.ref f5) = true)
  (a6 : PySem.W.nsIn K mainGlobals "is_field" = some (some (.ref f6))) (l6 : K.lookup f6 = some ⟨oc6, od6, .func (PySem.W.fnOf "is_field" "is_field" (defArgs s_is_field) (defBody s_is_field) (defScope s_is_field) .none kV6 dc6 pm6 an6 cd6 ct6), sl6⟩) (c6 : PySem.W.codeIn K cd6 "is_field" = true) (k6 : PySem.W.keepIn K (.ref f6) = true)
  (a7 : PySem.W.nsIn K mainGlobals "is_paper" = some (some (.ref f7))) (l7 : K.lookup f7 = some ⟨oc7, od7, .func (PySem.W.fnOf "is_paper" "is_paper" (defArgs s_is_paper) (defBody s_is_paper) (defScope s_is_paper) .none kV7 dc7 pm7 an7 cd7 ct7), sl7⟩) (c7 : PySem.W.codeIn K cd7 "is_paper" = true) (k7 : PySem.W.keepIn K (.ref f7) = true)
  (a8 : PySem.W.nsIn K mainGlobals "is_side" = some (some (.ref f8))) (l8 : K.lookup f8 = some ⟨oc8, od8, .func (PySem.W.fnOf "is_side" "is_side" (defArgs s_is_side) (defBody s_is_side) (defScope s_is_side) .none kV8 dc8 pm8 an8 cd8 ct8), sl8⟩) (c8 : PySem.W.codeIn K cd8 "is_side" = true) (k8 : PySem.W.keepIn K (.ref f8) = true)
  (a9 : PySem.W.nsIn K mainGlobals "are_places" = some (some (.ref f9))) (l9 : K.lookup f9 = some ⟨oc9, od9, .func (PySem.W.fnOf "are_places" "are_places" (defArgs s_are_places) (defBody s_are_places) (defScope s_are_places) .none kV9 dc9 pm9 an9 cd9 ct9), sl9⟩) (c9 : PySem.W.codeIn K cd9 "are_places" = true) (k9 : PySem.W.keepIn K (.ref f9) = true)
  (a10 : PySem.W.nsIn K mainGlobals "is_place" = some (some (.ref f10))) (l10 : K.lookup f10 = some ⟨oc10, od10, .func (PySem.W.fnOf "is_place" "is_place" (defArgs s_is_place) (defBody s_is_place) (defScope s_is_place) .none kV10 dc10 pm10 an10 cd10 ct10), sl10⟩) (c10 : PySem.W.codeIn K cd10 "is_place" = true) (k10 : PySem.W.keepIn K (.ref f10) = true)
  (a11 : PySem.W.nsIn K mainGlobals "_law_draws" = some (some (.ref f11))) (l11 : K.lookup f11 = some ⟨oc11, od11, .func (PySem.W.fnOf "_law_draws" "_law_draws" (defArgs s_law_draws) (defBody s_law_draws) (defScope s_law_draws) .none kV11 dc11 pm11 an11 cd11 ct11), sl11⟩) (c11 : PySem.W.codeIn K cd11 "_law_draws" = true) (k11 : PySem.W.keepIn K (.ref f11) = true)
  (a12 : PySem.W.nsIn K mainGlobals "_law_word" = some (some (.ref f12))) (l12 : K.lookup f12 = some ⟨oc12, od12, .func (PySem.W.fnOf "_law_word" "_law_word" (defArgs s_law_word) (defBody s_law_word) (defScope s_law_word) .none kV12 dc12 pm12 an12 cd12 ct12), sl12⟩) (c12 : PySem.W.codeIn K cd12 "_law_word" = true) (k12 : PySem.W.keepIn K (.ref f12) = true)
  (a13 : PySem.W.nsIn K mainGlobals "_law_names" = some (some (.ref f13))) (l13 : K.lookup f13 = some ⟨oc13, od13, .func (PySem.W.fnOf "_law_names" "_law_names" (defArgs s_law_names) (defBody s_law_names) (defScope s_law_names) .none kV13 dc13 pm13 an13 cd13 ct13), sl13⟩) (c13 : PySem.W.codeIn K cd13 "_law_names" = true) (k13 : PySem.W.keepIn K (.ref f13) = true)
  (a14 : PySem.W.nsIn K mainGlobals "_law_fields" = some (some (.ref f14))) (l14 : K.lookup f14 = some ⟨oc14, od14, .func (PySem.W.fnOf "_law_fields" "_law_fields" (defArgs s_law_fields) (defBody s_law_fields) (defScope s_law_fields) .none kV14 dc14 pm14 an14 cd14 ct14), sl14⟩) (c14 : PySem.W.codeIn K cd14 "_law_fields" = true) (k14 : PySem.W.keepIn K (.ref f14) = true)
  (a15 : PySem.W.nsIn K mainGlobals "_law_kind" = some (some (.ref f15))) (l15 : K.lookup f15 = some ⟨oc15, od15, .func (PySem.W.fnOf "_law_kind" "_law_kind" (defArgs s_law_kind) (defBody s_law_kind) (defScope s_law_kind) .none kV15 dc15 pm15 an15 cd15 ct15), sl15⟩) (c15 : PySem.W.codeIn K cd15 "_law_kind" = true) (k15 : PySem.W.keepIn K (.ref f15) = true)
  (a16 : PySem.W.nsIn K mainGlobals "_law_paper" = some (some (.ref f16))) (l16 : K.lookup f16 = some ⟨oc16, od16, .func (PySem.W.fnOf "_law_paper" "_law_paper" (defArgs s_law_paper) (defBody s_law_paper) (defScope s_law_paper) .none kV16 dc16 pm16 an16 cd16 ct16), sl16⟩) (c16 : PySem.W.codeIn K cd16 "_law_paper" = true) (k16 : PySem.W.keepIn K (.ref f16) = true)
  (a17 : PySem.W.nsIn K mainGlobals "_law_whole" = some (some (.ref f17))) (l17 : K.lookup f17 = some ⟨oc17, od17, .func (PySem.W.fnOf "_law_whole" "_law_whole" (defArgs s_law_whole) (defBody s_law_whole) (defScope s_law_whole) .none kV17 dc17 pm17 an17 cd17 ct17), sl17⟩) (c17 : PySem.W.codeIn K cd17 "_law_whole" = true) (k17 : PySem.W.keepIn K (.ref f17) = true)
  (a18 : PySem.W.nsIn K mainGlobals "_law_is_name" = some (some (.ref f18))) (l18 : K.lookup f18 = some ⟨oc18, od18, .func (PySem.W.fnOf "_law_is_name" "_law_is_name" (defArgs s_law_is_name) (defBody s_law_is_name) (defScope s_law_is_name) .none kV18 dc18 pm18 an18 cd18 ct18), sl18⟩) (c18 : PySem.W.codeIn K cd18 "_law_is_name" = true) (k18 : PySem.W.keepIn K (.ref f18) = true)
  (a19 : PySem.W.nsIn K mainGlobals "_law_are_fields" = some (some (.ref f19))) (l19 : K.lookup f19 = some ⟨oc19, od19, .func (PySem.W.fnOf "_law_are_fields" "_law_are_fields" (defArgs s_law_are_fields) (defBody s_law_are_fields) (defScope s_law_are_fields) .none kV19 dc19 pm19 an19 cd19 ct19), sl19⟩) (c19 : PySem.W.codeIn K cd19 "_law_are_fields" = true) (k19 : PySem.W.keepIn K (.ref f19) = true)
  (a20 : PySem.W.nsIn K mainGlobals "_law_is_kind" = some (some (.ref f20))) (l20 : K.lookup f20 = some ⟨oc20, od20, .func (PySem.W.fnOf "_law_is_kind" "_law_is_kind" (defArgs s_law_is_kind) (defBody s_law_is_kind) (defScope s_law_is_kind) .none kV20 dc20 pm20 an20 cd20 ct20), sl20⟩) (c20 : PySem.W.codeIn K cd20 "_law_is_kind" = true) (k20 : PySem.W.keepIn K (.ref f20) = true)
  (a21 : PySem.W.nsIn K mainGlobals "_law_is_paper" = some (some (.ref f21))) (l21 : K.lookup f21 = some ⟨oc21, od21, .func (PySem.W.fnOf "_law_is_paper" "_law_is_paper" (defArgs s_law_is_paper) (defBody s_law_is_paper) (defScope s_law_is_paper) .none kV21 dc21 pm21 an21 cd21 ct21), sl21⟩) (c21 : PySem.W.codeIn K cd21 "_law_is_paper" = true) (k21 : PySem.W.keepIn K (.ref f21) = true)
  (a22 : PySem.W.nsIn K mainGlobals "_law_sign" = some (some (.ref f22))) (l22 : K.lookup f22 = some ⟨oc22, od22, .func (PySem.W.fnOf "_law_sign" "_law_sign" (defArgs s_law_sign) (defBody s_law_sign) (defScope s_law_sign) .none kV22 dc22 pm22 an22 cd22 ct22), sl22⟩) (c22 : PySem.W.codeIn K cd22 "_law_sign" = true) (k22 : PySem.W.keepIn K (.ref f22) = true)
  (a23 : PySem.W.nsIn K mainGlobals "_law_plain" = some (some (.ref f23))) (l23 : K.lookup f23 = some ⟨oc23, od23, .func (PySem.W.fnOf "_law_plain" "_law_plain" (defArgs s_law_plain) (defBody s_law_plain) (defScope s_law_plain) .none kV23 dc23 pm23 an23 cd23 ct23), sl23⟩) (c23 : PySem.W.codeIn K cd23 "_law_plain" = true) (k23 : PySem.W.keepIn K (.ref f23) = true)
  (a24 : PySem.W.nsIn K mainGlobals "_law_other_row" = some (some (.ref f24))) (l24 : K.lookup f24 = some ⟨oc24, od24, .func (PySem.W.fnOf "_law_other_row" "_law_other_row" (defArgs s_law_other_row) (defBody s_law_other_row) (defScope s_law_other_row) .none kV24 dc24 pm24 an24 cd24 ct24), sl24⟩) (c24 : PySem.W.codeIn K cd24 "_law_other_row" = true) (k24 : PySem.W.keepIn K (.ref f24) = true)
  (a25 : PySem.W.nsIn K mainGlobals "_law_other_word" = some (some (.ref f25))) (l25 : K.lookup f25 = some ⟨oc25, od25, .func (PySem.W.fnOf "_law_other_word" "_law_other_word" (defArgs s_law_other_word) (defBody s_law_other_word) (defScope s_law_other_word) .none kV25 dc25 pm25 an25 cd25 ct25), sl25⟩) (c25 : PySem.W.codeIn K cd25 "_law_other_word" = true) (k25 : PySem.W.keepIn K (.ref f25) = true)
  (a26 : PySem.W.nsIn K mainGlobals "_law_other" = some (some (.ref f26))) (l26 : K.lookup f26 = some ⟨oc26, od26, .func (PySem.W.fnOf "_law_other" "_law_other" (defArgs s_law_other) (defBody s_law_other) (defScope s_law_other) .none kV26 dc26 pm26 an26 cd26 ct26), sl26⟩) (c26 : PySem.W.codeIn K cd26 "_law_other" = true) (k26 : PySem.W.keepIn K (.ref f26) = true)
  (a27 : PySem.W.nsIn K mainGlobals "_law_spoilt" = some (some (.ref f27))) (l27 : K.lookup f27 = some ⟨oc27, od27, .func (PySem.W.fnOf "_law_spoilt" "_law_spoilt" (defArgs s_law_spoilt) (defBody s_law_spoilt) (defScope s_law_spoilt) .none kV27 dc27 pm27 an27 cd27 ct27), sl27⟩) (c27 : PySem.W.codeIn K cd27 "_law_spoilt" = true) (k27 : PySem.W.keepIn K (.ref f27) = true)
  (a28 : PySem.W.nsIn K mainGlobals "_law_longer" = some (some (.ref f28))) (l28 : K.lookup f28 = some ⟨oc28, od28, .func (PySem.W.fnOf "_law_longer" "_law_longer" (defArgs s_law_longer) (defBody s_law_longer) (defScope s_law_longer) .none kV28 dc28 pm28 an28 cd28 ct28), sl28⟩) (c28 : PySem.W.codeIn K cd28 "_law_longer" = true) (k28 : PySem.W.keepIn K (.ref f28) = true)
  (a29 : PySem.W.nsIn K mainGlobals "_law_thing" = some (some (.ref f29))) (l29 : K.lookup f29 = some ⟨oc29, od29, .func (PySem.W.fnOf "_law_thing" "_law_thing" (defArgs s_law_thing) (defBody s_law_thing) (defScope s_law_thing) .none kV29 dc29 pm29 an29 cd29 ct29), sl29⟩) (c29 : PySem.W.codeIn K cd29 "_law_thing" = true) (k29 : PySem.W.keepIn K (.ref f29) = true)
  (a30 : PySem.W.nsIn K mainGlobals "law" = some (some (.ref f30))) (l30 : K.lookup f30 = some ⟨oc30, od30, .func (PySem.W.fnOf "law" "law" (defArgs s_law) (defBody s_law) (defScope s_law) .none kV30 dc30 pm30 an30 cd30 ct30), sl30⟩) (c30 : PySem.W.codeIn K cd30 "law" = true) (k30 : PySem.W.keepIn K (.ref f30) = true)
  (y1 : PySem.W.nsIn K mainGlobals "len" = some none)
  (y2 : PySem.W.nsIn K mainGlobals "max" = some none)
  (y3 : PySem.W.nsIn K mainGlobals "min" = some none)
  (y4 : PySem.W.nsIn K mainGlobals "range" = some none)
  (y5 : PySem.W.nsIn K mainGlobals "tuple" = some none)
  (y6 : PySem.W.nsIn K mainGlobals "isinstance" = some none)
  (y7 : PySem.W.nsIn K mainGlobals "int" = some none)
  (y8 : PySem.W.nsIn K mainGlobals "bool" = some none)
  (y9 : PySem.W.nsIn K mainGlobals "list" = some none)
  (y10 : PySem.W.nsIn K mainGlobals "str" = some none)
  (y11 : PySem.W.nsIn K mainGlobals "all" = some none)
  {u1 : Value} (g1 : PySem.W.nsIn K mainGlobals "LETTERS" = some (some u1)) (q1 : RelV (.str abc) u1)
  {u2 : Value} (g2 : PySem.W.nsIn K mainGlobals "LONGEST_NAME" = some (some u2)) (q2 : RelV (.int 8) u2)
  {u3 : Value} (g3 : PySem.W.nsIn K mainGlobals "WIDEST_NUM" = some (some u3)) (q3 : RelV (.int 4) u3)
  {u4 : Value} (g4 : PySem.W.nsIn K mainGlobals "MOST_FIELDS" = some (some u4)) (q4 : RelV (.int 6) u4)
  {u5 : Value} (g5 : PySem.W.nsIn K mainGlobals "DEEPEST_KIND" = some (some u5)) (q5 : RelV (.int 5) u5)
  {aSIDES : Addr} (gSIDES : PySem.W.nsIn K mainGlobals "SIDES" = some (some (.ref aSIDES))) {odSIDES : Option Addr} {itSIDES : Array Value} {nnSIDES : Nat} {slSIDES : Array (Option Value)} (klSIDES : K.lookup aSIDES = some ⟨.type "tuple", odSIDES, .seq itSIDES nnSIDES, slSIDES⟩) (kzSIDES : itSIDES.size ≤ sizeLine) (kvSIDES : Vals [.int 0, .int 1] itSIDES.toList)
  {aWAYS : Addr} (gWAYS : PySem.W.nsIn K mainGlobals "WAYS" = some (some (.ref aWAYS))) {odWAYS : Option Addr} {itWAYS : Array Value} {nnWAYS : Nat} {slWAYS : Array (Option Value)} (klWAYS : K.lookup aWAYS = some ⟨.type "tuple", odWAYS, .seq itWAYS nnWAYS, slWAYS⟩) (kzWAYS : itWAYS.size ≤ sizeLine) (kvWAYS : Vals (waysL.map V.str) itWAYS.toList)
  :
  ∃ fd : FuncData, (∀ (s : Shared) (v : Value), BindsTo s fd ⟨[v], []⟩ [("script", v)]) ∧ ∀ base : Heap, K.In base → base.Ns mainGlobals mg → FnOk l.prog w K mg base CX0 24 fa fd ["script"] (spLaw K) := by
 have e := hfa.symm.trans (PySem.W.mg_of X G a30)
 cases e
 have F1 := fun_mk (st := s_is_whole) l1 c1 k1
 have b1 := F1.binds (ps := ["thing"]) fun _ _ _ _ _ _ => L3.us1 (fun _ => rfl)
 have m1 := PySem.W.mg_of X G a1
 have F2 := fun_mk (st := s_is_name) l2 c2 k2
 have b2 := F2.binds (ps := ["thing"]) fun _ _ _ _ _ _ => L3.us1 (fun _ => rfl)
 have m2 := PySem.W.mg_of X G a2
 have F3 := fun_mk (st := s_is_kind) l3 c3 k3
 have b3 := F3.binds (ps := ["thing"]) fun _ _ _ _ _ _ => L3.us1 (fun _ => rfl)
 have m3 := PySem.W.mg_of X G a3
 have F4 := fun_mk (st := s_is_kind_within) l4 c4 k4
 have b4 := F4.binds (ps := ["thing", "depth"]) fun _ _ _ _ _ _ => L3.us2 (fun _ _ => rfl)
 have m4 := PySem.W.mg_of X G a4
 have F5 := fun_mk (st := s_are_fields) l5 c5 k5
 have b5 := F5.binds (ps := ["thing", "depth"]) fun _ _ _ _ _ _ => L3.us2 (fun _ _ => rfl)
 have m5 := PySem.W.mg_of X G a5
 have F6 := fun_mk (st := s_is_field) l6 c6 k6
 have b6 := F6.binds (ps := ["thing", "depth"]) fun _ _ _ _ _ _ => L3.us2 (fun _ _ => rfl)
 have m6 := PySem.W.mg_of X G a6
 have F7 := fun_mk (st := s_is_paper) l7 c7 k7
 have b7 := F7.binds (ps := ["thing"]) fun _ _ _ _ _ _ => L3.us1 (fun _ => rfl)
 have m7 := PySem.W.mg_of X G a7
 have F8 := fun_mk (st := s_is_side) l8 c8 k8
 have b8 := F8.binds (ps := ["thing"]) fun _ _ _ _ _ _ => L3.us1 (fun _ => rfl)
 have m8 := PySem.W.mg_of X G a8
 have F9 := fun_mk (st := s_are_places) l9 c9 k9
 have b9 := F9.binds (ps := ["thing"]) fun _ _ _ _ _ _ => L3.us1 (fun _ => rfl)
 have m9 := PySem.W.mg_of X G a9
 have F10 := fun_mk (st := s_is_place) l10 c10 k10
 have b10 := F10.binds (ps := ["thing"]) fun _ _ _ _ _ _ => L3.us1 (fun _ => rfl)
 have m10 := PySem.W.mg_of X G a10
 have F11 := fun_mk (st := s_law_draws) l11 c11 k11
 have b11 := F11.binds (ps := ["cell", "count"]) fun _ _ _ _ _ _ => L3.us2 (fun _ _ => rfl)
 have m11 := PySem.W.mg_of X G a11
 have F12 := fun_mk (st := s_law_word) l12 c12 k12
 have b12 := F12.binds (ps := ["numbers"]) fun _ _ _ _ _ _ => L3.us1 (fun _ => rfl)
 have m12 := PySem.W.mg_of X G a12
 have F13 := fun_mk (st := s_law_names) l13 c13 k13
 have b13 := F13.binds (ps := ["row"]) fun _ _ _ _ _ _ => L3.us1 (fun _ => rfl)
 have m13 := PySem.W.mg_of X G a13
 have F14 := fun_mk (st := s_law_fields) l14 c14 k14
 have b14 := F14.binds (ps := ["kinds", "names", "number"]) fun _ _ _ _ _ _ => L3.us3 (fun _ _ _ => rfl)
 have m14 := PySem.W.mg_of X G a14
 have F15 := fun_mk (st := s_law_kind) l15 c15 k15
 have b15 := F15.binds (ps := ["row", "names", "deepest"]) fun _ _ _ _ _ _ => L3.us3 (fun _ _ _ => rfl)
 have m15 := PySem.W.mg_of X G a15
 have F16 := fun_mk (st := s_law_paper) l16 c16 k16
 have b16 := F16.binds (ps := ["row", "names", "deepest"]) fun _ _ _ _ _ _ => L3.us3 (fun _ _ _ => rfl)
 have m16 := PySem.W.mg_of X G a16
 have F17 := fun_mk (st := s_law_whole) l17 c17 k17
 have b17 := F17.binds (ps := ["thing"]) fun _ _ _ _ _ _ => L3.us1 (fun _ => rfl)
 have m17 := PySem.W.mg_of X G a17
 have F18 := fun_mk (st := s_law_is_name) l18 c18 k18
 have b18 := F18.binds (ps := ["thing"]) fun _ _ _ _ _ _ => L3.us1 (fun _ => rfl)
 have m18 := PySem.W.mg_of X G a18
 have F19 := fun_mk (st := s_law_are_fields) l19 c19 k19
 have b19 := F19.binds (ps := ["thing", "depth"]) fun _ _ _ _ _ _ => L3.us2 (fun _ _ => rfl)
 have m19 := PySem.W.mg_of X G a19
 have F20 := fun_mk (st := s_law_is_kind) l20 c20 k20
 have b20 := F20.binds (ps := ["thing", "depth"]) fun _ _ _ _ _ _ => L3.us2 (fun _ _ => rfl)
 have m20 := PySem.W.mg_of X G a20
 have F21 := fun_mk (st := s_law_is_paper) l21 c21 k21
 have b21 := F21.binds (ps := ["thing"]) fun _ _ _ _ _ _ => L3.us1 (fun _ => rfl)
 have m21 := PySem.W.mg_of X G a21
 have F22 := fun_mk (st := s_law_sign) l22 c22 k22
 have b22 := F22.binds (ps := ["number"]) fun _ _ _ _ _ _ => L3.us1 (fun _ => rfl)
 have m22 := PySem.W.mg_of X G a22
 have F23 := fun_mk (st := s_law_plain) l23 c23 k23
 have b23 := F23.binds (ps := ["number"]) fun _ _ _ _ _ _ => L3.us1 (fun _ => rfl)
 have m23 := PySem.W.mg_of X G a23
 have F24 := fun_mk (st := s_law_other_row) l24 c24 k24
 have b24 := F24.binds (ps := ["node", "way", "s"]) fun _ _ _ _ _ _ => L3.us3 (fun _ _ _ => rfl)
 have m24 := PySem.W.mg_of X G a24
 have F25 := fun_mk (st := s_law_other_word) l25 c25 k25
 have b25 := F25.binds (ps := ["node", "way", "s"]) fun _ _ _ _ _ _ => L3.us3 (fun _ _ _ => rfl)
 have m25 := PySem.W.mg_of X G a25
 have F26 := fun_mk (st := s_law_other) l26 c26 k26
 have b26 := F26.binds (ps := ["node", "s"]) fun _ _ _ _ _ _ => L3.us2 (fun _ _ => rfl)
 have m26 := PySem.W.mg_of X G a26
 have F27 := fun_mk (st := s_law_spoilt) l27 c27 k27
 have b27 := F27.binds (ps := ["thing", "s"]) fun _ _ _ _ _ _ => L3.us2 (fun _ _ => rfl)
 have m27 := PySem.W.mg_of X G a27
 have F28 := fun_mk (st := s_law_longer) l28 c28 k28
 have b28 := F28.binds (ps := ["paper", "many"]) fun _ _ _ _ _ _ => L3.us2 (fun _ _ => rfl)
 have m28 := PySem.W.mg_of X G a28
 have F29 := fun_mk (st := s_law_thing) l29 c29 k29
 have b29 := F29.binds (ps := ["cell"]) fun _ _ _ _ _ _ => L3.us1 (fun _ => rfl)
 have m29 := PySem.W.mg_of X G a29
 have F30 := fun_mk (st := s_law) l30 c30 k30
 have z_len := PySem.W.mg_none_of X G y1
 have z_max := PySem.W.mg_none_of X G y2
 have z_min := PySem.W.mg_none_of X G y3
 have z_range := PySem.W.mg_none_of X G y4
 have z_tuple := PySem.W.mg_none_of X G y5
 have z_isinstance := PySem.W.mg_none_of X G y6
 have z_int := PySem.W.mg_none_of X G y7
 have z_bool := PySem.W.mg_none_of X G y8
 have z_list := PySem.W.mg_none_of X G y9
 have z_str := PySem.W.mg_none_of X G y10
 have z_all := PySem.W.mg_none_of X G y11
 refine ⟨PySem.W.fnOf "law" "law" (defArgs s_law) (defBody s_law) (defScope s_law) .none kV30 dc30 pm30 an30 cd30 ct30, fun s v => .of_eq rfl, fun base _ _ => ?_⟩
 have m_LETTERS := PySem.W.mg_of X G g1
 have m_LONGEST_NAME := PySem.W.mg_of X G g2
 have m_WIDEST_NUM := PySem.W.mg_of X G g3
 have m_MOST_FIELDS := PySem.W.mg_of X G g4
 have m_DEEPEST_KIND := PySem.W.mg_of X G g5
 have m_SIDES := PySem.W.mg_of X G gSIDES
 have k_SIDES : KTup K aSIDES [.int 0, .int 1] := ⟨_, _, _, klSIDES, rfl, rfl, kzSIDES, kvSIDES⟩
 have m_WAYS := PySem.W.mg_of X G gWAYS
 have k_WAYS : KTup K aWAYS (waysL.map V.str) := ⟨_, _, _, klWAYS, rfl, rfl, kzWAYS, kvWAYS⟩
 have C11 : Cl3 l.prog w K mg base "_law_draws" _ _ _ := ⟨_, _, ok_draws F11 z_range, m11, k11, b11⟩
 have C12 : Cl3 l.prog w K mg base "_law_word" _ _ _ := ⟨_, _, ok_word F12, m12, k12, b12⟩
 have C13 : Cl3 l.prog w K mg base "_law_names" _ _ _ := ⟨_, _, ok_names F13 C12 z_len z_range, m13, k13, b13⟩
 have C14 : Cl3 l.prog w K mg base "_law_fields" _ _ _ := ⟨_, _, ok_fields F14 z_list z_len z_tuple, m14, k14, b14⟩
 have C15 : Cl3 l.prog w K mg base "_law_kind" _ _ _ := ⟨_, _, ok_kindB F15 C14 z_len z_range z_min z_max z_int, m15, k15, b15⟩
 have C1 : Cl3 l.prog w K mg base "is_whole" _ _ _ := ⟨_, _, ok_is_whole F1 z_isinstance z_int z_bool, m1, k1, b1⟩
 have C2 : Cl3 l.prog w K mg base "is_name" _ _ _ := ⟨_, _, ok_is_name F2 m_LONGEST_NAME (gl_int q2) m_LETTERS (gl_str q1) z_isinstance z_str z_len z_all, m2, k2, b2⟩
 have C8 : Cl3 l.prog w K mg base "is_side" _ _ _ := ⟨_, _, ok_is_side F8 C1 m_SIDES k_SIDES, m8, k8, b8⟩
 have C16 : Cl3 l.prog w K mg base "_law_paper" _ _ _ := ⟨_, _, ok_paper F16 C15 z_range z_tuple, m16, k16, b16⟩
 have C28 : Cl3 l.prog w K mg base "_law_longer" _ _ _ := ⟨_, _, ok_longer F28 C12 z_range z_len z_tuple, m28, k28, b28⟩
 have C22 : Cl3 l.prog w K mg base "_law_sign" _ _ _ := ⟨_, _, ok_sign F22, m22, k22, b22⟩
 have C23 : Cl3 l.prog w K mg base "_law_plain" _ _ _ := ⟨_, _, ok_plain F23 z_len, m23, k23, b23⟩
 have C24 : Cl3 l.prog w K mg base "_law_other_row" _ _ _ := ⟨_, _, ok_other_row F24 C23 z_max z_len z_list, m24, k24, b24⟩
 have C25 : Cl3 l.prog w K mg base "_law_other_word" _ _ _ := ⟨_, _, ok_other_word F25 C22 z_max z_len, m25, k25, b25⟩
 have C17 : Cl3 l.prog w K mg base "_law_whole" _ _ _ := ⟨_, _, ok_law_whole F17 z_isinstance z_int z_bool, m17, k17, b17⟩
 have C26 : Cl3 l.prog w K mg base "_law_other" _ _ _ := ⟨_, _, ok_other F26 C23 C24 C25 C17 z_isinstance z_tuple z_str, m26, k26, b26⟩
 have C27 : Cl3 l.prog w K mg base "_law_spoilt" _ _ _ := ⟨_, _, ok_spoilt F27 C26 z_isinstance z_tuple z_len z_range, m27, k27, b27⟩
 have C18 : Cl3 l.prog w K mg base "_law_is_name" _ _ _ := ⟨_, _, ok_law_is_name F18 z_isinstance z_str z_len, m18, k18, b18⟩
 have C29 : Cl3 l.prog w K mg base "_law_thing" _ _ _ := ⟨_, _, ok_thing F29 C11 C13 C16 C28 C27 z_int, m29, k29, b29⟩
 have C4 := kw_all (P := l.prog) (w := w) (base := base) F4 m4 k4 b4 F6 m6 k6 b6 F5 m5 k5 b5 C1 C2 m_WIDEST_NUM (gl_int q3) m_MOST_FIELDS (gl_int q4) z_isinstance z_tuple z_str z_len z_all 6
 have C20 := lk_all (P := l.prog) (w := w) (base := base) F20 m20 k20 b20 F19 m19 k19 b19 C17 C18 z_isinstance z_tuple z_str z_len 6
 have C3 : Cl3 l.prog w K mg base "is_kind" _ _ _ := ⟨_, _, ok_is_kind F3 m_DEEPEST_KIND (gl_int q5) C4, m3, k3, b3⟩
 have C10 : Cl3 l.prog w K mg base "is_place" _ _ _ := ⟨_, _, ok_is_place F10 C2 C3 m_WAYS k_WAYS z_isinstance z_tuple z_str z_len, m10, k10, b10⟩
 have C9 : Cl3 l.prog w K mg base "are_places" _ _ _ := ⟨_, _, ok_are_places F9 C10 z_isinstance z_tuple z_len z_all, m9, k9, b9⟩
 have C7 : Cl3 l.prog w K mg base "is_paper" _ _ _ := ⟨_, _, ok_is_paper F7 C2 C8 C9 C3 z_isinstance z_tuple z_len, m7, k7, b7⟩
 have C21 : Cl3 l.prog w K mg base "_law_is_paper" _ _ _ := ⟨_, _, ok_law_is_paper F21 C18 C17 C20 z_isinstance z_tuple z_str z_len, m21, k21, b21⟩
 exact (ok_law3 F30 C29 C7 C21 z_len z_isinstance z_bool).imp law_dn
theorem walk {l : PySem.W.OpenLaw} {q : Program} {loose : List Str} {XP : (Str → Option Value) → Heap → Prop} {YP : World → Heap → Prop} {d : DefRec} {K : Params → PySem.W.Frag} (hn : l.most = some 63) (hdf : d.params.defaults = [])
  (hY : ∀ (w : World) (h : Heap), YP w h → (K w.params).In h)
  (F : ∀ (w : World) (mg : Str → Option Value) (fa : Addr) (h : Heap), (K w.params).In h → h.Ns mainGlobals mg → mg d.name = some (.ref fa) →
   ∃ fd : FuncData, (∀ (s : Shared) (u : Value), BindsTo s fd ⟨[u], []⟩ [("script", u)]) ∧ ∀ base : Heap, (K w.params).In base → base.Ns mainGlobals mg → FnOk l.prog w (K w.params) mg base CX0 24 fa fd ["script"] (spLaw (K w.params))) :
  PySem.W.WalkO q loose XP YP l.row.toRowW d [] (fun f vs => PySem.call f vs) :=
 L2.walk_of (n := 63) (k := 24) (x := "script") (CX := fun _ => CX0) (sp := fun w => spLaw (K w.params)) hn (by decide) hdf ⟨rfl, by decide, by decide⟩ hY F (fun _ _ a ns hl hO hS => ⟨a, ns, rfl, hO, hS, hl, fun _ => rfl⟩) fun _ _ _ _ _ z => z
end Tg
open PySem PySem.W PyProof.Rows
def PySem.W.Fast.tw606160395604844768 : Unit := ()
def PySem.W.Fast.tw12293525127366936193 : Unit := ()
def PySem.W.Fast.tw12937341705449681890 : Unit := ()
def PySem.W.Fast.tw856503064334939814 : Unit := ()
def PySem.W.Fast.tw12612166287760012488 : Unit := ()
def PySem.W.Fast.tw11078531721125430826 : Unit := ()
def PySem.W.Fast.tw15756508050770050511 : Unit := ()
def PySem.W.Fast.tw16359953735267561074 : Unit := ()
def PySem.W.Fast.tw17240938973705183128 : Unit := ()
def PySem.W.Fast.tw15871778073830699581 : Unit := ()
def PySem.W.Fast.tw2559065422389467679 : Unit := ()
def PySem.W.Fast.tw2829088008220938622 : Unit := ()
set_option maxRecDepth 100000 in
set_option maxHeartbeats 0 in
theorem PySem.Challenge.cw_tonguegate_k29_papers_told_holds : PySem.Challenge.rw_tonguegate_k29_papers_told.Holds := by
 w_on; o_law; k_head; (case hw => w_witness2)
 k_fill
 refine Tg.walk (l := PySem.Challenge.rw_tonguegate_k29_papers_told) rfl rfl (fun w h Y => PySem.W.kIn_of Y) ?F
 case F =>
  intro w mg fa h KX G hmg
  refine' Tg.all_mk KX G hmg ?a1 ?l1 ?c1 ?k1 ?a2 ?l2 ?c2 ?k2 ?a3 ?l3 ?c3 ?k3 ?a4 ?l4 ?c4 ?k4 ?a5 ?l5 ?c5 ?k5 ?a6 ?l6 ?c6 ?k6 ?a7 ?l7 ?c7 ?k7 ?a8 ?l8 ?c8 ?k8 ?a9 ?l9 ?c9 ?k9 ?a10 ?l10 ?c10 ?k10 ?a11 ?l11 ?c11 ?k11 ?a12 ?l12 ?c12 ?k12 ?a13 ?l13 ?c13 ?k13 ?a14 ?l14 ?c14 ?k14 ?a15 ?l15 ?c15 ?k15 ?a16 ?l16 ?c16 ?k16 ?a17 ?l17 ?c17 ?k17 ?a18 ?l18 ?c18 ?k18 ?a19 ?l19 ?c19 ?k19 ?a20 ?l20 ?c20 ?k20 ?a21 ?l21 ?c21 ?k21 ?a22 ?l22 ?c22 ?k22 ?a23 ?l23 ?c23 ?k23 ?a24 ?l24 ?c24 ?k24 ?a25 ?l25 ?c25 ?k25 ?a26 ?l26 ?c26 ?k26 ?a27 ?l27 ?c27 ?k27 ?a28 ?l28 ?c28 ?k28 ?a29 ?l29 ?c29 ?k29 ?a30 ?l30 ?c30 ?k30 ?y1 ?y2 ?y3 ?y4 ?y5 ?y6 ?y7 ?y8 ?y9 ?y10 ?y11 ?g1 ?q1 ?g2 ?q2 ?g3 ?q3 ?g4 ?q4 ?g5 ?q5   ?gSIDES ?klSIDES ?kzSIDES ?kvSIDES ?gWAYS ?klWAYS ?kzWAYS ?kvWAYS  
  (case a1 => k_is); (case l1 => k_is); (case c1 => k_is); (case k1 => k_is)
  (case a2 => k_is); (case l2 => k_is); (case c2 => k_is); (case k2 => k_is)
  (case a3 => k_is); (case l3 => k_is); (case c3 => k_is); (case k3 => k_is)
  (case a4 => k_is); (case l4 => k_is); (case c4 => k_is); (case k4 => k_is)
  (case a5 => k_is); (case l5 => k_is); (case c5 => k_is); (case k5 => k_is)
  (case a6 => k_is); (case l6 => k_is); (case c6 => k_is); (case k6 => k_is)
  (case a7 => k_is); (case l7 => k_is); (case c7 => k_is); (case k7 => k_is)
  (case a8 => k_is); (case l8 => k_is); (case c8 => k_is); (case k8 => k_is)
  (case a9 => k_is); (case l9 => k_is); (case c9 => k_is); (case k9 => k_is)
  (case a10 => k_is); (case l10 => k_is); (case c10 => k_is); (case k10 => k_is)
  (case a11 => k_is); (case l11 => k_is); (case c11 => k_is); (case k11 => k_is)
  (case a12 => k_is); (case l12 => k_is); (case c12 => k_is); (case k12 => k_is)
  (case a13 => k_is); (case l13 => k_is); (case c13 => k_is); (case k13 => k_is)
  (case a14 => k_is); (case l14 => k_is); (case c14 => k_is); (case k14 => k_is)
  (case a15 => k_is); (case l15 => k_is); (case c15 => k_is); (case k15 => k_is)
  (case a16 => k_is); (case l16 => k_is); (case c16 => k_is); (case k16 => k_is)
  (case a17 => k_is); (case l17 => k_is); (case c17 => k_is); (case k17 => k_is)
  (case a18 => k_is); (case l18 => k_is); (case c18 => k_is); (case k18 => k_is)
  (case a19 => k_is); (case l19 => k_is); (case c19 => k_is); (case k19 => k_is)
  (case a20 => k_is); (case l20 => k_is); (case c20 => k_is); (case k20 => k_is)
  (case a21 => k_is); (case l21 => k_is); (case c21 => k_is); (case k21 => k_is)
  (case a22 => k_is); (case l22 => k_is); (case c22 => k_is); (case k22 => k_is)
  (case a23 => k_is); (case l23 => k_is); (case c23 => k_is); (case k23 => k_is)
  (case a24 => k_is); (case l24 => k_is); (case c24 => k_is); (case k24 => k_is)
  (case a25 => k_is); (case l25 => k_is); (case c25 => k_is); (case k25 => k_is)
  (case a26 => k_is); (case l26 => k_is); (case c26 => k_is); (case k26 => k_is)
  (case a27 => k_is); (case l27 => k_is); (case c27 => k_is); (case k27 => k_is)
  (case a28 => k_is); (case l28 => k_is); (case c28 => k_is); (case k28 => k_is)
  (case a29 => k_is); (case l29 => k_is); (case c29 => k_is); (case k29 => k_is)
  (case a30 => k_is); (case l30 => k_is); (case c30 => k_is); (case k30 => k_is)
  (case y1 => k_is)
  (case y2 => k_is)
  (case y3 => k_is)
  (case y4 => k_is)
  (case y5 => k_is)
  (case y6 => k_is)
  (case y7 => k_is)
  (case y8 => k_is)
  (case y9 => k_is)
  (case y10 => k_is)
  (case y11 => k_is)
  (case g1 => k_is); (case q1 => exact ⟨_, rfl⟩)
  (case g2 => k_is); (case q2 => exact ⟨_, rfl⟩)
  (case g3 => k_is); (case q3 => exact ⟨_, rfl⟩)
  (case g4 => k_is); (case q4 => exact ⟨_, rfl⟩)
  (case g5 => k_is); (case q5 => exact ⟨_, rfl⟩)
  (case gSIDES => k_is); (case klSIDES => k_is); (case kzSIDES => decide); (case kvSIDES => exact (.cons ⟨_, rfl⟩ (.cons ⟨_, rfl⟩ .nil)))
  (case gWAYS => k_is); (case klWAYS => k_is); (case kzWAYS => decide); (case kvWAYS => exact (.cons ⟨_, rfl⟩ (.cons ⟨_, rfl⟩ (.cons ⟨_, rfl⟩ (.cons ⟨_, rfl⟩ .nil)))))

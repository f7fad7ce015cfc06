import PyProof.Rows.All
import Wide.All
import OpenK.AllK
import Wide.FinOn
import Lean
import PyProof.EqAt
import PyProof.EqKinds
import PyProof.TupleCall
import PySem.Challenge.RW_tonguegate_k16_given_back
set_option Elab.async false
set_option linter.all false
set_option maxRecDepth 100000
namespace L2
open PySem PySem.Spec PyProof.Rows
abbrev Key := Sum Int Str
def keyIs : Key → Value → Bool
 | .inl k, v => Value.isInt k v
 | .inr x, v => Value.isStrOf x v
def keyH (w : World) : Key → Int
 | .inl k => hashInt k
 | .inr x => hashStr w x
theorem keyIs_shape : ∀ {k : Key} {v : Value}, keyIs k v = true → (∃ i t, k = Sum.inl i ∧ v = Value.int i t) ∨ (∃ x t, k = Sum.inr x ∧ v = Value.str x t)
 | .inl i, v, h => by
  obtain ⟨t, e⟩ := Value.isInt_shape (k := i) (v := v) h
  exact .inl ⟨i, t, rfl, e⟩
 | .inr x, v, h => by
  obtain ⟨t, e⟩ := Value.isStrOf_shape (x := x) (v := v) h
  exact .inr ⟨x, t, rfl, e⟩
theorem keyIs_int (i : Int) (t : Tok) : keyIs (.inl i) (.int i t) = true := by simp [keyIs, Value.isInt]
theorem keyIs_str (x : Str) (t : Tok) : keyIs (.inr x) (.str x t) = true := by simp [keyIs, Value.isStrOf]
theorem key_ll (a b : Int) : decide ((Sum.inl a : Key) = Sum.inl b) = (a == b) := by
 by_cases e : a = b
 ·subst e; simp
 ·have h : ¬ (Sum.inl a : Key) = Sum.inl b := fun q => e (Sum.inl.inj q)
  rw [decide_eq_false h]
  exact (beq_eq_false_iff_ne.mpr e).symm
theorem key_rr (a b : Str) : decide ((Sum.inr a : Key) = Sum.inr b) = decide (a = b) := by
 by_cases e : a = b
 ·subst e; simp
 ·have h : ¬ (Sum.inr a : Key) = Sum.inr b := fun q => e (Sum.inr.inj q)
  rw [decide_eq_false h, decide_eq_false e]
theorem key_lr (a : Int) (b : Str) : decide ((Sum.inl a : Key) = Sum.inr b) = false := decide_eq_false (fun q => nomatch q)
theorem key_rl (a : Str) (b : Int) : decide ((Sum.inr a : Key) = Sum.inl b) = false := decide_eq_false (fun q => nomatch q)
def mixKind (prog : Program) (w : World) : PySem.KeyKind prog w Key where
 is := keyIs
 hash := keyH w
 inj := fun v a b ha hb => by
  rcases keyIs_shape ha with ⟨i, t, rfl, rfl⟩ | ⟨x, t, rfl, rfl⟩
  ·rcases keyIs_shape hb with ⟨j, u, rfl, e⟩ | ⟨y, u, rfl, e⟩
   ·injection e with e1 _; rw [e1]
   ·exact nomatch e
  ·rcases keyIs_shape hb with ⟨j, u, rfl, e⟩ | ⟨y, u, rfl, e⟩
   ·exact nomatch e
   ·injection e with e1 _; rw [e1]
 byValue := fun k v h => by
  rcases keyIs_shape h with ⟨i, t, rfl, rfl⟩ | ⟨x, t, rfl, rfl⟩ <;> rfl
 pyHash := fun hv h => by
  rcases keyIs_shape hv with ⟨i, t, rfl, rfl⟩ | ⟨x, t, rfl, rfl⟩
  ·exact wpAny_pyHash_int h
  ·exact wpAny_pyHash_str h
 eqBool := fun hu hv h => by
  rcases keyIs_shape hu with ⟨i, t, rfl, rfl⟩ | ⟨x, t, rfl, rfl⟩
  ·rcases keyIs_shape hv with ⟨j, u, rfl, rfl⟩ | ⟨y, u, rfl, rfl⟩
   ·rw [key_ll] at h; exact wpAny_eqBool_int h
   ·rw [key_lr] at h; exact SeqAt.EqAt.int_str i t y u _ _ _ _ h
  ·rcases keyIs_shape hv with ⟨j, u, rfl, rfl⟩ | ⟨y, u, rfl, rfl⟩
   ·rw [key_rl] at h; exact SeqAt.EqAt.str_int x t j u _ _ _ _ h
   ·rw [key_rr] at h; exact wpAny_eqBool_str h
 «strs» := fun k x t v h => by
  rcases keyIs_shape h with ⟨i, u, rfl, e⟩ | ⟨y, u, rfl, e⟩
  ·exact nomatch e
  ·injection e with e1 _
   subst e1
   cases v <;> rfl
theorem mixKind_int (prog : Program) (w : World) (i : Int) (t : Tok) : (mixKind prog w).is (.inl i) (.int i t) = true := keyIs_int i t
theorem mixKind_str (prog : Program) (w : World) (x : Str) (t : Tok) : (mixKind prog w).is (.inr x) (.str x t) = true := keyIs_str x t
end L2
namespace L2
open PySem PySem.Spec PyProof.Rows
inductive V where
 | non | bl (b : Bool) | int (i : Int) | str (x : Str) | byt (b : Array UInt8) | flt (b : UInt64) | ref (a : Addr) | ty (n : String)
 deriving DecidableEq
def RelV : V → Value → Prop
 | .non, u => u = Value.none
 | .bl b, u => u = Value.bool b
 | .int i, u => ∃ t, u = Value.int i t
 | .str x, u => ∃ t, u = Value.str x t
 | .byt b, u => ∃ t, u = Value.bytes b t
 | .flt b, u => ∃ t, u = Value.float b t
 | .ref a, u => u = Value.ref a
 | .ty n, u => u = Value.type n
abbrev Vals : List V → List Value → Prop := Paired RelV
theorem Vals.length {xs : List V} {us : List Value} (r : Vals xs us) : xs.length = us.length := Paired.length r
theorem Vals.get : ∀ {xs : List V} {us : List Value} {i : Nat} {x : V}, Vals xs us → xs[i]? = some x → ∃ u, us[i]? = some u ∧ RelV x u
 | _, _, _, _, .nil, e => by simp at e
 | _, _, 0, _, .cons r _, e => by simp at e; subst e; exact ⟨_, rfl, r⟩
 | _, _, i + 1, x, .cons _ t, e => by
  obtain ⟨u, h1, h2⟩ := Vals.get (i := i) (x := x) t (by simpa using e)
  exact ⟨u, by simpa using h1, h2⟩
theorem Vals.set {x : V} {u : Value} (r : RelV x u) : ∀ {xs : List V} {us : List Value} (i : Nat), Vals xs us → Vals (xs.set i x) (us.set i u)
 | _, _, _, .nil => .nil
 | _, _, 0, .cons _ t => .cons r t
 | _, _, i + 1, .cons q t => .cons q (Vals.set r i t)
theorem Vals.append : ∀ {xs ys : List V} {us ws : List Value}, Vals xs us → Vals ys ws → Vals (xs ++ ys) (us ++ ws)
 | _, _, _, _, .nil, s => s
 | _, _, _, _, .cons r t, s => .cons r (Vals.append t s)
theorem Vals.take : ∀ {xs : List V} {us : List Value} (n : Nat), Vals xs us → Vals (xs.take n) (us.take n)
 | _, _, 0, _ => .nil
 | _, _, _ + 1, .nil => .nil
 | _, _, n + 1, .cons r t => .cons r (Vals.take n t)
theorem Vals.drop : ∀ {xs : List V} {us : List Value} (n : Nat), Vals xs us → Vals (xs.drop n) (us.drop n)
 | _, _, 0, r => r
 | _, _, _ + 1, .nil => .nil
 | _, _, n + 1, .cons _ t => Vals.drop n t
theorem Vals.none_of : ∀ {xs : List V} {us : List Value} {i : Nat}, Vals xs us → xs[i]? = none → us[i]? = none := fun {xs us i} r e => by
 have h1 := r.length
 have h2 : xs.length ≤ i := List.getElem?_eq_none_iff.mp e
 exact List.getElem?_eq_none_iff.mpr (by omega)
def RelO : Option V → Option Value → Prop
 | some v, some u => RelV v u
 | none, none => True
 | _, _ => False
def KV {κ : Type} : List (κ × V) → List (κ × Value) → Prop := Paired fun (p : κ × V) (q : κ × Value) => p.1 = q.1 ∧ RelV p.2 q.2
def kV : Key → V
 | .inl i => .int i
 | .inr x => .str x
inductive HO where
 /-- a list -/
 | lst (xs : List V)
 /-- a tuple (never changes) -/
 | tup (xs : List V)
 /-- a dict whose keys are ints and texts; one whose keys are tuples of ints and texts (the empty one is both) -/
 | dK (kvs : List (Key × V)) | dT (kvs : List (List Key × V))
 /-- a set of ints: its members, its size -/
 | set (S : Int → Bool) (n : Nat)
 /-- an instance of the class at C, its dict at dx, its attributes -/
 | ins (C dx : Addr) (fs : List (Str × V))
 /-- the dict of the instance at x -/
 | own (x : Addr)
 /-- the dict of an exception -/
 | xd (fs : List (Str × V))
 /-- a bound method, f of x -/
 | met (f x : Addr)
 /-- a range object lo, lo + 1, .. below hi -/
 | rng (lo hi : Int)
 /-- a thing that is known to the object (the script; a dict while a loop walks it): read, never written while it is so -/
 | frz (o : Obj) (u : HO)
 /-- a code object's table -/
 | tbl (ps : Array Value)
 /-- any other thing, by what is true of its one object (a def of one's own: SetO a S n := HO.ext fun h => ..) -/
 | ext (φ : Heap → Prop)
abbrev Hp := Addr → Option HO
def upd (H : Hp) (a : Addr) (o : HO) : Hp := fun b => if b = a then some o else H b
theorem upd_same {H : Hp} {a : Addr} {o : HO} : upd H a o a = some o := by unfold upd; rw [if_pos rfl]
theorem upd_ne {H : Hp} {a b : Addr} {o : HO} (h : b ≠ a) : upd H a o b = H b := by unfold upd; rw [if_neg h]
theorem ne_of {H : Hp} {a b : Addr} {o u : HO} (h : H a = some o) (h' : H b = some u) (d : o ≠ u) : a ≠ b := by
 intro e; subst e; rw [h] at h'; exact d (Option.some.inj h')
theorem ne_of_none {H : Hp} {a b : Addr} {o : HO} (h : H a = some o) (h' : H b = none) : a ≠ b := by
 intro e; subst e; rw [h] at h'; cases h'
section
variable (P : Program) (w : World)
def ObjOk (H : Hp) (h : Heap) (a : Addr) : HO → Prop
 | .lst xs => xs.length ≤ sizeLine ∧ ∃ (its : List Value) (n : Nat), Vals xs its ∧ h.get? a = some { cls := .type "list", data := .seq its.toArray n }
 | .tup xs => xs.length ≤ sizeLine ∧ ∃ its : List Value, Vals xs its ∧ IsTup h a its.toArray
 | .dK kvs => kvs.length ≤ sizeLine ∧ (a == sysModules) = false ∧ ∃ vs, KV kvs vs ∧ h.DictOf (mixKind P w) a vs
 | .dT kvs => kvs.length ≤ sizeLine ∧ (a == sysModules) = false ∧ ∃ xs : List (List Key × Addr × Value),
   Paired (fun (p : List Key × V) (q : List Key × Addr × Value) => p.1 = q.1 ∧ H q.2.1 = some (.tup (p.1.map kV)) ∧ RelV p.2 q.2.2) kvs xs ∧
   ∃ o es ep, h.get? a = some o ∧ o.ExactDict ∧ o.data = .dict es ep ∧ es.toList = xs.map (entryOfKey (tupleKind (mixKind P w))) ∧ (xs.map (·.1)).Nodup
 | .set S n => h.SetOf (intKind P w) a S n
 | .ins C dx fs => H dx = some (.own a) ∧ fs.length ≤ 1000 ∧ dx ≠ a ∧ h.get? a = some (PySem.W.instObj C dx) ∧
   ∃ mA, h.Ns1 dx mA ∧ (∀ f, RelO (fs.lookup f) (mA f)) ∧ PySem.Within mA (fs.map (·.1))
 | .own _ => ∃ o, h.get? a = some o
 | .xd fs => ∃ mA, h.Ns1 a mA ∧ ∀ f, RelO (fs.lookup f) (mA f)
 | .rng lo hi => ∃ t u v, h.get? a = some { cls := .type "range", data := .fields #[.int lo t, .int hi u, .int 1 v] }
 | .frz o u => h.get? a = some o ∧ ObjOk H h a u
 | .tbl ps => h.get? a = some { cls := .none, data := .fields ps }
 | .met f x => h.get? a = some (PySem.W.methodObj (.ref f) (.ref x))
 | .ext φ => φ h ∧ (∃ o, h.get? a = some o) ∧ ∀ h1 h2 : Heap, φ h1 → (∀ o, h1.get? a = some o → h2.get? a = some o) → φ h2
def HOk (H : Hp) (h : Heap) : Prop := ∀ a o, H a = some o → ObjOk P w H h a o
end
section
variable {P : Program} {w : World} {H H' : Hp} {h h' : Heap} {a : Addr} {o : HO}
theorem ObjOk.lt (x : ObjOk P w H h a o) : a < h.objs.size := by
 cases o with
 | lst xs => obtain ⟨_, _, _, _, e⟩ := x; exact Heap.lt_size e
 | tup xs => obtain ⟨_, _, _, p⟩ := x; exact p.lt
 | dK kvs => obtain ⟨_, _, _, _, o, _, _, e, _⟩ := x; exact Heap.lt_size e
 | dT kvs => obtain ⟨_, _, _, _, o, _, _, e, _⟩ := x; exact Heap.lt_size e
 | set S n => obtain ⟨o, _, _, _, e, _⟩ := x; exact Heap.lt_size e
 | ins C dx fs => obtain ⟨_, _, _, e, _⟩ := x; exact Heap.lt_size e
 | own y => obtain ⟨_, e⟩ := x; exact Heap.lt_size e
 | xd fs => obtain ⟨_, ⟨_, _, _, e, _⟩, _⟩ := x; exact Heap.lt_size e
 | rng lo hi => obtain ⟨_, _, _, e⟩ := x; exact Heap.lt_size e
 | frz ob u => obtain ⟨e, _⟩ := x; exact Heap.lt_size e
 | tbl ps => exact Heap.lt_size (show h.get? a = some _ from x)
 | met f y => exact Heap.lt_size (show h.get? a = some _ from x)
 | ext φ => obtain ⟨_, ⟨_, e⟩, _⟩ := x; exact Heap.lt_size e
theorem Paired.mapP {α β : Type} {F G : α → β → Prop} : ∀ {l₁ : List α} {l₂ : List β}, Paired F l₁ l₂ → (∀ a b, F a b → G a b) → Paired G l₁ l₂
 | _, _, .nil, _ => .nil
 | _, _, .cons r t, f => .cons (f _ _ r) (Paired.mapP t f)
theorem ObjOk.stay (x : ObjOk P w H h a o) (k : ∀ b u, (b = a ∨ H b = some (.own a)) → h.get? b = some u → h'.get? b = some u)
  (ho : ∀ b, H b = some (.own a) → H' b = some (.own a)) (ht : ∀ b xs, H b = some (.tup xs) → H' b = some (.tup xs)) : ObjOk P w H' h' a o := by
 induction o with
 | lst xs => obtain ⟨z, its, n, r, e⟩ := x; exact ⟨z, its, n, r, k _ _ (.inl rfl) e⟩
 | tup xs => obtain ⟨z, its, r, ob, e, c⟩ := x; exact ⟨z, its, r, ob, k _ _ (.inl rfl) e, c⟩
 | dK kvs => obtain ⟨z, y, vs, r, ob, es, ep, e, c⟩ := x; exact ⟨z, y, vs, r, ob, es, ep, k _ _ (.inl rfl) e, c⟩
 | dT kvs =>
  obtain ⟨z, y, xs, r, ob, es, ep, e, c⟩ := x
  exact ⟨z, y, xs, Paired.mapP r fun p q z => ⟨z.1, ht _ _ z.2.1, z.2.2⟩, ob, es, ep, k _ _ (.inl rfl) e, c⟩
 | set S n => obtain ⟨ob, es, ep, t, e, c⟩ := x; exact ⟨ob, es, ep, t, k _ _ (.inl rfl) e, c⟩
 | ins C dx fs =>
  obtain ⟨d, z, ne, e, mA, ⟨od, es, ep, e2, c⟩, r⟩ := x
  exact ⟨ho _ d, z, ne, k _ _ (.inl rfl) e, mA, ⟨od, es, ep, k _ _ (.inr d) e2, c⟩, r⟩
 | own y => obtain ⟨ob, e⟩ := x; exact ⟨ob, k _ _ (.inl rfl) e⟩
 | xd fs => obtain ⟨mA, ⟨od, es, ep, e, c⟩, r⟩ := x; exact ⟨mA, ⟨od, es, ep, k _ _ (.inl rfl) e, c⟩, r⟩
 | rng lo hi => obtain ⟨t, u, v, e⟩ := x; exact ⟨t, u, v, k _ _ (.inl rfl) e⟩
 | frz ob u ih => obtain ⟨e, q⟩ := x; exact ⟨k _ _ (.inl rfl) e, ih q⟩
 | tbl ps =>
  have e : h.get? a = some { cls := .none, data := .fields ps } := x
  show h'.get? a = some { cls := .none, data := .fields ps }
  exact k a _ (.inl rfl) e
 | met f y =>
  have e : h.get? a = some (PySem.W.methodObj (.ref f) (.ref y)) := x
  show h'.get? a = some (PySem.W.methodObj (.ref f) (.ref y))
  exact k a _ (.inl rfl) e
 | ext φ => obtain ⟨p, ⟨o, e⟩, st⟩ := x; exact ⟨st _ _ p fun o q => k _ _ (.inl rfl) q, ⟨o, k _ _ (.inl rfl) e⟩, st⟩
theorem HOk.lt (x : HOk P w H h) (e : H a = some o) : a < h.objs.size := (x a o e).lt
theorem HOk.fresh (x : HOk P w H h) (e : h.objs.size ≤ a) : H a = none := by
 cases q : H a with
 | none => rfl
 | some u => exact absurd (Nat.lt_of_lt_of_le (x.lt q) e) (Nat.lt_irrefl _)
theorem HOk.kept (x : HOk P w H h) (k : ∀ b u, h.get? b = some u → h'.get? b = some u) : HOk P w H h' := fun a o e =>
 (x a o e).stay (fun b u _ q => k b u q) (fun _ q => q) fun _ _ q => q
theorem HOk.laid (x : HOk P w H h) (k : ∀ b u, h.get? b = some u → h'.get? b = some u) (hp : h.objs.size ≤ a) (new : ObjOk P w (upd H a o) h' a o) : HOk P w (upd H a o) h' := fun b u e => by
 have hn := x.fresh hp
 by_cases hb : b = a
 ·subst hb; rw [upd_same] at e; cases e; exact new
 ·rw [upd_ne hb] at e
  exact (x b u e).stay (fun c v _ q => k c v q) (fun c q => by rw [upd_ne (ne_of_none q hn)]; exact q) fun c xs q => by rw [upd_ne (ne_of_none q hn)]; exact q
end
def Rd (H : Hp) (a : Addr) (u : HO) : Prop := H a = some u ∨ ∃ o, H a = some (.frz o u)
theorem Rd.of {H : Hp} {a : Addr} {u : HO} (h : H a = some u) : Rd H a u := .inl h
theorem Rd.ok {P : Program} {w : World} {H : Hp} {h : Heap} {a : Addr} {u : HO} (r : Rd H a u) (x : HOk P w H h) : ObjOk P w H h a u := by
 rcases r with r | ⟨o, r⟩
 ·exact x a u r
 ·obtain ⟨_, q⟩ := x a _ r
  exact q
def Mut : Option HO → Prop
 | some (.lst _) => True
 | some (.dK _) => True
 | some (.dT _) => True
 | some (.set _ _) => True
 | some (.ins _ _ _) => True
 | some (.ext _) => True
 | _ => False
section
variable {P : Program} {w : World} {H : Hp} {h h' : Heap} {x e : Addr} {o' : HO}
theorem HOk.write (ok : HOk P w H h) (mu : Mut (H x)) (he : e = x ∨ H e = some (.own x)) (k : ∀ b u, b ≠ e → h.get? b = some u → h'.get? b = some u) (heo : ∃ u, h'.get? e = some u)
  (new : ObjOk P w (upd H x o') h' x o') : HOk P w (upd H x o') h' := fun b u q => by
 have nown : ∀ c y, H c = some (.own y) → c ≠ x := fun c y r z => by subst z; rw [r] at mu; exact mu
 have ntup : ∀ c xs, H c = some (.tup xs) → c ≠ x := fun c xs r z => by subst z; rw [r] at mu; exact mu
 by_cases hb : b = x
 ·subst hb; rw [upd_same] at q; cases q; exact new
 ·rw [upd_ne hb] at q
  by_cases hbe : b = e
  ·have q' : H b = some (.own x) := by
    rcases he with z | z
    ·exact absurd (hbe.trans z) hb
    ·rw [hbe]; exact z
   rw [q] at q'; cases q'
   obtain ⟨v, hv⟩ := heo
   exact ⟨v, by rw [hbe]; exact hv⟩
  ·refine (ok b u q).stay (fun c v hc r => k c v ?_ r) (fun c r => by rw [upd_ne (nown c b r)]; exact r) fun c xs r => by rw [upd_ne (ntup c xs r)]; exact r
   rcases hc with rfl | hc
   ·exact hbe
   ·rintro rfl
    rcases he with z | z
    ·exact nown c b hc z
    ·rw [hc] at z; cases z; exact hb rfl
end
structure Un (fs ex : List Addr) (H H' : Hp) (h h' : Heap) : Prop where
 keep : ∀ b o, h.get? b = some o → H b = none → b ∉ fs → b ∉ ex → h'.get? b = some o
 slot : ∀ b o, h.get? b = some o → H b = none → b ∈ fs → b ∉ ex → ∃ sl, h'.get? b = some { o with slots := sl }
 free : ∀ b o, h.get? b = some o → H b = none → b ∉ ex → H' b = none
 there : ∀ b o, h.get? b = some o → b ∉ ex → ∃ o', h'.get? b = some o'
 tups : ∀ b xs, H b = some (.tup xs) → H' b = some (.tup xs)
 frzs : ∀ b o u, H b = some (.frz o u) → H' b = some (.frz o u)
 tbls : ∀ b ps, H b = some (.tbl ps) → ∃ more, H' b = some (.tbl (ps ++ more))
section
variable {fs fs' ex ex' : List Addr} {H H1 H2 : Hp} {h h1 h2 h' : Heap} {a x e : Addr} {o : HO}
theorem Un.any (u : Un fs ex H H1 h h1) {b : Addr} {ob : Obj} (q : h.get? b = some ob) (n : H b = none) (hx : b ∉ ex) : ∃ sl, h1.get? b = some { ob with slots := sl } := by
 by_cases hb : b ∈ fs
 ·exact u.slot b ob q n hb hx
 ·exact ⟨ob.slots, u.keep b ob q n hb hx⟩
theorem Un.trans (a : Un fs ex H H1 h h1) (b : Un fs ex H1 H2 h1 h2) : Un fs ex H H2 h h2 where
 keep := fun c ob q n hc hx => b.keep c ob (a.keep c ob q n hc hx) (a.free c ob q n hx) hc hx
 slot := fun c ob q n hc hx => by
  obtain ⟨sl, e1⟩ := a.slot c ob q n hc hx
  obtain ⟨sl', e2⟩ := b.slot c _ e1 (a.free c ob q n hx) hc hx
  exact ⟨sl', e2⟩
 free := fun c ob q n hx => by
  obtain ⟨o', e1⟩ := a.there c ob q hx
  exact b.free c o' e1 (a.free c ob q n hx) hx
 there := fun c ob q hx => by
  obtain ⟨o', e1⟩ := a.there c ob q hx
  exact b.there c o' e1 hx
 tups := fun c xs q => b.tups c xs (a.tups c xs q)
 frzs := fun c ob xs q => b.frzs c ob xs (a.frzs c ob xs q)
 tbls := fun c ps q => by
  obtain ⟨m1, e1⟩ := a.tbls c ps q
  obtain ⟨m2, e2⟩ := b.tbls c _ e1
  exact ⟨m1 ++ m2, by rw [e2, Array.append_assoc]⟩
theorem Un.kept (k : ∀ b u, h.get? b = some u → h'.get? b = some u) : Un fs ex H H h h' :=
 ⟨fun b ob q _ _ _ => k b ob q, fun b ob q _ _ _ => ⟨ob.slots, k b ob q⟩, fun _ _ _ n _ => n, fun b ob q _ => ⟨ob, k b ob q⟩, fun _ _ q => q, fun _ _ _ q => q, fun _ ps q => ⟨#[], by rw [q]; simp⟩⟩
theorem Un.refl : Un fs ex H H h h := Un.kept fun _ _ q => q
theorem Un.laid (k : ∀ b u, h.get? b = some u → h'.get? b = some u) (hp : h.objs.size ≤ a) (hn : H a = none) : Un fs ex H (upd H a o) h h' where
 keep := fun b u q _ _ _ => k b u q
 slot := fun b u q _ _ _ => ⟨u.slots, k b u q⟩
 free := fun b u q n _ => by rw [upd_ne (Nat.ne_of_lt (Nat.lt_of_lt_of_le (Heap.lt_size q) hp))]; exact n
 there := fun b u q _ => ⟨u, k b u q⟩
 tups := fun b xs q => by rw [upd_ne (ne_of_none q hn)]; exact q
 frzs := fun b u xs q => by rw [upd_ne (ne_of_none q hn)]; exact q
 tbls := fun b ps q => ⟨#[], by rw [upd_ne (ne_of_none q hn), q]; simp⟩
theorem Un.write (mu : Mut (H x)) (he : e = x ∨ H e = some (.own x)) (k : ∀ b u, b ≠ e → h.get? b = some u → h'.get? b = some u) (heo : ∃ u, h'.get? e = some u) : Un fs ex H (upd H x o) h h' := by
 have hx : ∀ b, H b = none → b ≠ x := fun b n z => by subst z; rw [n] at mu; exact mu
 have hb : ∀ b, H b = none → b ≠ e := fun b n z => by
  subst z
  rcases he with r | r
  ·exact hx b n r
  ·rw [n] at r; cases r
 have hm : ∀ b u, H b = some u → ¬ Mut (some u) → b ≠ x := fun b u q nm z => by subst z; rw [q] at mu; exact nm mu
 refine ⟨fun b u q n _ _ => k b u (hb b n) q, fun b u q n _ _ => ⟨u.slots, k b u (hb b n) q⟩, fun b u q n _ => by rw [upd_ne (hx b n)]; exact n, fun b u q _ => ?_,
  fun b xs q => by rw [upd_ne (hm b _ q fun z => z)]; exact q, fun b u xs q => by rw [upd_ne (hm b _ q fun z => z)]; exact q, fun b ps q => ⟨#[], by rw [upd_ne (hm b _ q fun z => z), q]; simp⟩⟩
 by_cases hbe : b = e
 ·subst hbe; exact heo
 ·exact ⟨u, k b u hbe q⟩
theorem Un.mono (u : Un fs ex H H1 h h1) (hs : ∀ b ∈ fs, b ∈ fs') (hx : ∀ b ∈ ex, b ∈ ex') : Un fs' ex' H H1 h h1 :=
 ⟨fun b ob q n hb he => u.keep b ob q n (fun z => hb (hs b z)) fun z => he (hx b z), fun _ _ q n _ he => u.any q n fun z => he (hx _ z), fun b ob q n he => u.free b ob q n fun z => he (hx b z), fun b ob q he => u.there b ob q fun z => he (hx b z), u.tups, u.frzs, u.tbls⟩
end
def trk (h : Heap) (H : Hp) : List Addr := (List.range h.objs.size).filter fun a => (H a).isSome
def hidT (h : Heap) (H : Hp) : Heap := PySem.W.hideAll h (trk h H)
theorem hidT_size (h : Heap) (H : Hp) : (hidT h H).objs.size = h.objs.size := PySem.W.hideAll_size _ _
theorem hidT_get {h : Heap} {H : Hp} {b : Addr} {o : Obj} (e : h.get? b = some o) (n : H b = none) : (hidT h H).get? b = some o :=
 PySem.W.hideAll_get _ e fun hm => by
  have q : (H b).isSome = true := (List.mem_filter.mp hm).2
  rw [n] at q; simp at q
theorem of_hidT {h : Heap} {H : Hp} {b : Addr} {o : Obj} (e : (hidT h H).get? b = some o) : h.get? b = some o ∧ H b = none := by
 have e' : h.get? b = some o := PySem.W.of_hideAll (trk h H) e
 refine ⟨e', ?_⟩
 cases q : H b with
 | none => rfl
 | some x =>
  have hm : b ∈ trk h H := List.mem_filter.mpr ⟨List.mem_range.mpr (Heap.lt_size e'), by simp [q]⟩
  have z : (hidT h H).get? b = none := PySem.W.hideAll_none (trk h H) hm
  rw [z] at e; cases e
def allNews (g h : Heap) (L : Addr) : List (Addr × Obj) := (List.range h.objs.size).filterMap fun a => if a = L ∨ (g.get? a).isSome = true then none else (h.get? a).map fun o => (a, o)
def rest (g h : Heap) (L d : Addr) : List (Addr × Obj) := (allNews g h L).filter fun p => decide (p.1 ≠ d)
end L2
namespace L2
open PySem PySem.Spec PyProof.Rows
structure Mod (K : PySem.W.Frag) (mg : Str → Option Value) (base : Heap) : Prop where
 kin : K.In base
 glob : base.Ns mainGlobals mg
 blt : ∃ mb, base.Ns builtinsNs mb ∧ ∀ x : Str, x ≠ "__name__" → mb x = bootBuiltins x
 nolimit : base.NoLimit
structure Cx where
 prog : Program
 w : World
 K : PySem.W.Frag
 mg : Str → Option Value
 base : Heap
 A : Around
 N : List Str
 s₀ : Shared
 H₀ : Hp
 env : Env
 outer : List Env
 stack : List Env
 ex : List Addr
 fn : Str → Bool
 calm : Bool
 pn : List (Addr × Obj)
 xe : Value → Shared → Prop
def frs (l : List Env) : List Addr := l.filterMap (·.frame)
abbrev Cx.fs (X : Cx) : List Addr := frs X.outer
def Vis (sc : Scope) (x : Str) : Prop := sc.names.lookup x = some .local ∨ sc.names.lookup x = some .cell ∨ sc.names.lookup x = some .free
def Loc (sc : Scope) (x : Str) : Prop := sc.names.lookup x = some .local ∨ sc.names.lookup x = some .cell
def Look (env : Env) (h : Heap) (m : Str → Option Value) (x : Str) (u : Value) : Prop :=
 (env.kindOf x = some .local ∧ m x = some u) ∨ ((env.kindOf x = some .cell ∨ env.kindOf x = some .free) ∧ ∃ c, env.cells.lookup x = some c ∧ h.IsCell c (some u))
structure Cx.Ok (X : Cx) : Prop where
 mod : Mod X.K X.mg X.base
 kind : X.env.scope.kind = .function
 glob : X.env.globals = mainGlobals
 blt : X.env.builtins = builtinsNs
 above : X.s₀.heap.objs.size ≤ X.env.locals
 inj : ∀ x y c, X.env.cells.lookup x = some c → X.env.cells.lookup y = some c → x = y
 has : ∀ x, (X.env.kindOf x = some .cell ∨ X.env.kindOf x = some .free) → ∃ c, X.env.cells.lookup x = some c
 cab : ∀ x c, X.fn x = true → X.env.cells.lookup x = some c → X.s₀.heap.objs.size ≤ c
 hd : X.calm = true → X.A.handled = none
 frames : X.A.frames = some X.stack
 stk : X.stack = X.outer ∨ (X.stack = X.env :: X.outer ∧ X.env.frame = some X.env.locals)
 exf : ∀ b ∈ X.ex, b ≠ X.env.locals ∧ ∀ x c, X.env.cells.lookup x = some c → c ≠ b
 bs : ∀ b o, X.base.get? b = some o → X.s₀.heap.get? b = some o ∧ X.H₀ b = none
 bsz : X.base.objs.size ≤ X.s₀.heap.objs.size
 noex : ∀ b o, X.base.get? b = some o → b ∉ X.ex
 exfs : ∀ b ∈ X.ex, b ∉ X.fs
 funs : X.s₀.heap.FunFrames X.base X.outer
 frf : ∀ b ∈ X.fs, X.H₀ b = none
structure Inv (X : Cx) (pins : List (Addr × Obj)) (σ : List (Option V)) (H : Hp) (s : Shared) : Prop where
 ok : X.Ok
 os : s.os = X.s₀.os
 bare : AllBare s.gens
 base : Un X.fs X.ex X.H₀ H X.s₀.heap s.heap
 loc : ∃ m, s.heap.Ns X.env.locals m ∧ ∀ (i : Nat) (x : Str) (v : V), X.N[i]? = some x → σ[i]? = some (some v) → Vis X.env.scope x → ∃ u, RelV v u ∧ Look X.env s.heap m x u
 cell : ∀ x c, X.env.cells.lookup x = some c → ∃ v, s.heap.IsCell c v
 free : H X.env.locals = none
 freeC : ∀ x c, X.env.cells.lookup x = some c → H c = none
 pin : ∀ p ∈ X.pn ++ pins, s.heap.get? p.1 = some p.2 ∧ H p.1 = none ∧ p.1 ≠ X.env.locals ∧ p.1 ∉ X.fs ∧ ∀ v, p.2.data ≠ .cell v
 hok : HOk X.prog X.w H s.heap
 len : σ.length = X.N.length
section
variable {X : Cx} {pins : List (Addr × Obj)} {σ : List (Option V)} {H H' : Hp} {s : Shared} {h' : Heap}
theorem Cx.Ok.nofr (ok : X.Ok) {b : Addr} {o : Obj} (e : X.base.get? b = some o) : b ∉ X.fs := fun hb => by
 have := (ok.funs.mem hb).1
 rw [e] at this; cases this
theorem Inv.bs (I : Inv X pins σ H s) : ∀ b o, X.base.get? b = some o → s.heap.get? b = some o ∧ H b = none := fun b o e =>
 ⟨I.base.keep b o (I.ok.bs b o e).1 (I.ok.bs b o e).2 (I.ok.nofr e) (I.ok.noex b o e), I.base.free b o (I.ok.bs b o e).1 (I.ok.bs b o e).2 (I.ok.noex b o e)⟩
theorem Inv.bk (I : Inv X pins σ H s) : ∀ b o, X.base.get? b = some o → s.heap.get? b = some o := fun b o e => (I.bs b o e).1
theorem Inv.mod (I : Inv X pins σ H s) : Mod X.K X.mg X.base := I.ok.mod
theorem Inv.kIn (I : Inv X pins σ H s) : X.K.In s.heap := I.ok.mod.kin.keeps I.bk
theorem Inv.nolimit (I : Inv X pins σ H s) : s.heap.NoLimit := I.ok.mod.nolimit.keeps I.bk
theorem Inv.fr (I : Inv X pins σ H s) : ∃ m, Fr X.base X.env.locals s.heap m :=
 let ⟨m, hn, _⟩ := I.loc
 ⟨m, hn, I.bk, Nat.le_trans I.ok.bsz I.ok.above⟩
theorem Inv.lt (I : Inv X pins σ H s) : X.env.locals < s.heap.objs.size := let ⟨_, hn, _⟩ := I.loc; hn.lt
theorem Inv.sz (I : Inv X pins σ H s) : X.s₀.heap.objs.size ≤ s.heap.objs.size := Nat.le_trans I.ok.above (Nat.le_of_lt I.lt)
theorem Inv.nofs (I : Inv X pins σ H s) {a : Addr} (h : s.heap.objs.size ≤ a) : a ∉ X.fs := fun hb => by
 obtain ⟨_, o, ho, _⟩ := I.ok.funs.mem hb
 exact absurd (Nat.lt_of_lt_of_le (Heap.lt_size ho) (Nat.le_trans I.sz h)) (Nat.lt_irrefl _)
theorem Inv.cne (I : Inv X pins σ H s) : ∀ x c, X.env.cells.lookup x = some c → c ≠ X.env.locals := fun x c e z => by
 obtain ⟨v, o, ho, hd⟩ := I.cell x c e
 obtain ⟨m, ⟨o', es, ep, ho', hd', _⟩, _⟩ := I.loc
 rw [z, ho'] at ho; cases ho; rw [hd'] at hd; cases hd
theorem Inv.funs (I : Inv X pins σ H s) : s.heap.FunFrames X.base X.outer := by
 have all : ∀ (l : List Env), (∀ b ∈ frs l, b ∈ X.fs) → X.s₀.heap.FunFrames X.base l → s.heap.FunFrames X.base l := by
  intro l
  induction l with
  | nil => intro _ _; trivial
  | cons env r ih =>
   intro hs hl
   obtain ⟨hk, ⟨L, o, hf, hn, ho, hd⟩, hr⟩ := hl
   have hL : L ∈ X.fs := hs L (by unfold frs; rw [List.filterMap_cons, hf]; exact List.mem_cons_self)
   obtain ⟨sl, e⟩ := I.base.slot L o ho (I.ok.frf L hL) hL fun z => I.ok.exfs L z hL
   exact ⟨hk, ⟨L, _, hf, hn, e, hd⟩, ih (fun b hb => hs b (by unfold frs; rw [List.filterMap_cons, hf]; exact List.mem_cons_of_mem _ hb)) hr⟩
 exact all X.outer (fun _ hb => hb) I.ok.funs
theorem Inv.stack (I : Inv X pins σ H s) : s.heap.FunFrames X.base X.stack := by
 rcases I.ok.stk with e | ⟨e, hf⟩
 ·rw [e]; exact I.funs
 ·rw [e]
  obtain ⟨m, hn, _⟩ := I.loc
  refine .cons (by rw [I.ok.kind]; decide) hf hn ?_ I.funs
  exact Heap.get?_none_of_le (Nat.le_trans I.ok.bsz I.ok.above)
theorem Inv.stkSub (I : Inv X pins σ H s) : ∀ b ∈ frs X.stack, b ∈ X.env.locals :: X.fs := fun b hb => by
 rcases I.ok.stk with e | ⟨e, hf⟩
 ·rw [e] at hb; exact List.mem_cons_of_mem _ hb
 ·rw [e] at hb
  unfold frs at hb
  rw [List.filterMap_cons, hf] at hb
  exact hb
theorem Inv.stkFree (I : Inv X pins σ H s) : ∀ b ∈ frs X.stack, H b = none := fun b hb => by
 rcases List.mem_cons.mp (I.stkSub b hb) with e | hb
 ·rw [e]; exact I.free
 ·obtain ⟨_, o, ho, _⟩ := I.ok.funs.mem hb
  exact I.base.free b o ho (I.ok.frf b hb) fun z => I.ok.exfs b z hb
theorem Inv.step {g' : Array GenState} {t' : Nat} {d' : Drawn} {ch : List Addr} (I : Inv X pins σ H s)
  (hch : ∀ b ∈ ch, (b ∈ X.ex ∨ X.s₀.heap.objs.size ≤ b) ∧ b ≠ X.env.locals ∧ (∀ x c, X.env.cells.lookup x = some c → c ≠ b) ∧ ∀ p ∈ X.pn ++ pins, p.1 ≠ b)
  (keep : ∀ b o, b ≠ X.env.locals → b ∉ X.fs → b ∉ ch → s.heap.get? b = some o → H b = none → h'.get? b = some o)
  (slot : ∀ b o, b ≠ X.env.locals → b ∈ X.fs → b ∉ ch → s.heap.get? b = some o → H b = none → ∃ sl, h'.get? b = some { o with slots := sl }) (free : ∀ b o, b ∉ ch → s.heap.get? b = some o → H b = none → H' b = none)
  (there : ∀ b o, b ∉ ch → s.heap.get? b = some o → ∃ o', h'.get? b = some o')
  (tups : ∀ b xs, H b = some (.tup xs) → H' b = some (.tup xs)) (frzs : ∀ b o u, H b = some (.frz o u) → H' b = some (.frz o u)) (tbls : ∀ b ps, H b = some (.tbl ps) → ∃ more, H' b = some (.tbl (ps ++ more)))
  (ns : ∀ m, s.heap.Ns X.env.locals m → h'.Ns X.env.locals m) (hok : HOk X.prog X.w H' h') (hg : AllBare g') :
  Inv X pins σ H' { s with heap := h', gens := g', drawn := d', toks := t' } := by
 have neL : ∀ b o, X.s₀.heap.get? b = some o → b ≠ X.env.locals := fun b o e => Nat.ne_of_lt (Nat.lt_of_lt_of_le (Heap.lt_size e) I.ok.above)
 have neC : ∀ b o, X.s₀.heap.get? b = some o → b ∉ X.ex → b ∉ ch := fun b o e hx hb => by
  rcases (hch b hb).1 with z | z
  ·exact hx z
  ·exact absurd (Nat.lt_of_lt_of_le (Heap.lt_size e) z) (Nat.lt_irrefl _)
 have cellK : ∀ x c, X.env.cells.lookup x = some c → ∀ v, s.heap.IsCell c v → h'.IsCell c v := fun x c e v ⟨o, ho, hd⟩ => by
  have nch : c ∉ ch := fun z => (hch c z).2.2.1 x c e rfl
  by_cases hc : c ∈ X.fs
  ·obtain ⟨sl, q⟩ := slot c o (I.cne x c e) hc nch ho (I.freeC x c e)
   exact ⟨_, q, hd⟩
  ·exact ⟨o, keep c o (I.cne x c e) hc nch ho (I.freeC x c e), hd⟩
 refine ⟨I.ok, I.os, hg, ⟨fun b o e n hb hx => ?_, fun b o e n hb hx => ?_, fun b o e n hx => ?_, fun b o e hx => ?_, fun b xs e => tups b xs (I.base.tups b xs e), fun b o xs e => frzs b o xs (I.base.frzs b o xs e), fun b ps e => ?_⟩, ?_, fun x c e => ?_, ?_, fun x c e => ?_, fun p hp => ?_, hok, I.len⟩
 ·exact keep b o (neL b o e) hb (neC b o e hx) (I.base.keep b o e n hb hx) (I.base.free b o e n hx)
 ·obtain ⟨sl, e1⟩ := I.base.slot b o e n hb hx
  obtain ⟨sl', e2⟩ := slot b _ (neL b o e) hb (neC b o e hx) e1 (I.base.free b o e n hx)
  exact ⟨sl', e2⟩
 ·obtain ⟨o', e1⟩ := I.base.there b o e hx
  exact free b o' (neC b o e hx) e1 (I.base.free b o e n hx)
 ·obtain ⟨o', e1⟩ := I.base.there b o e hx
  exact there b o' (neC b o e hx) e1
 ·obtain ⟨m1, e1⟩ := I.base.tbls b ps e
  obtain ⟨m2, e2⟩ := tbls b _ e1
  exact ⟨m1 ++ m2, by rw [e2, Array.append_assoc]⟩
 ·obtain ⟨m, hn, hl⟩ := I.loc
  refine ⟨m, ns m hn, fun i x v e1 e2 e3 => ?_⟩
  obtain ⟨u, r, l⟩ := hl i x v e1 e2 e3
  refine ⟨u, r, ?_⟩
  rcases l with l | ⟨k, c, e, z⟩
  ·exact .inl l
  ·exact .inr ⟨k, c, e, cellK x c e _ z⟩
 ·obtain ⟨v, z⟩ := I.cell x c e
  exact ⟨v, cellK x c e v z⟩
 ·obtain ⟨m, ⟨o, _, _, ho, _⟩, _⟩ := I.loc
  exact free _ o (fun z => (hch _ z).2.1 rfl) ho I.free
 ·obtain ⟨v, o, ho, hd⟩ := I.cell x c e
  exact free c o (fun z => (hch c z).2.2.1 x c e rfl) ho (I.freeC x c e)
 ·obtain ⟨e, n, ne, nf, d⟩ := I.pin p hp
  have nch : p.1 ∉ ch := fun z => (hch p.1 z).2.2.2 p hp rfl
  exact ⟨keep p.1 p.2 ne nf nch e n, free p.1 p.2 nch e n, ne, nf, d⟩
theorem Inv.un {t' : Nat} (I : Inv X pins σ H s) (u : Un X.fs [] H H' s.heap h') (hok : HOk X.prog X.w H' h') : Inv X pins σ H' { s with heap := h', toks := t' } := by
 obtain ⟨m, ⟨o, es, ep, ho, r⟩, _⟩ := id I.loc
 obtain ⟨sl, hL⟩ := u.any ho I.free (by simp)
 exact I.step (g' := s.gens) (d' := s.drawn) (ch := []) (fun _ z => nomatch z) (fun b o _ hb _ e n => u.keep b o e n hb (by simp)) (fun b o _ hb _ e n => u.slot b o e n hb (by simp)) (fun b o _ e n => u.free b o e n (by simp)) (fun b o _ e => u.there b o e (by simp)) u.tups u.frzs u.tbls (fun m' hm => by
  obtain ⟨o', es', ep', ho', r'⟩ := hm
  rw [ho] at ho'; cases ho'
  exact ⟨_, es', ep', hL, r'⟩) hok I.bare
theorem Inv.call {g' : Array GenState} {t' : Nat} {d' : Drawn} {ch : List Addr} (I : Inv X pins σ H s) (u : Un (frs X.stack) ch H H' s.heap h') (hok : HOk X.prog X.w H' h') (hg : AllBare g')
  (hch : ∀ b ∈ ch, (b ∈ X.ex ∨ X.s₀.heap.objs.size ≤ b) ∧ b ≠ X.env.locals ∧ (∀ x c, X.env.cells.lookup x = some c → c ≠ b) ∧ ∀ p ∈ X.pn ++ pins, p.1 ≠ b) :
  Inv X pins σ H' { s with heap := h', gens := g', drawn := d', toks := t' } := by
 obtain ⟨m, ⟨o, es, ep, ho, r⟩, _⟩ := id I.loc
 obtain ⟨sl, hL⟩ := u.any ho I.free fun z => (hch _ z).2.1 rfl
 exact I.step (ch := ch) hch (fun b o hL hb hc e n => u.keep b o e n (fun z => (List.mem_cons.mp (I.stkSub b z)).elim hL hb) hc) (fun b o _ _ hc e n => u.any e n hc) (fun b o hc e n => u.free b o e n hc) (fun b o hc e => u.there b o e hc) u.tups u.frzs u.tbls (fun m' hm => by
  obtain ⟨o', es', ep', ho', r'⟩ := hm
  rw [ho] at ho'; cases ho'
  exact ⟨_, es', ep', hL, r'⟩) hok hg
theorem Inv.turned {t' : Nat} {it : Addr} (I : Inv X pins σ H s) (k : ∀ b o, b ≠ it → s.heap.get? b = some o → h'.get? b = some o) (hn : H it = none) (hL : it ≠ X.env.locals)
  (h1 : it ∈ X.ex ∨ X.s₀.heap.objs.size ≤ it) (h2 : ∀ x c, X.env.cells.lookup x = some c → c ≠ it) (h3 : ∀ p ∈ X.pn ++ pins, p.1 ≠ it) : Inv X pins σ H { s with heap := h', toks := t' } := by
 have nit : ∀ b u, H b = some u → b ≠ it := fun b u e z => by rw [z, hn] at e; cases e
 refine I.step (g' := s.gens) (d' := s.drawn) (ch := [it]) (fun b hb => ?_) (fun b o _ _ hc e _ => k b o (fun z => hc (by simp [z])) e) (fun b o _ _ hc e _ => ⟨o.slots, k b o (fun z => hc (by simp [z])) e⟩) (fun _ _ _ _ n => n)
  (fun b o hc e => ⟨o, k b o (fun z => hc (by simp [z])) e⟩) (fun _ _ e => e) (fun _ _ _ e => e) (fun b ps e => ⟨#[], by rw [e]; simp⟩) (fun m hm => ?_) (fun b u e => ?_) I.bare
 ·have e : b = it := by simpa using hb
  subst e
  exact ⟨h1, hL, h2, h3⟩
 ·obtain ⟨o, es, ep, ho, r⟩ := hm
  exact ⟨o, es, ep, k _ o (Ne.symm hL) ho, r⟩
 ·refine (I.hok b u e).stay (fun c v hc q => k c v ?_ q) (fun _ q => q) fun _ _ q => q
  rcases hc with z | z
  ·rw [z]; exact nit b u e
  ·exact nit c _ z
theorem Inv.tok (I : Inv X pins σ H s) (t : Nat) : Inv X pins σ H { s with toks := t } := I.un (h' := s.heap) (t' := t) Un.refl I.hok
theorem Inv.kept {t' : Nat} (I : Inv X pins σ H s) (k : ∀ b u, s.heap.get? b = some u → h'.get? b = some u) : Inv X pins σ H { s with heap := h', toks := t' } := I.un (Un.kept k) (I.hok.kept k)
theorem Inv.laid {a : Addr} {o : HO} {t' : Nat} (I : Inv X pins σ H s) (k : ∀ b u, s.heap.get? b = some u → h'.get? b = some u) (hp : s.heap.objs.size ≤ a) (new : ObjOk X.prog X.w (upd H a o) h' a o) :
  Inv X pins σ (upd H a o) { s with heap := h', toks := t' } := I.un (Un.laid k hp (I.hok.fresh hp)) (I.hok.laid k hp new)
theorem Inv.write {x e : Addr} {o : HO} {t' : Nat} (I : Inv X pins σ H s) (mu : Mut (H x)) (he : e = x ∨ H e = some (.own x)) (k : ∀ b u, b ≠ e → s.heap.get? b = some u → h'.get? b = some u) (heo : ∃ u, h'.get? e = some u)
  (new : ObjOk X.prog X.w (upd H x o) h' x o) : Inv X pins σ (upd H x o) { s with heap := h', toks := t' } := I.un (Un.write mu he k heo) (I.hok.write mu he k heo new)
theorem Inv.weak {σ' : List (Option V)} (I : Inv X pins σ H s) (hl : σ'.length = σ.length) (w : ∀ (i : Nat) v, σ'[i]? = some (some v) → σ[i]? = some (some v)) : Inv X pins σ' H s :=
 ⟨I.ok, I.os, I.bare, I.base, let ⟨m, hn, hl'⟩ := I.loc; ⟨m, hn, fun i x v e1 e2 e3 => hl' i x v e1 (w i v e2) e3⟩, I.cell, I.free, I.freeC, I.pin, I.hok, hl.trans I.len⟩
theorem Inv.pins_of {pins' : List (Addr × Obj)} (I : Inv X pins σ H s) (h : ∀ p ∈ pins', s.heap.get? p.1 = some p.2 ∧ H p.1 = none ∧ p.1 ≠ X.env.locals ∧ p.1 ∉ X.fs ∧ ∀ v, p.2.data ≠ .cell v) : Inv X pins' σ H s :=
 ⟨I.ok, I.os, I.bare, I.base, I.loc, I.cell, I.free, I.freeC, fun p hp => (List.mem_append.mp hp).elim (fun z => I.pin p (List.mem_append_left _ z)) (h p), I.hok, I.len⟩
theorem nodup_ix {N : List Str} (hN : N.Nodup) {i j : Nat} {x : Str} (a : N[i]? = some x) (b : N[j]? = some x) : i = j := by
 obtain ⟨h1, e1⟩ := List.getElem?_eq_some_iff.mp a
 obtain ⟨h2, e2⟩ := List.getElem?_eq_some_iff.mp b
 exact (List.getElem_inj hN).mp (e1.trans e2.symm)
theorem store_ok2 {M : Model} {A : Around} {E : Value → Shared → Prop} {i : Nat} {x : Str} {v : V} {u : Value} {Q : Unit → Shared → Prop} (I : Inv X pins σ H s) (hN : X.N.Nodup) (hi : X.N[i]? = some x) (hx : Loc X.env.scope x) (r : RelV v u)
  (h : ∀ s', Inv X pins (σ.set i (some v)) H s' → (∃ a, Heap.SameBut a s.heap s'.heap ∧ (a = X.env.locals ∨ X.env.cells.lookup x = some a)) → Q () s') (hf : X.fn x = true ∨ X.env.scope.names.lookup x = some .local := by first | exact .inl rfl | exact .inr rfl | assumption) : wpAny M A (storeName X.env x u) Q E s := by
 obtain ⟨m, hn, hl⟩ := id I.loc
 have hcls : (X.env.scope.kind == .class || (X.env.scope.kind == .module && X.env.locals != X.env.globals)) = false := by rw [I.ok.kind]; rfl
 have hiσ : i < σ.length := by rw [I.len]; exact (List.getElem?_eq_some_iff.mp hi).1
 have cne := I.cne
 have tracked : ∀ {a : Addr} {h' : Heap}, (∃ o, s.heap.get? a = some o ∧ H a = none) → Heap.SameBut a s.heap h' → HOk X.prog X.w H h' := fun {a h'} ha hs b ob e => by
  obtain ⟨_, _, hfree⟩ := ha
  refine (I.hok b ob e).stay (fun c w' hc q => (hs.2 c ?_).trans q) (fun _ q => q) fun _ _ q => q
  rintro rfl
  rcases hc with rfl | hc
  ·rw [hfree] at e; cases e
  ·rw [hfree] at hc; cases hc
 rcases hx with hk | hk
 ·refine wpAny_storeName_local hk hn (fun h' hn' hs => ?_) hcls
  obtain ⟨oL, _, _, hoL, _⟩ := id hn
  refine h _ ⟨I.ok, I.os, I.bare, ⟨fun b o e n hb hx => ?_, fun b o e n hb hx => ?_, I.base.free, fun b o e hx => ?_, I.base.tups, I.base.frzs, I.base.tbls⟩, ⟨_, hn', fun j y v' e1 e2 e3 => ?_⟩, fun y c e => ?_, I.free, I.freeC, fun p hp => ?_, tracked ⟨oL, hoL, I.free⟩ hs, by simpa using I.len⟩ ⟨_, hs, .inl rfl⟩
  ·exact (hs.2 b (Nat.ne_of_lt (Nat.lt_of_lt_of_le (Heap.lt_size e) I.ok.above))).trans (I.base.keep b o e n hb hx)
  ·obtain ⟨sl, e1⟩ := I.base.slot b o e n hb hx
   exact ⟨sl, (hs.2 b (Nat.ne_of_lt (Nat.lt_of_lt_of_le (Heap.lt_size e) I.ok.above))).trans e1⟩
  ·obtain ⟨o', e1⟩ := I.base.there b o e hx
   exact ⟨o', (hs.2 b (Nat.ne_of_lt (Nat.lt_of_lt_of_le (Heap.lt_size e) I.ok.above))).trans e1⟩
  ·by_cases hj : j = i
   ·subst hj
    rw [hi] at e1; cases e1
    rw [List.getElem?_set_self hiσ] at e2
    cases e2
    exact ⟨u, r, .inl ⟨hk, by simp⟩⟩
   ·rw [List.getElem?_set_ne (Ne.symm hj)] at e2
    obtain ⟨u', r', q⟩ := hl j y v' e1 e2 e3
    refine ⟨u', r', ?_⟩
    rcases q with ⟨k, e⟩ | ⟨k, c, e, z⟩
    ·refine .inl ⟨k, ?_⟩
     have : y ≠ x := fun e => hj (nodup_ix hN e1 (e ▸ hi))
     simp [this, e]
    ·exact .inr ⟨k, c, e, z.sameBut hs (cne y c e)⟩
  ·obtain ⟨w', z⟩ := I.cell y c e
   exact ⟨w', z.sameBut hs (cne y c e)⟩
  ·obtain ⟨e, n, ne, nf, d⟩ := I.pin p hp
   exact ⟨(hs.2 p.1 ne).trans e, n, ne, nf, d⟩
 ·have hfn : X.fn x = true := by
   rcases hf with z | z
   ·exact z
   ·rw [z] at hk; cases hk
  obtain ⟨c, hc⟩ := I.ok.has x (.inl hk)
  obtain ⟨w', z⟩ := I.cell x c hc
  refine wpAny_storeName_cell I.ok.kind hk hc z (fun h' hc' hs => ?_)
  obtain ⟨oc, hoc, hocd⟩ := id z
  refine h { s with heap := h' } ⟨I.ok, I.os, I.bare, ⟨fun b o e n hb hx => ?_, fun b o e n hb hx => ?_, I.base.free, fun b o e hx => ?_, I.base.tups, I.base.frzs, I.base.tbls⟩, ⟨m, hn.sameBut hs (Ne.symm (cne x c hc)), fun j y v' e1 e2 e3 => ?_⟩, fun y c' e => ?_, I.free, I.freeC, fun p hp => ?_, tracked ⟨oc, hoc, I.freeC x c hc⟩ hs, by simpa using I.len⟩ ⟨c, hs, .inr hc⟩
  ·exact (hs.2 b (Nat.ne_of_lt (Nat.lt_of_lt_of_le (Heap.lt_size e) (I.ok.cab x c hfn hc)))).trans (I.base.keep b o e n hb hx)
  ·obtain ⟨sl, e1⟩ := I.base.slot b o e n hb hx
   exact ⟨sl, (hs.2 b (Nat.ne_of_lt (Nat.lt_of_lt_of_le (Heap.lt_size e) (I.ok.cab x c hfn hc)))).trans e1⟩
  ·obtain ⟨o', e1⟩ := I.base.there b o e hx
   exact ⟨o', (hs.2 b (Nat.ne_of_lt (Nat.lt_of_lt_of_le (Heap.lt_size e) (I.ok.cab x c hfn hc)))).trans e1⟩
  ·by_cases hj : j = i
   ·subst hj
    rw [hi] at e1; cases e1
    rw [List.getElem?_set_self hiσ] at e2
    cases e2
    exact ⟨u, r, .inr ⟨.inl hk, c, hc, hc'⟩⟩
   ·rw [List.getElem?_set_ne (Ne.symm hj)] at e2
    obtain ⟨u', r', q⟩ := hl j y v' e1 e2 e3
    refine ⟨u', r', ?_⟩
    rcases q with q | ⟨k, c', e, z'⟩
    ·exact .inl q
    ·refine .inr ⟨k, c', e, z'.sameBut hs ?_⟩
     rintro rfl
     exact hj (nodup_ix hN e1 (I.ok.inj _ _ _ e hc ▸ hi))
  ·by_cases hcc : c' = c
   ·subst hcc; exact ⟨_, hc'⟩
   ·obtain ⟨w2, z2⟩ := I.cell y c' e
    exact ⟨w2, z2.sameBut hs hcc⟩
  ·obtain ⟨e, n, ne, nf, d⟩ := I.pin p hp
   refine ⟨(hs.2 p.1 ?_).trans e, n, ne, nf, d⟩
   intro q
   rw [q, hoc] at e
   have q' : oc = p.2 := Option.some.inj e
   exact d w' (by rw [← q']; exact hocd)
theorem store_ok {M : Model} {A : Around} {E : Value → Shared → Prop} {i : Nat} {x : Str} {v : V} {u : Value} {Q : Unit → Shared → Prop} (I : Inv X pins σ H s) (hN : X.N.Nodup) (hi : X.N[i]? = some x) (hx : Loc X.env.scope x) (r : RelV v u)
  (h : ∀ s', Inv X pins (σ.set i (some v)) H s' → Q () s') (hf : X.fn x = true ∨ X.env.scope.names.lookup x = some .local := by first | exact .inl rfl | exact .inr rfl | assumption) : wpAny M A (storeName X.env x u) Q E s :=
 store_ok2 I hN hi hx r (fun s' I' _ => h s' I') hf
theorem Inv.call' {s' : Shared} {ch : List Addr} (I : Inv X pins σ H s) (ho : s'.os = s.os) (u : Un (frs X.stack) ch H H' s.heap s'.heap) (hok : HOk X.prog X.w H' s'.heap) (hg : AllBare s'.gens)
  (hch : ∀ b ∈ ch, (b ∈ X.ex ∨ X.s₀.heap.objs.size ≤ b) ∧ b ≠ X.env.locals ∧ (∀ x c, X.env.cells.lookup x = some c → c ≠ b) ∧ ∀ p ∈ X.pn ++ pins, p.1 ≠ b) : Inv X pins σ H' s' := by
 obtain ⟨h', g', d', t', o'⟩ := s'
 have e : o' = s.os := ho
 subst e
 exact I.call (g' := g') (t' := t') (d' := d') u hok hg hch
end
abbrev XK := Value → Option Addr → Hp → Prop
abbrev St := List (Option V)
abbrev VK := V → Hp → Prop
abbrev TE := St → Hp → VK → Prop
abbrev TT := St → Hp → (Bool → Hp → Prop) → Prop
abbrev TA := St → Hp → (List V → Hp → Prop) → Prop
structure Ends where
 nx : St → Hp → Prop
 rt : VK
 bk : St → Hp → Prop := fun _ _ => False
 ct : St → Hp → Prop := fun _ _ => False
abbrev TS := Ends → St → Hp → Prop
def EP (X : Cx) (pins : List (Addr × Obj)) (σ : St) (Q : VK) (u : Value) (s' : Shared) : Prop := ∃ v H', Inv X pins σ H' s' ∧ RelV v u ∧ Q v H'
def TP (X : Cx) (pins : List (Addr × Obj)) (σ : St) (Q : Bool → Hp → Prop) (b : Bool) (s' : Shared) : Prop := ∃ H', Inv X pins σ H' s' ∧ Q b H'
def AP (X : Cx) (pins : List (Addr × Obj)) (σ : St) (Q : List V → Hp → Prop) (us : List Value) (s' : Shared) : Prop := ∃ vs H', Inv X pins σ H' s' ∧ Vals vs us ∧ Q vs H'
def SP (X : Cx) (pins : List (Addr × Obj)) (D : Ends) (f : Flow) (s' : Shared) : Prop :=
 match f with
 | .next => ∃ σ' H', Inv X pins σ' H' s' ∧ D.nx σ' H'
 | .brk => ∃ σ' H', Inv X pins σ' H' s' ∧ D.bk σ' H'
 | .cont => ∃ σ' H', Inv X pins σ' H' s' ∧ D.ct σ' H'
 | .ret u => ∃ v σ' H', Inv X pins σ' H' s' ∧ RelV v u ∧ D.rt v H'
structure PE (X : Cx) (e : Expr) (t : TE) : Prop where
 run : ∀ (pins : List (Addr × Obj)) (s : Shared) (σ : St) (H : Hp) (Q : VK), Inv X pins σ H s → t σ H Q → wpAny (model X.prog X.w) X.A (eval e X.env) (EP X pins σ Q) X.xe s
instance {X : Cx} {e : Expr} {t : TE} : CoeFun (PE X e t) fun _ => ∀ (pins : List (Addr × Obj)) (s : Shared) (σ : St) (H : Hp) (Q : VK), Inv X pins σ H s → t σ H Q → wpAny (model X.prog X.w) X.A (eval e X.env) (EP X pins σ Q) X.xe s := ⟨PE.run⟩
structure PT (X : Cx) (e : Expr) (t : TT) : Prop where
 run : ∀ (pins : List (Addr × Obj)) (s : Shared) (σ : St) (H : Hp) (Q : Bool → Hp → Prop), Inv X pins σ H s → t σ H Q → wpAny (model X.prog X.w) X.A (isTrue e X.env (eval e X.env)) (TP X pins σ Q) X.xe s
instance {X : Cx} {e : Expr} {t : TT} : CoeFun (PT X e t) fun _ => ∀ (pins : List (Addr × Obj)) (s : Shared) (σ : St) (H : Hp) (Q : Bool → Hp → Prop), Inv X pins σ H s → t σ H Q → wpAny (model X.prog X.w) X.A (isTrue e X.env (eval e X.env)) (TP X pins σ Q) X.xe s := ⟨PT.run⟩
structure PW (X : Cx) (e : Expr) (t : TT) : Prop where
 run : ∀ (whole : Sem Value) (pins : List (Addr × Obj)) (s : Shared) (σ : St) (H : Hp) (Q : Bool → Hp → Prop), Inv X pins σ H s → t σ H Q → wpAny (model X.prog X.w) X.A (isTrue e X.env whole) (TP X pins σ Q) X.xe s
instance {X : Cx} {e : Expr} {t : TT} : CoeFun (PW X e t) fun _ => ∀ (whole : Sem Value) (pins : List (Addr × Obj)) (s : Shared) (σ : St) (H : Hp) (Q : Bool → Hp → Prop), Inv X pins σ H s → t σ H Q → wpAny (model X.prog X.w) X.A (isTrue e X.env whole) (TP X pins σ Q) X.xe s := ⟨PW.run⟩
theorem PW.pt {X : Cx} {e : Expr} {t : TT} (h : PW X e t) : PT X e t := ⟨h.run _⟩
structure PA (X : Cx) (es : List Expr) (t : TA) : Prop where
 run : ∀ (pos : Pos) (pins : List (Addr × Obj)) (s : Shared) (σ : St) (H : Hp) (Q : List V → Hp → Prop), Inv X pins σ H s → t σ H Q → wpAny (model X.prog X.w) X.A (spliced (backTo pos (starEach es X.env))) (AP X pins σ Q) X.xe s
instance {X : Cx} {es : List Expr} {t : TA} : CoeFun (PA X es t) fun _ => ∀ (pos : Pos) (pins : List (Addr × Obj)) (s : Shared) (σ : St) (H : Hp) (Q : List V → Hp → Prop), Inv X pins σ H s → t σ H Q → wpAny (model X.prog X.w) X.A (spliced (backTo pos (starEach es X.env))) (AP X pins σ Q) X.xe s := ⟨PA.run⟩
structure PS (X : Cx) (st : Stmt) (t : TS) : Prop where
 run : ∀ (pins : List (Addr × Obj)) (s : Shared) (σ : St) (H : Hp) (D : Ends), Inv X pins σ H s → t D σ H → wpAny (model X.prog X.w) X.A (exec st X.env) (SP X pins D) X.xe s
instance {X : Cx} {st : Stmt} {t : TS} : CoeFun (PS X st t) fun _ => ∀ (pins : List (Addr × Obj)) (s : Shared) (σ : St) (H : Hp) (D : Ends), Inv X pins σ H s → t D σ H → wpAny (model X.prog X.w) X.A (exec st X.env) (SP X pins D) X.xe s := ⟨PS.run⟩
structure PSs (X : Cx) (st : List Stmt) (t : TS) : Prop where
 run : ∀ (pins : List (Addr × Obj)) (s : Shared) (σ : St) (H : Hp) (D : Ends), Inv X pins σ H s → t D σ H → wpAny (model X.prog X.w) X.A (execs st X.env) (SP X pins D) X.xe s
instance {X : Cx} {st : List Stmt} {t : TS} : CoeFun (PSs X st t) fun _ => ∀ (pins : List (Addr × Obj)) (s : Shared) (σ : St) (H : Hp) (D : Ends), Inv X pins σ H s → t D σ H → wpAny (model X.prog X.w) X.A (execs st X.env) (SP X pins D) X.xe s := ⟨PSs.run⟩
theorem thn {α : Type} {t : Sem α} {Q Q' : α → Shared → Prop} {M : Model} {A : Around} {E : Value → Shared → Prop} {s : Shared} (h : wpAny M A t Q E s) (hQ : ∀ a s, Q a s → Q' a s) : wpAny M A t Q' E s := wpAny_mono h hQ fun _ _ x => x
end L2
namespace L2
open PySem PySem.Spec PyProof.Rows
section
variable {X : Cx}
def tVar (i : Nat) : TE := fun σ H Q => ∃ v, σ[i]? = some (some v) ∧ Q v H
def tC (v : V) : TE := fun _ H Q => Q v H
theorem pe_var {i : Nat} {x : Str} {pos : Pos} (hN : X.N[i]? = some x) (hv : Vis X.env.scope x) (hd : (x == ("__debug__" : Str)) = false := by decide) (hcd : (x == ("__classdict__" : Str)) = false := by decide) : PE X (.Name x pos) (tVar i) := by
 refine .mk ?_
 intro pins s σ H Q I h
 obtain ⟨v, e, h⟩ := h
 obtain ⟨m, hn, hl⟩ := I.loc
 obtain ⟨u, r, l⟩ := hl i x v hN e hv
 have fin : EP X pins σ Q u s := ⟨v, H, I, r, h⟩
 rcases l with ⟨hk, hm⟩ | ⟨hk, c, hc, hcell⟩
 ·exact wpAny_Name (wpAny_loadName_local I.ok.kind hk hn hm fin) hd
 ·rcases hk with hk | hk
  ·exact wpAny_Name (wpAny_loadName_cell I.ok.kind hk hc hcell fin) hd
  ·exact wpAny_Name (wpAny_loadName_free I.ok.kind hk hc hcell fin hcd) hd
theorem pe_int {i j pos} : PE X (.Constant (.int i) j pos) (tC (.int i)) := .mk fun _ _ _ H _ I h => wpAny_Constant_int ⟨.int i, H, I.tok _, ⟨_, rfl⟩, h⟩
theorem pe_bl {b j pos} : PE X (.Constant (.bool b) j pos) (tC (.bl b)) := .mk fun _ _ _ H _ I h => Constant_bool ⟨.bl b, H, I, rfl, h⟩
theorem pe_non {j pos} : PE X (.Constant .none j pos) (tC .non) := .mk fun _ _ _ H _ I h => Constant_none ⟨.non, H, I, rfl, h⟩
theorem pe_str {x j pos} : PE X (.Constant (.str x) j pos) (tC (.str x)) := .mk fun _ _ _ H _ I h => Calls.Constant_str ⟨.str x, H, I.tok _, ⟨_, rfl⟩, h⟩
def Gl (X : Cx) (x : Str) : Prop := X.env.kindOf x = some .globalImplicit
theorem ld_glob {E : Value → Shared → Prop} {pins : List (Addr × Obj)} {s : Shared} {σ : St} {H : Hp} {x : Str} {u : Value} {pos : Pos} {Q : Value → Shared → Prop} (I : Inv X pins σ H s) (hg : Gl X x) (hm : X.mg x = some u) (h : Q u s)
  (hd : (x == ("__debug__" : Str)) = false := by decide) : wpAny (model X.prog X.w) X.A (eval (.Name x pos) X.env) Q E s :=
 Calls.Name_function_global I.ok.kind hg (Calls.loadGlobal_global (by rw [I.ok.glob]; exact I.mod.glob.keeps I.bk) hm h) hd
theorem ld_blt {E : Value → Shared → Prop} {pins : List (Addr × Obj)} {s : Shared} {σ : St} {H : Hp} {x : Str} {u : Value} {pos : Pos} {Q : Value → Shared → Prop} (I : Inv X pins σ H s) (hg : Gl X x) (hm : X.mg x = none) (hv : bootBuiltins x = some u) (h : Q u s)
  (hn : x ≠ "__name__" := by decide) (hd : (x == ("__debug__" : Str)) = false := by decide) : wpAny (model X.prog X.w) X.A (eval (.Name x pos) X.env) Q E s := by
 obtain ⟨mb, h1, h2⟩ := I.mod.blt
 exact Calls.Name_function_global I.ok.kind hg (Calls.loadGlobal_builtin (by rw [I.ok.glob]; exact I.mod.glob.keeps I.bk) hm (by rw [I.ok.blt]; exact h1.keeps I.bk) ((h2 x hn).trans hv) h) hd
theorem pe_glob {x : Str} {v : V} {u : Value} {pos : Pos} (hg : Gl X x) (hm : X.mg x = some u) (r : RelV v u) (hd : (x == ("__debug__" : Str)) = false := by decide) : PE X (.Name x pos) (tC v) :=
 .mk fun _ _ _ H _ I h => ld_glob I hg hm ⟨v, H, I, r, h⟩ hd
theorem pe_bltn {x : Str} {v : V} {u : Value} {pos : Pos} (hg : Gl X x) (hm : X.mg x = none) (hv : bootBuiltins x = some u) (r : RelV v u) (hn : x ≠ "__name__" := by decide) (hd : (x == ("__debug__" : Str)) = false := by decide) : PE X (.Name x pos) (tC v) :=
 .mk fun _ _ _ H _ I h => ld_blt I hg hm hv ⟨v, H, I, r, h⟩ hn hd
variable {a b : Expr} {ta tb : TE} {pos : Pos}
structure PC (X : Cx) (op : CmpOp) (a b : Expr) (t : TE) : Prop where
 run : ∀ (pins : List (Addr × Obj)) (s : Shared) (σ : St) (H : Hp) (Q : VK), Inv X pins σ H s → t σ H Q →
  wpAny (model X.prog X.w) X.A (eval a X.env) (fun v s₁ => wpAny (model X.prog X.w) X.A (eval b X.env) (fun u s₂ => wpAny (model X.prog X.w) X.A (compareOp op v u) (EP X pins σ Q) X.xe s₂) X.xe s₁) X.xe s
instance {X : Cx} {op : CmpOp} {a b : Expr} {t : TE} : CoeFun (PC X op a b t) fun _ => ∀ (pins : List (Addr × Obj)) (s : Shared) (σ : St) (H : Hp) (Q : VK), Inv X pins σ H s → t σ H Q → wpAny (model X.prog X.w) X.A (eval a X.env) (fun v s₁ => wpAny (model X.prog X.w) X.A (eval b X.env) (fun u s₂ => wpAny (model X.prog X.w) X.A (compareOp op v u) (EP X pins σ Q) X.xe s₂) X.xe s₁) X.xe s := ⟨PC.run⟩
def tB (t : TE) : TT := fun σ H Q => t σ H fun x H1 => ∃ c, x = .bl c ∧ Q c H1
theorem pt_val {e : Expr} {t : TE} (h : PE X e t) (he : ∀ whole, isTrue e X.env whole = (do let v ← whole; standAt e.pos; holding [v] (truthy v)) := by intro _; rfl) : PT X e (tB t) := by
 refine .mk ?_
 intro pins s σ H Q I hw
 refine isTrue_plain (thn (h pins s σ H _ I hw) fun v s1 ⟨x, H1, I1, r1, q1⟩ => ?_) (he _)
 obtain ⟨d, rfl, q⟩ := q1
 cases r1
 exact wpAny_truthy_bool ⟨H1, I1, q⟩
variable {tA tB' : TT} {rest : List Expr}
def tAnd (t u : TT) : TT := fun σ H Q => t σ H fun c H1 => if c = true then u σ H1 Q else Q false H1
def tOr (t u : TT) : TT := fun σ H Q => t σ H fun c H1 => if c = true then Q true H1 else u σ H1 Q
def tNot (t : TT) : TT := fun σ H Q => t σ H fun c H1 => Q (!c) H1
theorem pw_and1 (ha : PT X a tA) : PW X (.BoolOp .And [a] pos) tA := by
 refine .mk ?_
 intro wh pins s σ H Q I h
 refine isTrue_and (thn (ha pins s σ H Q I h) fun c s1 e => ?_)
 cases c with
 | true => exact isTrue_and_nil e
 | false => exact e
theorem pw_or1 (ha : PT X a tA) : PW X (.BoolOp .Or [a] pos) tA := by
 refine .mk ?_
 intro wh pins s σ H Q I h
 refine isTrue_or (thn (ha pins s σ H Q I h) fun c s1 e => ?_)
 cases c with
 | false => exact isTrue_or_nil e
 | true => exact e
theorem pw_and (ha : PT X a tA) (hb : PW X (.BoolOp .And (b :: rest) pos) tB') : PW X (.BoolOp .And (a :: b :: rest) pos) (tAnd tA tB') := by
 refine .mk ?_
 intro wh pins s σ H Q I h
 refine isTrue_and (thn (ha pins s σ H _ I h) fun c s1 ⟨H1, I1, q1⟩ => ?_)
 cases c with
 | true => exact hb wh pins s1 σ H1 Q I1 q1
 | false => exact ⟨H1, I1, q1⟩
theorem pw_or (ha : PT X a tA) (hb : PW X (.BoolOp .Or (b :: rest) pos) tB') : PW X (.BoolOp .Or (a :: b :: rest) pos) (tOr tA tB') := by
 refine .mk ?_
 intro wh pins s σ H Q I h
 refine isTrue_or (thn (ha pins s σ H _ I h) fun c s1 ⟨H1, I1, q1⟩ => ?_)
 cases c with
 | true => exact ⟨H1, I1, q1⟩
 | false => exact hb wh pins s1 σ H1 Q I1 q1
theorem pt_not (ha : PT X a tA) : PT X (.UnaryOp .Not a pos) (tNot tA) := by
 refine .mk ?_
 intro pins s σ H Q I h
 exact isTrue_not (ha pins s σ H (fun c H1 => Q (!c) H1) I h)
def tAndV (ta tb : TE) : TE := fun σ H Q => ta σ H fun x H1 => ∃ c, x = .bl c ∧ if c = true then tb σ H1 Q else Q (.bl false) H1
def tNotV (ta : TE) : TE := fun σ H Q => ta σ H fun x H1 => ∃ c, x = .bl c ∧ Q (.bl (!c)) H1
theorem pe_one {op} {t : TE} (h : PE X a t) : PE X (.BoolOp op [a] pos) t := .mk fun pins s σ H Q I hw => BoolOp_one (h pins s σ H Q I hw)
theorem pe_and (ha : PE X a ta) (hb : PE X (.BoolOp .And (b :: rest) pos) tb) : PE X (.BoolOp .And (a :: b :: rest) pos) (tAndV ta tb) := by
 refine .mk ?_
 intro pins s σ H Q I h
 refine BoolOp_and (thn (ha pins s σ H _ I h) fun v s1 ⟨x, H1, I1, r1, q1⟩ => ?_)
 obtain ⟨c, rfl, q1⟩ := q1
 cases r1
 refine wpAny_truthy_bool ?_
 cases c with
 | true => exact hb pins s1 σ H1 Q I1 q1
 | false => exact ⟨.bl false, H1, I1, rfl, q1⟩
theorem pe_not (ha : PE X a ta) : PE X (.UnaryOp .Not a pos) (tNotV ta) := by
 refine .mk ?_
 intro pins s σ H Q I h
 refine UnaryOp_ (thn (ha pins s σ H _ I h) fun v s1 ⟨x, H1, I1, r1, q1⟩ => ?_)
 obtain ⟨c, rfl, q1⟩ := q1
 cases r1
 exact not_of (wpAny_truthy_bool ⟨.bl (!c), H1, I1, rfl, q1⟩)
def tIf (t : TT) (ta tb : TE) : TE := fun σ H Q => t σ H fun c H1 => if c = true then ta σ H1 Q else tb σ H1 Q
theorem pe_ifExp {c : Expr} (hc : PT X c tA) (ha : PE X a ta) (hb : PE X b tb) : PE X (.IfExp c a b pos) (tIf tA ta tb) := by
 refine .mk ?_
 intro pins s σ H Q I h
 refine wpAny_IfExp (thn (hc pins s σ H _ I h) fun d s1 ⟨H1, I1, q1⟩ => ?_)
 cases d with
 | true => exact ha pins s1 σ H1 Q I1 q1
 | false => exact hb pins s1 σ H1 Q I1 q1
end
end L2
namespace L2
open PySem PySem.Spec PyProof.Rows
def SqL (K : PySem.W.Frag) (H : Hp) (a : Addr) (xs : List V) : Prop :=
 Rd H a (.lst xs) ∨
  ∃ (o : Obj) (its : Array Value) (n : Nat), K.lookup a = some o ∧ o.cls = .type "list" ∧ o.dict = none ∧ o.data = .seq its n ∧ its.size ≤ sizeLine ∧ Vals xs its.toList
def SqT (K : PySem.W.Frag) (H : Hp) (a : Addr) (xs : List V) : Prop :=
 Rd H a (.tup xs) ∨
  ∃ (o : Obj) (its : Array Value) (n : Nat), K.lookup a = some o ∧ o.cls = .type "tuple" ∧ o.data = .seq its n ∧ its.size ≤ sizeLine ∧ Vals xs its.toList
def absV : Value → Option V
 | .none => some .non
 | .bool b => some (.bl b)
 | .int i _ => some (.int i)
 | .str x _ => some (.str x)
 | .bytes b _ => some (.byt b)
 | .float b _ => some (.flt b)
 | .ref a => some (.ref a)
 | .type n => some (.ty n)
 | _ => none
theorem RelV.abs {x : V} {u : Value} (r : RelV x u) : absV u = some x := by
 cases x with
 | non => cases r; rfl
 | bl _ => cases r; rfl
 | int _ => obtain ⟨t, rfl⟩ := r; rfl
 | str _ => obtain ⟨t, rfl⟩ := r; rfl
 | byt _ => obtain ⟨t, rfl⟩ := r; rfl
 | flt _ => obtain ⟨t, rfl⟩ := r; rfl
 | ref _ => cases r; rfl
 | ty _ => cases r; rfl
theorem RelV.inj {x y : V} {u : Value} (r : RelV x u) (q : RelV y u) : x = y := Option.some.inj (r.abs.symm.trans q.abs)
theorem Vals.inj : ∀ {xs ys : List V} {us : List Value}, Vals xs us → Vals ys us → xs = ys
 | _, _, _, .nil, .nil => rfl
 | _, _, _, .cons r t, .cons r' t' => by rw [r.inj r', Vals.inj t t']
section
variable {X : Cx} {pins : List (Addr × Obj)} {σ : St} {H : Hp} {s : Shared} {a : Addr} {xs ys : List V}
theorem SqL.of {K : PySem.W.Frag} (h : H a = some (.lst xs)) : SqL K H a xs := .inl (.inl h)
theorem SqT.of {K : PySem.W.Frag} (h : H a = some (.tup xs)) : SqT K H a xs := .inl (.inl h)
theorem Inv.list (I : Inv X pins σ H s) (h : SqL X.K H a xs) : ∃ its : List Value, Vals xs its ∧ PlainL s.heap a its.toArray ∧ xs.length ≤ sizeLine := by
 rcases h with h | ⟨o, its, n, hk, hc, hd, hs, hz, r⟩
 ·obtain ⟨z, its, n, r, e⟩ := h.ok I.hok
  exact ⟨its, r, ⟨_, n, e, rfl, rfl, rfl⟩, z⟩
 ·refine ⟨its.toList, r, ⟨o, n, I.kIn a o hk, hc, hd, by simpa using hs⟩, ?_⟩
  have e := r.length
  simp only [Array.length_toList] at e
  omega
theorem Inv.tuple (I : Inv X pins σ H s) (h : SqT X.K H a xs) : ∃ its : List Value, Vals xs its ∧ IsTup s.heap a its.toArray ∧ xs.length ≤ sizeLine := by
 rcases h with h | ⟨o, its, n, hk, hc, hs, hz, r⟩
 ·obtain ⟨z, its, r, p⟩ := h.ok I.hok
  exact ⟨its, r, p, z⟩
 ·refine ⟨its.toList, r, ⟨o, I.kIn a o hk, hc, n, by simpa using hs⟩, ?_⟩
  have e := r.length
  simp only [Array.length_toList] at e
  omega
theorem Inv.list_inj (I : Inv X pins σ H s) (h : SqL X.K H a xs) (h' : SqL X.K H a ys) : xs = ys := by
 obtain ⟨its, r, ⟨o, n, e, _, _, d⟩, _⟩ := I.list h
 obtain ⟨its', r', ⟨o', n', e', _, _, d'⟩, _⟩ := I.list h'
 rw [e] at e'; cases e'
 rw [d] at d'
 injection d' with d1 _
 have : its = its' := by simpa using congrArg Array.toList d1
 subst this
 exact r.inj r'
theorem Inv.tuple_inj (I : Inv X pins σ H s) (h : SqT X.K H a xs) (h' : SqT X.K H a ys) : xs = ys := by
 obtain ⟨its, r, ⟨o, e, _, n, d⟩, _⟩ := I.tuple h
 obtain ⟨its', r', ⟨o', e', _, n', d'⟩, _⟩ := I.tuple h'
 rw [e] at e'; cases e'
 rw [d] at d'
 injection d' with d1 _
 have : its = its' := by simpa using congrArg Array.toList d1
 subst this
 exact r.inj r'
end
abbrev Cx.wish (X : Cx) (E : Value → Shared → Prop) : Cx := { X with xe := E }
abbrev Cx.nox (X : Cx) : Cx := X.wish fun _ _ => False
theorem Cx.Ok.wish {X : Cx} (ok : X.Ok) (E : Value → Shared → Prop) : (X.wish E).Ok :=
 ⟨ok.mod, ok.kind, ok.glob, ok.blt, ok.above, ok.inj, ok.has, ok.cab, ok.hd, ok.frames, ok.stk, ok.exf, ok.bs, ok.bsz, ok.noex, ok.exfs, ok.funs, ok.frf⟩
theorem Cx.Ok.unwish {X : Cx} {E : Value → Shared → Prop} (ok : (X.wish E).Ok) : X.Ok :=
 ⟨ok.mod, ok.kind, ok.glob, ok.blt, ok.above, ok.inj, ok.has, ok.cab, ok.hd, ok.frames, ok.stk, ok.exf, ok.bs, ok.bsz, ok.noex, ok.exfs, ok.funs, ok.frf⟩
section
variable {X : Cx} {pins : List (Addr × Obj)} {σ : St} {H : Hp} {s : Shared} {E : Value → Shared → Prop}
theorem Inv.wish (I : Inv X pins σ H s) (E : Value → Shared → Prop) : Inv (X.wish E) pins σ H s := ⟨I.ok.wish E, I.os, I.bare, I.base, I.loc, I.cell, I.free, I.freeC, I.pin, I.hok, I.len⟩
theorem Inv.unwish (I : Inv (X.wish E) pins σ H s) : Inv X pins σ H s := ⟨I.ok.unwish, I.os, I.bare, I.base, I.loc, I.cell, I.free, I.freeC, I.pin, I.hok, I.len⟩
theorem SP.unwish {D : Ends} {f : Flow} {s' : Shared} (h : SP (X.wish E) pins D f s') : SP X pins D f s' := by
 cases f with
 | next => obtain ⟨σ', H', I, q⟩ := h; exact ⟨σ', H', I.unwish, q⟩
 | brk => obtain ⟨σ', H', I, q⟩ := h; exact ⟨σ', H', I.unwish, q⟩
 | cont => obtain ⟨σ', H', I, q⟩ := h; exact ⟨σ', H', I.unwish, q⟩
 | ret u => obtain ⟨v, σ', H', I, r, q⟩ := h; exact ⟨v, σ', H', I.unwish, r, q⟩
theorem PE.nox {e : Expr} {t : TE} (h : PE X.nox e t) : PE X e t := .mk fun pins s σ H Q I hw =>
 wpAny_mono (h pins s σ H Q (I.wish _) hw) (fun _ _ ⟨v, H', I', r, q⟩ => ⟨v, H', I'.unwish, r, q⟩) fun _ _ z => False.elim z
theorem PT.nox {e : Expr} {t : TT} (h : PT X.nox e t) : PT X e t := .mk fun pins s σ H Q I hw =>
 wpAny_mono (h pins s σ H Q (I.wish _) hw) (fun _ _ ⟨H', I', q⟩ => ⟨H', I'.unwish, q⟩) fun _ _ z => False.elim z
theorem PSs.nox {st : List Stmt} {t : TS} (h : PSs X.nox st t) : PSs X st t := .mk fun pins s σ H D I hw =>
 wpAny_mono (h pins s σ H D (I.wish _) hw) (fun _ _ q => q.unwish) fun _ _ z => False.elim z
end
section
variable {X : Cx} {st : Stmt} {rest : List Stmt} {t u : TS} {e : Expr} {te : TE} {pos : Pos}
def tNext : TS := fun D σ H => D.nx σ H
def tSeq (t u : TS) : TS := fun D σ H => t { D with nx := u D } σ H
theorem pss_nil : PSs X [] tNext := .mk fun _ _ σ H _ I h => wpAny_execs_nil ⟨σ, H, I, h⟩
theorem pss_cons (h1 : PS X st t) (h2 : PSs X rest u) : PSs X (st :: rest) (tSeq t u) := by
 refine .mk ?_
 intro pins s σ H D I h
 refine wpAny_execs_cons (thn (h1 pins s σ H { D with nx := u D } I h) fun f s1 q => ?_)
 cases f with
 | next =>
  obtain ⟨σ', H', I', q⟩ := q
  exact h2 pins s1 σ' H' D I' q
 | ret v => exact q
 | brk => exact q
 | cont => exact q
theorem Inv.quiet {pins : List (Addr × Obj)} {σ : St} {H : Hp} {s : Shared} (I : Inv X pins σ H s) : interactive X.env = false := by simp [interactive, I.ok.kind]
def tDrop (te : TE) : TS := fun D σ H => te σ H fun _ H1 => D.nx σ H1
theorem ps_expr (he : PE X e te) (hs : swapsWith e none pos.line X.env = pure false := by rfl) : PS X (.Expr e pos) (tDrop te) := by
 refine .mk ?_
 intro pins s σ H D I h
 exact wpAny_Expr_any (thn (he pins s σ H _ I h) fun v s1 ⟨x, H1, I1, r1, q1⟩ => ⟨σ, H1, I1, q1⟩) I.quiet hs
def tRet (te : TE) : TS := fun D σ H => te σ H D.rt
theorem ps_ret (he : PE X e te) : PS X (.Return (some e) pos) (tRet te) := by
 refine .mk ?_
 intro pins s σ H D I h
 exact wpAny_Return_some (thn (he pins s σ H _ I h) fun v s1 ⟨x, H1, I1, r1, q1⟩ => ⟨x, σ, H1, I1, r1, q1⟩)
def tIfS (c : TT) (t u : TS) : TS := fun D σ H => c σ H fun b H1 => if b = true then t D σ H1 else u D σ H1
theorem ps_if {c : Expr} {a b : List Stmt} {tc : TT} (hc : PT X c tc) (ha : PSs X a t) (hb : PSs X b u) : PS X (.If c a b pos) (tIfS tc t u) := by
 refine .mk ?_
 intro pins s σ H D I h
 refine wpAny_If (thn (hc pins s σ H _ I h) fun d s1 ⟨H1, I1, q1⟩ => ?_)
 cases d with
 | true => exact ha pins s1 σ H1 D I1 q1
 | false => exact hb pins s1 σ H1 D I1 q1
end
abbrev TG := V → St → Hp → (St → Hp → Prop) → Prop
abbrev TGs := List V → St → Hp → (St → Hp → Prop) → Prop
structure PG (X : Cx) (target : Expr) (t : TG) : Prop where
 run : ∀ (pins : List (Addr × Obj)) (s : Shared) (σ : St) (H : Hp) (v : V) (u : Value) (Q : St → Hp → Prop), Inv X pins σ H s → RelV v u → t v σ H Q →
  wpAny (model X.prog X.w) X.A (assign target X.env u) (fun _ s' => ∃ σ' H', Inv X pins σ' H' s' ∧ Q σ' H') X.xe s
instance {X : Cx} {target : Expr} {t : TG} : CoeFun (PG X target t) fun _ => ∀ (pins : List (Addr × Obj)) (s : Shared) (σ : St) (H : Hp) (v : V) (u : Value) (Q : St → Hp → Prop), Inv X pins σ H s → RelV v u → t v σ H Q → wpAny (model X.prog X.w) X.A (assign target X.env u) (fun _ s' => ∃ σ' H', Inv X pins σ' H' s' ∧ Q σ' H') X.xe s := ⟨PG.run⟩
structure PGs (X : Cx) (ts : List Expr) (t : TGs) : Prop where
 run : ∀ (pins : List (Addr × Obj)) (s : Shared) (σ : St) (H : Hp) (vs : List V) (us : List Value) (Q : St → Hp → Prop), Inv X pins σ H s → Vals vs us → t vs σ H Q →
  wpAny (model X.prog X.w) X.A (assignInOrder ((assignEach ts X.env).map (·.2)) us) (fun _ s' => ∃ σ' H', Inv X pins σ' H' s' ∧ Q σ' H') X.xe s
instance {X : Cx} {ts : List Expr} {t : TGs} : CoeFun (PGs X ts t) fun _ => ∀ (pins : List (Addr × Obj)) (s : Shared) (σ : St) (H : Hp) (vs : List V) (us : List Value) (Q : St → Hp → Prop), Inv X pins σ H s → Vals vs us → t vs σ H Q → wpAny (model X.prog X.w) X.A (assignInOrder ((assignEach ts X.env).map (·.2)) us) (fun _ s' => ∃ σ' H', Inv X pins σ' H' s' ∧ Q σ' H') X.xe s := ⟨PGs.run⟩
abbrev TSet := V → V → V → Hp → (Hp → Prop) → Prop
def PSet (X : Cx) (t : TSet) : Prop :=
 ∀ (pins : List (Addr × Obj)) (s : Shared) (σ : St) (H : Hp) (o i v : V) (ov iv u : Value) (Q : Hp → Prop), Inv X pins σ H s → RelV o ov → RelV i iv → RelV v u → t o i v H Q →
  wpAny (model X.prog X.w) X.A (setItem ov iv u) (fun _ s' => ∃ H', Inv X pins σ H' s' ∧ Q H') X.xe s
abbrev TIp := V → V → Hp → VK → Prop
def PIp (X : Cx) (op : Operator) (t : TIp) : Prop :=
 ∀ (pins : List (Addr × Obj)) (s : Shared) (σ : St) (H : Hp) (x y : V) (v u : Value) (Q : VK), Inv X pins σ H s → RelV x v → RelV y u → t x y H Q →
  wpAny (model X.prog X.w) X.A (inplaceOp op v u) (EP X pins σ Q) X.xe s
section
variable {X : Cx} {pos : Pos}
def gName (i : Nat) : TG := fun v σ H Q => Q (σ.set i (some v)) H
theorem pg_name {i : Nat} {x : Str} (hN : X.N.Nodup) (hi : X.N[i]? = some x) (hx : Loc X.env.scope x) (hf : X.fn x = true ∨ X.env.scope.names.lookup x = some .local := by first | exact .inl rfl | exact .inr rfl | assumption) : PG X (.Name x pos) (gName i) := by
 refine .mk ?_
 intro pins s σ H v u Q I r h
 exact wpAny_assign_Name (store_ok I hN hi hx r (fun s' I' => ⟨_, H, I', h⟩) hf)
def gNil : TGs := fun vs σ H Q => vs = [] ∧ Q σ H
def gCons (t : TG) (u : TGs) : TGs := fun vs σ H Q => ∃ v r, vs = v :: r ∧ t v σ H fun σ' H' => u r σ' H' Q
theorem pgs_nil : PGs X [] gNil := by
 refine .mk ?_
 intro pins s σ H vs us Q I r h
 obtain ⟨e, h⟩ := h
 subst e
 cases r
 exact assignInOrder_nil ⟨σ, H, I, h⟩
theorem pgs_cons {e : Expr} {es : List Expr} {t : TG} {u : TGs} (h1 : PG X e t) (h2 : PGs X es u)
  (hs : (assignEach (e :: es) X.env).map (·.2) = assign e X.env :: (assignEach es X.env).map (·.2) := by rfl) : PGs X (e :: es) (gCons t u) := by
 refine .mk ?_
 intro pins s σ H vs us Q I r h
 obtain ⟨v, vr, e1, h⟩ := h
 subst e1
 cases r with
 | cons r rr =>
  rw [hs]
  refine assignInOrder_cons (thn (h1 pins s σ H _ _ _ I r h) fun _ s1 ⟨σ1, H1, I1, q1⟩ => ?_)
  exact h2 pins s1 σ1 H1 _ _ Q I1 rr q1
def gTup (K : PySem.W.Frag) (n : Nat) (t : TGs) : TG := fun v σ H Q => ∃ a xs, v = .ref a ∧ SqT K H a xs ∧ xs.length = n ∧ t xs σ H Q
theorem pg_tup {es : List Expr} {k : Nat} {t : TGs} {n : Nat} (hc : X.calm = true) (h : PGs X es t)
  (hn : (assignEach es X.env).length = n := by rfl) (hst : (assignEach es X.env).findIdx? (·.1) = none := by rfl) : PG X (.Tuple es k pos) (gTup X.K n t) := by
 refine .mk ?_
 intro pins s σ H v u Q I r hw
 obtain ⟨a, xs, e1, hq, hl, hw⟩ := hw
 subst e1
 cases r
 obtain ⟨its, rv, ht, hz⟩ := I.tuple hq
 refine assign_Tuple_tuple (I.ok.hd hc) ht (by simp [hn, ← hl, rv.length]) hst fun h' hx => ?_
 have I1 : Inv X pins σ H { s with heap := h' } := I.kept (t' := s.toks) fun b o e => hx b o (Nat.ne_of_lt (Heap.lt_size e)) e
 exact h pins _ σ H xs _ Q I1 (by simpa using rv) hw
def gSub (to ti : TE) (t : TSet) : TG := fun v σ H Q => to σ H fun o H1 => ti σ H1 fun i H2 => t o i v H2 fun H3 => Q σ H3
theorem pg_sub {o i : Expr} {to ti : TE} {t : TSet} (ho : PE X o to) (hi : PE X i ti) (hs : PSet X t)
  (ha : ∀ v, assign (.Subscript o i pos) X.env v = (do
   let ov ← holding [v] (eval o X.env)
   let iv ← holding [v, ov] (eval i X.env)
   standAt pos
   holding [v, ov, iv] (setItem ov iv v)
   release [v, ov, iv] []) := by intro _; rfl) : PG X (.Subscript o i pos) (gSub to ti t) := by
 refine .mk ?_
 intro pins s σ H v u Q I r h
 rw [ha]
 refine wpAny_bind (wpAny_holding (thn (ho pins s σ H _ I h) fun ov s1 ⟨x, H1, I1, r1, q1⟩ => ?_))
 refine wpAny_bind (wpAny_holding (thn (hi pins s1 σ H1 _ I1 q1) fun iv s2 ⟨y, H2, I2, r2, q2⟩ => ?_))
 refine wpAny_bind (wpAny_standAt (wpAny_bind (wpAny_holding (thn (hs pins s2 σ H2 x y v ov iv u _ I2 r1 r2 r q2) fun _ s3 ⟨H3, I3, q3⟩ => ?_))))
 exact wpAny_release ⟨σ, H3, I3, q3⟩
def tAsg (te : TE) (g : TG) : TS := fun D σ H => te σ H fun x H1 => g x σ H1 D.nx
theorem ps_asg {tg e : Expr} {te : TE} {g : TG} (he : PE X e te) (hg : PG X tg g) (hs : swapsWithSole [tg] e pos.line X.env = pure false := by rfl) (hw : swappedStores [tg] e X.env = pure none := by rfl)
  (h1 : (assignEach [tg] X.env).map (·.2) = [assign tg X.env] := by rfl) : PS X (.Assign [tg] e pos) (tAsg te g) := by
 refine .mk ?_
 intro pins s σ H D I h
 refine wpAny_Assign_stores (thn (he pins s σ H _ I h) fun v s1 ⟨x, H1, I1, r1, q1⟩ => ?_) hs hw
 rw [h1]
 exact thn (hg pins s1 σ H1 x v _ I1 r1 q1) fun _ s2 q => q
theorem ps_set {i : Nat} {x : Str} {e : Expr} {te : TE} {pos' : Pos} (hN : X.N.Nodup) (hi : X.N[i]? = some x) (hx : Loc X.env.scope x) (he : PE X e te) (hs : swapsWith e (some (.Name x pos')) pos.line X.env = pure false := by rfl) (hf : X.fn x = true ∨ X.env.scope.names.lookup x = some .local := by first | exact .inl rfl | exact .inr rfl | assumption) :
  PS X (.Assign [.Name x pos'] e pos) (tAsg te (gName i)) := by
 refine .mk ?_
 intro pins s σ H D I h
 refine wpAny_Assign_Name (thn (he pins s σ H _ I h) fun v s1 ⟨y, H1, I1, r1, q1⟩ => ?_) hs
 exact store_ok I1 hN hi hx r1 (fun s2 I2 => ⟨_, H1, I2, q1⟩) hf
def tAug (i : Nat) (te : TE) (ti : TIp) : TS := fun D σ H => ∃ x, σ[i]? = some (some x) ∧ te σ H fun y H1 => ti x y H1 fun z H2 => D.nx (σ.set i (some z)) H2
theorem ps_aug {i : Nat} {x : Str} {e : Expr} {te : TE} {op : Operator} {ti : TIp} {pos' : Pos} (hN : X.N.Nodup) (hi : X.N[i]? = some x) (hx : Loc X.env.scope x) (he : PE X e te) (ho : PIp X op ti) (hf : X.fn x = true ∨ X.env.scope.names.lookup x = some .local := by first | exact .inl rfl | exact .inr rfl | assumption) :
  PS X (.AugAssign (.Name x pos') op e pos) (tAug i te ti) := by
 refine .mk ?_
 intro pins s σ H D I h
 obtain ⟨v, e1, h⟩ := h
 obtain ⟨m, hn, hl⟩ := I.loc
 have vis : Vis X.env.scope x := by rcases hx with k | k; exact .inl k; exact .inr (.inl k)
 obtain ⟨u, r, l⟩ := hl i x v hi e1 vis
 refine wpAny_AugAssign_Name ?_
 have go : wpAny (model X.prog X.w) X.A (eval e X.env) (fun w s₂ => wpAny (model X.prog X.w) X.A (inplaceOp op u w) (fun r s₃ => wpAny (model X.prog X.w) X.A (storeName X.env x r) (fun _ => SP X pins D .next) X.xe s₃) X.xe s₂) X.xe s := by
  refine thn (he pins s σ H _ I h) fun w s1 ⟨y, H1, I1, r1, q1⟩ => ?_
  refine thn (ho pins s1 σ H1 v y u w _ I1 r r1 q1) fun z s2 ⟨zv, H2, I2, r2, q2⟩ => ?_
  exact store_ok I2 hN hi hx r2 (fun s3 I3 => ⟨_, H2, I3, q2⟩) hf
 rcases l with ⟨hk, hm⟩ | ⟨hk, c, hc, hcell⟩
 ·exact wpAny_loadName_local I.ok.kind hk hn hm go
 ·rcases hk with hk | hk
  ·exact wpAny_loadName_cell I.ok.kind hk hc hcell go
  ·rcases hx with k | k
   ·have : X.env.scope.names.lookup x = some .free := hk
    rw [k] at this; cases this
   ·have : X.env.scope.names.lookup x = some .free := hk
    rw [k] at this; cases this
end
section
variable {X : Cx} {pos : Pos}
def tWhile (c : TT) (tb : TS) : TS := fun D σ H => ∃ W : Nat → St → Hp → Prop, (∃ m, W m σ H) ∧ ∀ m σ H, W m σ H →
 c σ H fun b H1 => if b = true then ∃ N : St → Hp → Prop, (∀ σ' H', N σ' H' → ∃ m', m' < m ∧ W m' σ' H') ∧ tb { D with nx := N, ct := N, bk := D.nx } σ H1 else D.nx σ H1
theorem ps_while {c : Expr} {body : List Stmt} {tc : TT} {tb : TS} (hp : PassesOwn (model X.prog X.w) X.A X.env X.xe) (hc : PT X c tc) (hb : PSs X body tb) : PS X (.While c body [] pos) (tWhile tc tb) := by
 refine .mk ?_
 intro pins s σ H D I h
 obtain ⟨W, ⟨m0, w0⟩, turn⟩ := h
 refine wpAny_While (codeAny_whileLoop (fun n s' => ∃ σ' H', Inv X pins σ' H' s' ∧ W n σ' H') ?_ m0 ⟨σ, H, I, w0⟩)
 rintro n s1 ⟨σ1, H1, I1, w1⟩
 refine wpAny_passesOwn hp (thn (hc pins s1 σ1 H1 _ I1 (turn n σ1 H1 w1)) fun b s2 ⟨H2, I2, q2⟩ => ?_)
 cases b with
 | true =>
  obtain ⟨N, hN, q2⟩ := q2
  rw [if_pos rfl]
  refine wpAny_passesOwn hp (thn (hb pins s2 σ1 H2 _ I2 q2) fun f s3 q3 => ?_)
  cases f with
  | next =>
   obtain ⟨σ3, H3, I3, n3⟩ := q3
   obtain ⟨m', hm, w3⟩ := hN σ3 H3 n3
   exact ⟨m', hm, σ3, H3, I3, w3⟩
  | cont =>
   obtain ⟨σ3, H3, I3, n3⟩ := q3
   obtain ⟨m', hm, w3⟩ := hN σ3 H3 n3
   exact ⟨m', hm, σ3, H3, I3, w3⟩
  | brk => exact q3
  | ret v => exact q3
 | false =>
  rw [if_neg Bool.false_ne_true]
  exact wpAny_execs_nil ⟨σ1, H2, I2, q2⟩
end
structure It where
 go : Nat → Hp → Prop
 yld : Nat → Hp → V → Hp → Prop
 stop : Nat → Hp → Prop
def FpOk (X : Cx) (pins : List (Addr × Obj)) (H : Hp) (b : Addr) : Prop :=
 H b = none ∧ b ≠ X.env.locals ∧ b ∉ X.fs ∧ (b ∈ X.ex ∨ X.s₀.heap.objs.size ≤ b) ∧ (∀ x c, X.env.cells.lookup x = some c → c ≠ b) ∧ ∀ p ∈ X.pn ++ pins, p.1 ≠ b
theorem Inv.fpOk {X : Cx} {pins : List (Addr × Obj)} {σ : St} {H H' : Hp} {s : Shared} {b : Addr} (I : Inv X pins σ H s) (hb : s.heap.objs.size ≤ b) (hn : H' b = none) : FpOk X pins H' b := by
 refine ⟨hn, Nat.ne_of_gt (Nat.lt_of_lt_of_le I.lt hb), I.nofs hb, .inr (Nat.le_trans I.sz hb), fun x c e z => ?_, fun p hp z => ?_⟩
 ·obtain ⟨v, q⟩ := I.cell x c e
  exact absurd (Nat.lt_of_lt_of_le q.lt (by rw [z]; exact hb)) (Nat.lt_irrefl _)
 ·exact absurd (Nat.lt_of_lt_of_le (Heap.lt_size (I.pin p hp).1) (by rw [z]; exact hb)) (Nat.lt_irrefl _)
structure Turn (P : Program) (w : World) (K : PySem.W.Frag) (tg : Expr) (J : It) (fp : List Addr) (it : Addr) (tn : Nat → Heap → Prop) : Prop where
 mem : it ∈ fp
 obj : ∀ i h, tn i h → ∀ b ∈ fp, ∃ o, h.get? b = some o ∧ ∀ v, o.data ≠ .cell v
 keep : ∀ i h h', tn i h → (∀ b ∈ fp, ∀ o, h.get? b = some o → h'.get? b = some o) → tn i h'
 item : ∀ (X : Cx), X.prog = P → X.w = w → X.K = K → X.calm = true → ∀ (i : Nat) (pins : List (Addr × Obj)) (s : Shared) (σ : St) (H : Hp) (E : Value → Shared → Prop), Inv X pins σ H s → (∀ b ∈ fp, FpOk X pins H b) → tn i s.heap → J.go i H →
  wpAny (model P w) X.A (pyNext (.ref it)) (fun r s1 => ∃ u, r = some u ∧
   wpAny (model P w) X.A (letOwnedTupleGo tg (.ref it) u) (fun _ s2 => ∃ x H', Inv X pins σ H' s2 ∧ RelV x u ∧ J.yld i H x H' ∧ tn (i + 1) s2.heap ∧ ∀ b ∈ fp, H' b = none) E s1) E s
 done : ∀ (X : Cx), X.prog = P → X.w = w → X.K = K → X.calm = true → ∀ (i : Nat) (pins : List (Addr × Obj)) (s : Shared) (σ : St) (H : Hp) (E : Value → Shared → Prop), Inv X pins σ H s → (∀ b ∈ fp, FpOk X pins H b) → tn i s.heap → J.stop i H →
  wpAny (model P w) X.A (pyNext (.ref it)) (fun r s1 => r = none ∧ Inv X pins σ H s1) E s
 self : ∀ (A : Around) (i : Nat) (s : Shared) (Q : Value → Shared → Prop) (E : Value → Shared → Prop), tn i s.heap → Q (.ref it) s → wpAny (model P w) A (pyIter (.ref it)) Q E s
abbrev TI := St → Hp → (It → Hp → Prop) → Prop
def PIE (X : Cx) (pins : List (Addr × Obj)) (σ : St) (tg : Expr) (R : It → Hp → Prop) (itv : Value) (s2 : Shared) : Prop :=
 ∃ (it : Addr) (fp : List Addr) (tn : Nat → Heap → Prop) (J : It) (H' : Hp), itv = .ref it ∧ Inv X pins σ H' s2 ∧ Turn X.prog X.w X.K tg J fp it tn ∧ tn 0 s2.heap ∧ (∀ b ∈ fp, FpOk X pins H' b) ∧ R J H'
structure PI (X : Cx) (tg iter : Expr) (wi : TI) : Prop where
 run : ∀ (pins : List (Addr × Obj)) (s : Shared) (σ : St) (H : Hp) (R : It → Hp → Prop), Inv X pins σ H s → wi σ H R →
  wpAny (model X.prog X.w) X.A (eval iter X.env) (fun v s1 => wpAny (model X.prog X.w) X.A (pyIter v) (PIE X pins σ tg R) X.xe s1) X.xe s
instance {X : Cx} {tg iter : Expr} {wi : TI} : CoeFun (PI X tg iter wi) fun _ => ∀ (pins : List (Addr × Obj)) (s : Shared) (σ : St) (H : Hp) (R : It → Hp → Prop), Inv X pins σ H s → wi σ H R → wpAny (model X.prog X.w) X.A (eval iter X.env) (fun v s1 => wpAny (model X.prog X.w) X.A (pyIter v) (PIE X pins σ tg R) X.xe s1) X.xe s := ⟨PI.run⟩
theorem go_of {M : Model} {A : Around} {E : Value → Shared → Prop} {s : Shared} {tg : Expr} {it : Addr} {u : Value} {o : Obj} {n : String} {vs : Array Value} {Q : Unit → Shared → Prop} (ho : s.heap.get? it = some o) (hc : o.cls = .type n) (hd : o.data = .fields vs)
    (hn : ["enumerate", "zip", "dict_itemiterator", "dict_reverseitemiterator", "odict_iterator", "itertools.zip_longest", "itertools.pairwise"].contains n = false) (hQ : Q () s) : wpAny M A (letOwnedTupleGo tg (.ref it) u) Q E s := by
  unfold letOwnedTupleGo
  cases tg <;> first
    | exact wpAny_pure hQ
    | (cases u <;> first
        | exact wpAny_pure hQ
        | (refine wpAny_bind (wpAny_load ho ?_)
           rw [hc, hd]
           show wpAny M A (if (["enumerate", "zip", "dict_itemiterator", "dict_reverseitemiterator", "odict_iterator", "itertools.zip_longest", "itertools.pairwise"].contains n && vs[0]? == some (rawInt _)) = true then _ else _) Q E s
           rw [if_neg (by intro h; rw [hn, Bool.false_and] at h; cases h)]
           exact wpAny_pure hQ))
def Itl (K : PySem.W.Frag) (a : Addr) : It :=
 ⟨fun i H => ∃ xs x, SqL K H a xs ∧ xs[i]? = some x, fun i H x H' => H' = H ∧ ∀ xs, SqL K H a xs → xs[i]? = some x, fun i H => ∃ xs, SqL K H a xs ∧ xs.length ≤ i⟩
def Itr (lo : Int) (n : Nat) : It := ⟨fun i _ => i < n, fun i H x H' => H' = H ∧ x = .int (lo + i), fun i _ => n ≤ i⟩
theorem turn_list {P : Program} {w : World} {K : PySem.W.Frag} {tg : Expr} (a it : Addr) : Turn P w K tg (Itl K a) [it] it (fun i h => h.IsListIter it a i) where
 mem := by simp
 obj := fun i h st b hb => by
  have e : b = it := by simpa using hb
  subst e
  obtain ⟨o, e, c, d⟩ := st
  exact ⟨o, e, fun v z => by rw [d] at z; cases z⟩
 keep := fun i h h' st k => st.at fun o e => k it (by simp) o e
 item := by
  intro X hP hw hK hc i pins s σ H E I hf st hg
  subst hP hw hK
  obtain ⟨xs, x, hq, hx⟩ := hg
  obtain ⟨its, rv, p, hz⟩ := I.list hq
  obtain ⟨u, hu, ru⟩ := rv.get hx
  obtain ⟨f0, f1, f2, f3, f4, f5⟩ := hf it (by simp)
  refine wpAny_pyNext_list_item st p.isList (x := u) (by simpa using hu) fun h' st' sb => ?_
  have I1 : Inv X pins σ H { s with heap := h' } := I.turned (t' := s.toks) (fun b o hb e => (sb.2 b hb).trans e) f0 f1 f3 f4 f5
  obtain ⟨o, e, c, d⟩ := id st'
  exact ⟨u, rfl, go_of (s := { s with heap := h' }) e c d (by decide) ⟨x, H, I1, ru, ⟨rfl, fun ys hy => by rw [I.list_inj hy hq]; exact hx⟩, st', fun b hb => (hf b hb).1⟩⟩
 done := by
  intro X hP hw hK hc i pins s σ H E I hf st hg
  subst hP hw hK
  obtain ⟨xs, hq, hx⟩ := hg
  obtain ⟨its, rv, p, hz⟩ := I.list hq
  obtain ⟨f0, f1, f2, f3, f4, f5⟩ := hf it (by simp)
  have hl := rv.length
  exact wpAny_pyNext_list_end (I.ok.hd hc) st p.isList (by simp; omega) fun h' eb => ⟨rfl, I.turned (t' := s.toks) (fun b o hb e => eb b o hb e) f0 f1 f3 f4 f5⟩
 self := fun _ _ _ _ _ st h => wpAny_pyIter_listiter st h
theorem turn_range {P : Program} {w : World} {K : PySem.W.Frag} {tg : Expr} (it : Addr) (lo : Int) (n : Nat) : Turn P w K tg (Itr lo n) [it] it (fun i h => IsRangeIter h it (lo + (i : Nat) * 1) ((n : Int) - (i : Nat)) 1) where
 mem := by simp
 obj := fun i h st b hb => by
  have e : b = it := by simpa using hb
  subst e
  exact ⟨_, st, fun v z => by
   have z' : Data.fields _ = Data.cell v := z
   cases z'⟩
 keep := fun i h h' st k => k it (by simp) _ st
 item := by
  intro X hP hw hK hc i pins s σ H E I hf st hg
  subst hP hw hK
  obtain ⟨f0, f1, f2, f3, f4, f5⟩ := hf it (by simp)
  have W := Walks.range (prog := X.prog) (w := X.w) (I.ok.hd hc) it lo 1 n
  refine W.item i s _ _ hg st fun v h' tk hv st' kk => ?_
  obtain ⟨t, rfl⟩ := hv
  have I1 : Inv X pins σ H { s with heap := h', toks := tk } := I.turned (fun b o hb e => kk b o (by simpa using hb) e) f0 f1 f3 f4 f5
  refine ⟨_, rfl, go_of (s := { s with heap := h', toks := tk }) (n := "range_iterator") st' rfl rfl (by decide) ⟨.int (lo + i), H, I1, ⟨t, ?_⟩, ⟨rfl, rfl⟩, st', fun b hb => (hf b hb).1⟩⟩
  rw [Int.mul_one]
 done := by
  intro X hP hw hK hc i pins s σ H E I hf st hg
  subst hP hw hK
  obtain ⟨f0, f1, f2, f3, f4, f5⟩ := hf it (by simp)
  exact wpAny_pyNext_range_end (I.ok.hd hc) st (by have : n ≤ i := hg; omega) fun h' eb => ⟨rfl, I.turned (t' := s.toks) (fun b o hb e => eb b o hb e) f0 f1 f3 f4 f5⟩
 self := fun _ _ _ _ _ st h => wpAny_pyIter_rangeiter st h
end L2
namespace L2
open PySem PySem.Spec PyProof.Rows
section
variable {X : Cx} {tg : Expr}
def iList (K : PySem.W.Frag) (tl : TE) : TI := fun σ H R => tl σ H fun x H1 => ∃ a, x = .ref a ∧ (∃ xs, SqL K H1 a xs) ∧ R (Itl K a) H1
theorem pi_list {l : Expr} {tl : TE} (hl : PE X l tl) : PI X tg l (iList X.K tl) := by
 refine .mk ?_
 intro pins s σ H R I h
 refine thn (hl pins s σ H _ I h) fun v s1 ⟨x, H1, I1, r1, q1⟩ => ?_
 obtain ⟨a, e, ⟨xs, hq⟩, q⟩ := q1
 subst e
 cases r1
 obtain ⟨its, rv, p, hz⟩ := I1.list hq
 refine wpAny_pyIter_list p.isList ?_
 refine ⟨s1.heap.objs.size, [s1.heap.objs.size], _, _, H1, rfl, I1.kept (t' := s1.toks) fun b o e => Heap.get?_push_of_some _ e, turn_list a _, ⟨_, Heap.get?_push_size _ rfl, rfl, rfl⟩, fun b hb => ?_, q⟩
 have e : b = s1.heap.objs.size := by simpa using hb
 subst e
 exact I1.fpOk (Nat.le_refl _) (I1.hok.fresh (Nat.le_refl _))
theorem range_it {pins : List (Addr × Obj)} {σ : St} {H : Hp} {s : Shared} {R : It → Hp → Prop} {E : Value → Shared → Prop} {lo hi : Int} {t u v : Tok} {tk : Nat} (I : Inv X pins σ H s) (h1 : -(2 ^ 62) ≤ lo) (h2 : lo < 2 ^ 62) (h3 : -(2 ^ 62) ≤ hi) (h4 : hi < 2 ^ 62)
  (q : R (Itr lo (hi - lo).toNat) H) : wpAny (model X.prog X.w) X.A (pyIter (.ref s.heap.objs.size)) (PIE X pins σ tg R) E { s with heap := s.heap.push { cls := .type "range", data := .fields #[.int lo t, .int hi u, .int 1 v] }, toks := tk } := by
 refine wpAny_pyIter_range (IsRange.new ..) (small_one h1 h2 h3 h4) ?_
 have I1 : Inv X pins σ H { s with heap := s.heap.push { cls := .type "range", data := .fields #[.int lo t, .int hi u, .int 1 v] }, toks := tk } := I.kept fun b o e => Heap.get?_push_of_some _ e
 refine ⟨(s.heap.push { cls := .type "range", data := .fields #[.int lo t, .int hi u, .int 1 v] }).objs.size, [(s.heap.push { cls := .type "range", data := .fields #[.int lo t, .int hi u, .int 1 v] }).objs.size], _, _, H, rfl,
  I1.kept (t' := tk) fun b o e => Heap.get?_push_of_some _ e, turn_range _ lo (hi - lo).toNat, ?_, fun b hb => ?_, q⟩
 ·have e1 : lo + ((0 : Nat) : Int) * 1 = lo := by simp
  have e2 : (((hi - lo).toNat : Nat) : Int) - ((0 : Nat) : Int) = Builtin.Range.rangeSize lo hi 1 := by rw [rangeSize_one]; split <;> omega
  show IsRangeIter _ _ (lo + ((0 : Nat) : Int) * 1) ((((hi - lo).toNat : Nat) : Int) - ((0 : Nat) : Int)) 1
  rw [e1, e2]
  exact Heap.get?_push_size _ rfl
 ·have e : b = (s.heap.push { cls := .type "range", data := .fields #[.int lo t, .int hi u, .int 1 v] }).objs.size := by simpa using hb
  subst e
  exact I1.fpOk (Nat.le_refl _) (I1.hok.fresh (Nat.le_refl _))
def iRng1 (ta : TA) : TI := fun σ H R => ta σ H fun vs H1 => ∃ j : Int, vs = [.int j] ∧ -(2 ^ 62) ≤ j ∧ j < 2 ^ 62 ∧ R (Itr 0 j.toNat) H1
def iRng2 (ta : TA) : TI := fun σ H R => ta σ H fun vs H1 => ∃ i j : Int, vs = [.int i, .int j] ∧ (-(2 ^ 62) ≤ i ∧ i < 2 ^ 62 ∧ -(2 ^ 62) ≤ j ∧ j < 2 ^ 62) ∧ R (Itr i (j - i).toNat) H1
theorem pi_range1 {a : Expr} {ta : TA} {p pos : Pos} (hg : Gl X "range") (hm : X.mg "range" = none) (ha : PA X [a] ta) (hs : starEach [a] X.env = [(false, eval a X.env)] := by rfl) : PI X tg (.Call (.Name "range" p) [a] [] pos) (iRng1 ta) := by
 refine .mk ?_
 intro pins s σ H R I h
 refine Call_ (ld_blt I hg hm boot_range (PyProof.Rows.callWith_type1 (thn (ha pos pins s σ H _ I h) fun us s1 ⟨vs, H1, I1, r1, q1⟩ => ?_) hs rfl))
 obtain ⟨j, e, q1, q2, q⟩ := q1
 subst e
 cases r1 with
 | cons r rr =>
  cases rr
  obtain ⟨t, rfl⟩ := r
  exact call_range_1 (range_it I1 (by omega) (by omega) q1 q2 (by simpa using q))
theorem pi_range2 {a b : Expr} {ta : TA} {p pos : Pos} (hg : Gl X "range") (hm : X.mg "range" = none) (ha : PA X [a, b] ta) (hs : starEach [a, b] X.env = [(false, eval a X.env), (false, eval b X.env)] := by rfl) (hs2 : starEach [b] X.env = [(false, eval b X.env)] := by rfl) :
  PI X tg (.Call (.Name "range" p) [a, b] [] pos) (iRng2 ta) := by
 refine .mk ?_
 intro pins s σ H R I h
 refine Call_ (ld_blt I hg hm boot_range (PyProof.Rows.callWith_type1 (thn (ha pos pins s σ H _ I h) fun us s1 ⟨vs, H1, I1, r1, q1⟩ => ?_) (by rw [hs, hs2]) (by rw [hs2]; rfl)))
 obtain ⟨i, j, e, ⟨q1, q2, q3, q4⟩, q⟩ := q1
 subst e
 cases r1 with
 | cons r rr =>
  cases rr with
  | cons r' rr =>
   cases rr
   obtain ⟨t, rfl⟩ := r
   obtain ⟨t', rfl⟩ := r'
   exact call_range_2 (range_it I1 q1 q2 q3 q4 q)
def tFor (wi : TI) (g : TG) (tb : TS) : TS := fun D σ H => wi σ H fun J H1 => ∃ W : Nat → Nat → St → Hp → Prop, (∃ m, W 0 m σ H1) ∧ ∀ i m σ H, W i m σ H →
 (J.stop i H ∧ D.nx σ H) ∨ (J.go i H ∧ ∃ N : St → Hp → Prop, (∀ σ' H', N σ' H' → ∃ m', m' < m ∧ W (i + 1) m' σ' H') ∧ ∀ x H', J.yld i H x H' → g x σ H' fun σ2 H2 => tb { D with nx := N, ct := N, bk := D.nx } σ2 H2)
def pinsAt (fp : List Addr) (h : Heap) : List (Addr × Obj) := fp.filterMap fun b => (h.get? b).map fun o => (b, o)
theorem mem_pinsAt {fp : List Addr} {h : Heap} {b : Addr} {o : Obj} (hb : b ∈ fp) (e : h.get? b = some o) : (b, o) ∈ pinsAt fp h := List.mem_filterMap.mpr ⟨b, hb, by rw [e]; rfl⟩
theorem of_pinsAt {fp : List Addr} {h : Heap} {p : Addr × Obj} (hp : p ∈ pinsAt fp h) : p.1 ∈ fp ∧ h.get? p.1 = some p.2 := by
 obtain ⟨b, hb, e⟩ := List.mem_filterMap.mp hp
 cases q : h.get? b with
 | none => rw [q] at e; cases e
 | some o =>
  rw [q] at e
  have e' : (b, o) = p := Option.some.inj e
  subst e'
  exact ⟨hb, q⟩
theorem Inv.pinned {pins : List (Addr × Obj)} {σ : St} {H : Hp} {s : Shared} {fp : List Addr} (I : Inv X pins σ H s) (hf : ∀ b ∈ fp, FpOk X pins H b) (ho : ∀ b ∈ fp, ∃ o, s.heap.get? b = some o ∧ ∀ v, o.data ≠ .cell v) : Inv X (pins ++ pinsAt fp s.heap) σ H s :=
 I.pins_of fun p hp => (List.mem_append.mp hp).elim (fun z => I.pin p (List.mem_append_right _ z)) fun z => by
  obtain ⟨hb, e⟩ := of_pinsAt z
  obtain ⟨f0, f1, f2, _⟩ := hf p.1 hb
  obtain ⟨o, e', d⟩ := ho p.1 hb
  rw [e] at e'; cases e'
  exact ⟨e, f0, f1, f2, d⟩
theorem Inv.unpinned {pins pl : List (Addr × Obj)} {σ : St} {H : Hp} {s : Shared} (I : Inv X (pins ++ pl) σ H s) : Inv X pins σ H s := I.pins_of fun p hp => I.pin p (List.mem_append_right _ (List.mem_append_left _ hp))
theorem ps_for {iter : Expr} {body : List Stmt} {wi : TI} {g : TG} {tb : TS} {pos : Pos} (hp : PassesOwn (model X.prog X.w) X.A X.env X.xe) (hc : X.calm = true) (hi : PI X tg iter wi) (hg : PG X tg g) (hb : PSs X body tb)
  (hs : ∀ x, foldedSetIterable iter X.env x = pure x := by intro _; rfl) : PS X (.For tg iter body [] pos) (tFor wi g tb) := by
 refine .mk ?_
 intro pins s σ H D I h
 refine wpAny_For (thn (hi pins s σ H _ I h) fun v s1 h1 => thn h1 fun itv s2 h2 => ?_) hs
 obtain ⟨it, fp, tn, J, H2, e, I2, T, st2, f2, W, ⟨m0, w0⟩, turn⟩ := h2
 subst e
 -- what stays true of the iterator's objects through the loop
 have stat : ∀ {H' : Hp}, (∀ b ∈ fp, H' b = none) → ∀ b ∈ fp, FpOk X pins H' b := fun hn b hb => ⟨hn b hb, (f2 b hb).2⟩
 refine codeAny_forLoop_any (fun n s' => ∃ i σ' H', Inv X pins σ' H' s' ∧ tn i s'.heap ∧ (∀ b ∈ fp, H' b = none) ∧ W i n σ' H') ?_ m0 ⟨0, σ, H2, I2, st2, fun b hb => (f2 b hb).1, w0⟩
 rintro n s3 ⟨i, σ3, H3, I3, st3, fr3, w3⟩
 rcases turn i n σ3 H3 w3 with ⟨stop, qn⟩ | ⟨go, N, hN, step⟩
 ·refine wpAny_passesOwn hp (thn (T.done X rfl rfl rfl hc i pins s3 σ3 H3 X.xe I3 (stat fr3) st3 stop) fun r s4 ⟨hr, I4⟩ => ?_)
  subst hr
  exact wpAny_execs_nil ⟨σ3, H3, I4, qn⟩
 ·refine wpAny_passesOwn hp (thn (T.item X rfl rfl rfl hc i pins s3 σ3 H3 X.xe I3 (stat fr3) st3 go) fun r s4 ⟨u, hr, h4⟩ => ?_)
  subst hr
  refine wpAny_passesOwn hp (thn h4 fun _ s5 ⟨x, H5, I5, r5, y5, st5, fr5⟩ => ?_)
  have I5' := I5.pinned (stat fr5) (T.obj _ _ st5)
  refine wpAny_passesOwn hp (thn (hg _ s5 σ3 H5 x u _ I5' r5 (step x H5 y5)) fun _ s6 ⟨σ6, H6, I6, q6⟩ => ?_)
  refine wpAny_passesOwn hp (thn (hb _ s6 σ6 H6 _ I6 q6) fun f s7 q7 => ?_)
  have again : ∀ {σ7 : St} {H7 : Hp}, Inv X (pins ++ pinsAt fp s5.heap) σ7 H7 s7 → N σ7 H7 → ∃ m, m < n ∧ ∃ i σ' H', Inv X pins σ' H' s7 ∧ tn i s7.heap ∧ (∀ b ∈ fp, H' b = none) ∧ W i m σ' H' := fun {σ7 H7} I7 n7 => by
   obtain ⟨m', hm, w7⟩ := hN σ7 H7 n7
   refine ⟨m', hm, i + 1, σ7, H7, I7.unpinned, T.keep _ _ _ st5 fun b hb o e => (I7.pin (b, o) (List.mem_append_right _ (List.mem_append_right _ (mem_pinsAt hb e)))).1, fun b hb => ?_, w7⟩
   obtain ⟨o, e, d⟩ := T.obj _ _ st5 b hb
   exact (I7.pin (b, o) (List.mem_append_right _ (List.mem_append_right _ (mem_pinsAt hb e)))).2.1
  cases f with
  | next => obtain ⟨σ7, H7, I7, n7⟩ := q7; exact again I7 n7
  | cont => obtain ⟨σ7, H7, I7, n7⟩ := q7; exact again I7 n7
  | brk => obtain ⟨σ7, H7, I7, q7⟩ := q7; exact ⟨σ7, H7, I7.unpinned, q7⟩
  | ret v => obtain ⟨x7, σ7, H7, I7, r7, q7⟩ := q7; exact ⟨x7, σ7, H7, I7.unpinned, r7, q7⟩
end
end L2
namespace L2
open PySem PySem.Spec PyProof.Rows
abbrev R2 := V → V → Hp → VK → Prop
def OpR (X : Cx) (f : Value → Value → Sem Value) (r : R2) : Prop :=
 ∀ (pins : List (Addr × Obj)) (s : Shared) (σ : St) (H : Hp) (x y : V) (v u : Value) (Q : VK), Inv X pins σ H s → RelV x v → RelV y u → r x y H Q →
  wpAny (model X.prog X.w) X.A (f v u) (EP X pins σ Q) X.xe s
def UnR (X : Cx) (f : Value → Sem Value) (r : V → Hp → VK → Prop) : Prop :=
 ∀ (pins : List (Addr × Obj)) (s : Shared) (σ : St) (H : Hp) (x : V) (v : Value) (Q : VK), Inv X pins σ H s → RelV x v → r x H Q →
  wpAny (model X.prog X.w) X.A (f v) (EP X pins σ Q) X.xe s
def CallR (X : Cx) (f : Value) (r : List V → Hp → VK → Prop) : Prop :=
 ∀ (pins : List (Addr × Obj)) (s : Shared) (σ : St) (H : Hp) (xs : List V) (us : List Value) (Q : VK), Inv X pins σ H s → Vals xs us → r xs H Q →
  wpAny (model X.prog X.w) X.A (call f us) (EP X pins σ Q) X.xe s
def tOp (r : R2) (ta tb : TE) : TE := fun σ H Q => ta σ H fun x H1 => tb σ H1 fun y H2 => r x y H2 Q
def tUn (r : V → Hp → VK → Prop) (ta : TE) : TE := fun σ H Q => ta σ H fun x H1 => r x H1 Q
def rI (C : Int → Int → Prop) (g : Int → Int → V) : R2 := fun x y H Q => ∃ i j, x = .int i ∧ y = .int j ∧ C i j ∧ Q (g i j) H
def rI0 (g : Int → Int → V) : R2 := fun x y H Q => ∃ i j, x = .int i ∧ y = .int j ∧ Q (g i j) H
def rU (g : Int → V) : V → Hp → VK → Prop := fun x H Q => ∃ i, x = .int i ∧ Q (g i) H
section
variable {X : Cx} {a b c : Expr} {ta tb tc : TE} {pos : Pos}
theorem binT (ha : PE X a ta) (hb : PE X b tb) {pins : List (Addr × Obj)} {s : Shared} {σ : St} {H : Hp} {R : V → V → Hp → Prop} (I : Inv X pins σ H s)
  (h : ta σ H fun x H1 => tb σ H1 fun y H2 => R x y H2) {Q : Value → Shared → Prop} {f : Value → Value → Sem Value}
  (hf : ∀ v u s2 x y H2, Inv X pins σ H2 s2 → RelV x v → RelV y u → R x y H2 → wpAny (model X.prog X.w) X.A (f v u) Q X.xe s2) :
  wpAny (model X.prog X.w) X.A (eval a X.env) (fun v s₁ => wpAny (model X.prog X.w) X.A (eval b X.env) (fun u s₂ => wpAny (model X.prog X.w) X.A (f v u) Q X.xe s₂) X.xe s₁) X.xe s := by
 refine thn (ha pins s σ H _ I h) fun v s1 ⟨x, H1, I1, r1, q1⟩ => ?_
 refine thn (hb pins s1 σ H1 _ I1 q1) fun u s2 ⟨y, H2, I2, r2, q2⟩ => ?_
 exact hf v u s2 x y H2 I2 r1 r2 q2
theorem pe_op {op : Operator} {r : R2} (ho : OpR X (binaryOp op) r) (ha : PE X a ta) (hb : PE X b tb) : PE X (.BinOp a op b pos) (tOp r ta tb) := by
 refine .mk ?_
 intro pins s σ H Q I h
 exact wpAny_BinOp (binT ha hb I h fun v u s2 x y H2 I2 rx ry q => ho pins s2 σ H2 x y v u Q I2 rx ry q)
theorem pe_un {op : UnaryOp} {r : V → Hp → VK → Prop} (ho : UnR X (unaryOp op) r) (ha : PE X a ta) : PE X (.UnaryOp op a pos) (tUn r ta) := by
 refine .mk ?_
 intro pins s σ H Q I h
 exact UnaryOp_ (thn (ha pins s σ H _ I h) fun v s1 ⟨x, H1, I1, r1, q1⟩ => ho pins s1 σ H1 x v Q I1 r1 q1)
theorem opI {f : Value → Value → Sem Value} {C : Int → Int → Prop} {g : Int → Int → Int}
  (rule : ∀ (i j : Int) (t u : Tok) (s : Shared) (Q : Value → Shared → Prop) (E : Value → Shared → Prop), C i j → Q (.int (g i j) s.toks) { s with toks := s.toks + 1 } → wpAny (model X.prog X.w) X.A (f (.int i t) (.int j u)) Q E s) :
  OpR X f (rI C fun i j => .int (g i j)) := by
 intro pins s σ H x y v u Q I rx ry h
 obtain ⟨i, j, rfl, rfl, hc, q⟩ := h
 obtain ⟨t, rfl⟩ := rx
 obtain ⟨t', rfl⟩ := ry
 exact rule i j t t' s _ _ hc ⟨.int (g i j), H, I.tok _, ⟨_, rfl⟩, q⟩
theorem opI0 {f : Value → Value → Sem Value} {g : Int → Int → Int}
  (rule : ∀ (i j : Int) (t u : Tok) (s : Shared) (Q : Value → Shared → Prop) (E : Value → Shared → Prop), Q (.int (g i j) s.toks) { s with toks := s.toks + 1 } → wpAny (model X.prog X.w) X.A (f (.int i t) (.int j u)) Q E s) :
  OpR X f (rI0 fun i j => .int (g i j)) := by
 intro pins s σ H x y v u Q I rx ry h
 obtain ⟨i, j, rfl, rfl, q⟩ := h
 obtain ⟨t, rfl⟩ := rx
 obtain ⟨t', rfl⟩ := ry
 exact rule i j t t' s _ _ ⟨.int (g i j), H, I.tok _, ⟨_, rfl⟩, q⟩
theorem opB0 {f : Value → Value → Sem Value} {g : Int → Int → Bool}
  (rule : ∀ (i j : Int) (t u : Tok) (s : Shared) (Q : Value → Shared → Prop) (E : Value → Shared → Prop), Q (.bool (g i j)) s → wpAny (model X.prog X.w) X.A (f (.int i t) (.int j u)) Q E s) :
  OpR X f (rI0 fun i j => .bl (g i j)) := by
 intro pins s σ H x y v u Q I rx ry h
 obtain ⟨i, j, rfl, rfl, q⟩ := h
 obtain ⟨t, rfl⟩ := rx
 obtain ⟨t', rfl⟩ := ry
 exact rule i j t t' s _ _ ⟨.bl (g i j), H, I, rfl, q⟩
def CPow (i j : Int) : Prop := 0 ≤ j ∧ j ≤ 1000000 ∧ i.natAbs < 2 ^ 64
def CMul (i j : Int) : Prop := (-(2 ^ 64) < i ∧ i < 2 ^ 64) ∨ (-(2 ^ 64) < j ∧ j < 2 ^ 64)
theorem CMul.ok {i j : Int} (h : CMul i j) : IntMulOk i j := by
 rcases h with ⟨h1, h2⟩ | ⟨h1, h2⟩
 ·exact .of_left (intBits_le_64 h1 h2)
 ·exact .of_right (intBits_le_64 h1 h2)
theorem op_add : OpR X (binaryOp .Add) (rI0 fun i j => .int (i + j)) := opI0 fun _ _ _ _ _ _ _ q => add_int q
theorem op_sub : OpR X (binaryOp .Sub) (rI0 fun i j => .int (i - j)) := opI0 fun _ _ _ _ _ _ _ q => sub_int q
theorem op_mul : OpR X (binaryOp .Mult) (rI CMul fun i j => .int (i * j)) := opI fun _ _ _ _ _ _ _ hc q => mul_int q hc.ok
theorem op_mod : OpR X (binaryOp .Mod) (rI (fun _ j => 0 < j) fun i j => .int (i % j)) := opI fun i j _ _ _ _ _ hc q => by
 have h1 : (0 : Int) < j := hc
 exact mod_int' (by omega) (by rw [Int.fmod_eq_emod_of_nonneg i (by omega)]; exact q)
theorem op_pow : OpR X (binaryOp .Pow) (rI CPow fun i j => .int (i ^ j.toNat)) := opI fun _ _ _ _ _ _ _ hc q => pow_int_small hc.1 hc.2.1 hc.2.2 q
theorem iop_sub : OpR X (inplaceOp .Sub) (rI0 fun i j => .int (i - j)) := opI0 fun _ _ _ _ _ _ _ q => isub_int q
theorem unI {f : Value → Sem Value} {g : Int → Int}
  (rule : ∀ (i : Int) (t : Tok) (s : Shared) (Q : Value → Shared → Prop) (E : Value → Shared → Prop), Q (.int (g i) s.toks) { s with toks := s.toks + 1 } → wpAny (model X.prog X.w) X.A (f (.int i t)) Q E s) :
  UnR X f (rU fun i => .int (g i)) := by
 intro pins s σ H x v Q I rx h
 obtain ⟨i, rfl, q⟩ := h
 obtain ⟨t, rfl⟩ := rx
 exact rule i t s _ _ ⟨.int (g i), H, I.tok _, ⟨_, rfl⟩, q⟩
theorem un_neg : UnR X (unaryOp .USub) (rU fun i => .int (-i)) := unI fun _ _ _ _ _ q => neg_int q
end
def scal : V → V → Bool
 | .non, .non => true | .non, .int _ => true | .int _, .non => true | .non, .bl _ => true | .bl _, .non => true | .non, .str _ => true | .str _, .non => true
 | .int _, .int _ => true | .bl _, .bl _ => true | .str _, .str _ => true | .byt _, .byt _ => true
 | .int _, .str _ => true | .str _, .int _ => true | .bl _, .str _ => true | .str _, .bl _ => true
 | _, _ => false
def rEq : R2 := fun x y H Q => scal x y = true ∧ Q (.bl (decide (x = y))) H
def rNe : R2 := fun x y H Q => scal x y = true ∧ Q (.bl (!decide (x = y))) H
theorem dec_int {i j : Int} : decide (V.int i = V.int j) = (i == j) := by
 rw [Bool.eq_iff_iff]
 simp
theorem dec_bl {i j : Bool} : decide (V.bl i = V.bl j) = (i == j) := by
 rw [Bool.eq_iff_iff]
 simp
theorem dec_str {i j : Str} : decide (V.str i = V.str j) = (i == j) := by
 rw [Bool.eq_iff_iff]
 simp
theorem dec_byt {i j : Array UInt8} : decide (V.byt i = V.byt j) = (i.toList == j.toList) := by
 rw [Bool.eq_iff_iff]
 cases i
 cases j
 simp
section
variable {X : Cx} {a b c : Expr} {ta tb tc : TE} {pos : Pos}
theorem fin_bl {pins : List (Addr × Obj)} {σ : St} {H : Hp} {s : Shared} {Q : VK} {k k' : Bool} (I : Inv X pins σ H s) (q : Q (.bl k) H) (e : k = k') : EP X pins σ Q (.bool k') s := by
 subst e
 exact ⟨.bl k, H, I, rfl, q⟩
theorem op_eq : OpR X (compareOp .Eq) rEq := by
 intro pins s σ H x y v u Q I rx ry h
 obtain ⟨hs, q⟩ := h
 cases x with
 | non =>
  cases rx
  cases y with
  | non => cases ry; exact PySem.EqNone.eq_none_none (fin_bl I q (by simp))
  | bl j => cases ry; exact PySem.EqNone.eq_none_bool (fin_bl I q (by simp))
  | int j => obtain ⟨t', rfl⟩ := ry; exact PySem.EqNone.eq_none_int (fin_bl I q (by simp))
  | str j => obtain ⟨t', rfl⟩ := ry; exact PySem.EqNone.eq_none_str (fin_bl I q (by simp))
  | _ => exact absurd (show false = true from hs) Bool.false_ne_true
 | bl i =>
  cases rx
  cases y with
  | non => cases ry; exact PySem.EqNone.eq_bool_none (fin_bl I q (by simp))
  | bl j => cases ry; exact eq_bool (fin_bl I q dec_bl)
  | str j => obtain ⟨t', rfl⟩ := ry; exact PySem.EqMixed.eq_bool_str (fin_bl I q (by simp))
  | _ => exact absurd (show false = true from hs) Bool.false_ne_true
 | int i =>
  obtain ⟨t, rfl⟩ := rx
  cases y with
  | non => cases ry; exact PySem.EqNone.eq_int_none (fin_bl I q (by simp))
  | int j => obtain ⟨t', rfl⟩ := ry; exact eq_int (fin_bl I q dec_int)
  | str j => obtain ⟨t', rfl⟩ := ry; exact PySem.EqMixed.eq_int_str (fin_bl I q (by simp))
  | _ => exact absurd (show false = true from hs) Bool.false_ne_true
 | str i =>
  obtain ⟨t, rfl⟩ := rx
  cases y with
  | non => cases ry; exact PySem.EqNone.eq_str_none (fin_bl I q (by simp))
  | bl j => cases ry; exact PySem.EqMixed.eq_str_bool (fin_bl I q (by simp))
  | int j => obtain ⟨t', rfl⟩ := ry; exact PySem.EqMixed.eq_str_int (fin_bl I q (by simp))
  | str j => obtain ⟨t', rfl⟩ := ry; exact eq_str (fin_bl I q dec_str)
  | _ => exact absurd (show false = true from hs) Bool.false_ne_true
 | byt i =>
  obtain ⟨t, rfl⟩ := rx
  cases y with
  | byt j => obtain ⟨t', rfl⟩ := ry; exact PySem.W.eq_bytes (fin_bl I q dec_byt)
  | _ => exact absurd (show false = true from hs) Bool.false_ne_true
 | _ => cases y <;> exact absurd (show false = true from hs) Bool.false_ne_true
theorem op_ne : OpR X (compareOp .NotEq) rNe := by
 intro pins s σ H x y v u Q I rx ry h
 obtain ⟨hs, q⟩ := h
 cases x with
 | non =>
  cases rx
  cases y with
  | non => cases ry; exact PySem.EqNone.ne_none_none (fin_bl I q (by simp))
  | bl j => cases ry; exact PySem.EqNone.ne_none_bool (fin_bl I q (by simp))
  | int j => obtain ⟨t', rfl⟩ := ry; exact PySem.EqNone.ne_none_int (fin_bl I q (by simp))
  | str j => obtain ⟨t', rfl⟩ := ry; exact PySem.EqNone.ne_none_str (fin_bl I q (by simp))
  | _ => exact absurd (show false = true from hs) Bool.false_ne_true
 | bl i =>
  cases rx
  cases y with
  | non => cases ry; exact PySem.EqNone.ne_bool_none (fin_bl I q (by simp))
  | bl j => cases ry; exact ne_bool (fin_bl I q (congrArg not dec_bl))
  | str j => obtain ⟨t', rfl⟩ := ry; exact PySem.EqMixed.ne_bool_str (fin_bl I q (by simp))
  | _ => exact absurd (show false = true from hs) Bool.false_ne_true
 | int i =>
  obtain ⟨t, rfl⟩ := rx
  cases y with
  | non => cases ry; exact PySem.EqNone.ne_int_none (fin_bl I q (by simp))
  | int j => obtain ⟨t', rfl⟩ := ry; exact ne_int (fin_bl I q (congrArg not dec_int))
  | str j => obtain ⟨t', rfl⟩ := ry; exact PySem.EqMixed.ne_int_str (fin_bl I q (by simp))
  | _ => exact absurd (show false = true from hs) Bool.false_ne_true
 | str i =>
  obtain ⟨t, rfl⟩ := rx
  cases y with
  | non => cases ry; exact PySem.EqNone.ne_str_none (fin_bl I q (by simp))
  | bl j => cases ry; exact PySem.EqMixed.ne_str_bool (fin_bl I q (by simp))
  | int j => obtain ⟨t', rfl⟩ := ry; exact PySem.EqMixed.ne_str_int (fin_bl I q (by simp))
  | str j => obtain ⟨t', rfl⟩ := ry; exact ne_str (fin_bl I q (congrArg not dec_str))
  | _ => exact absurd (show false = true from hs) Bool.false_ne_true
 | byt i =>
  obtain ⟨t, rfl⟩ := rx
  cases y with
  | byt j => obtain ⟨t', rfl⟩ := ry; exact PySem.W.ne_bytes (fin_bl I q (congrArg not dec_byt))
  | _ => exact absurd (show false = true from hs) Bool.false_ne_true
 | _ => cases y <;> exact absurd (show false = true from hs) Bool.false_ne_true
theorem op_lt : OpR X (compareOp .Lt) (rI0 fun i j => .bl (decide (i < j))) := opB0 fun _ _ _ _ _ _ _ q => lt_int q
theorem op_gt : OpR X (compareOp .Gt) (rI0 fun i j => .bl (decide (j < i))) := opB0 fun _ _ _ _ _ _ _ q => gt_int q
theorem op_ge : OpR X (compareOp .GtE) (rI0 fun i j => .bl (decide (j ≤ i))) := opB0 fun _ _ _ _ _ _ _ q => ge_int q
theorem op_isN : OpR X (compareOp .Is) (fun x y H Q => y = .non ∧ Q (.bl (decide (x = .non))) H) := by
 intro pins s σ H x y v u Q I rx ry h
 obtain ⟨rfl, q⟩ := h
 cases ry
 refine is_none_gen (fin_bl I q ?_)
 cases x <;> first
  | (cases rx; rfl)
  | (obtain ⟨t, rfl⟩ := rx; rfl)
theorem op_notN : OpR X (compareOp .IsNot) (fun x y H Q => y = .non ∧ Q (.bl (!decide (x = .non))) H) := by
 intro pins s σ H x y v u Q I rx ry h
 obtain ⟨rfl, q⟩ := h
 cases ry
 refine isnot_none_gen (fin_bl I q ?_)
 cases x <;> first
  | (cases rx; rfl)
  | (obtain ⟨t, rfl⟩ := rx; rfl)
theorem OpR.or {f : Value → Value → Sem Value} {r r' : R2} (h : OpR X f r) (h' : OpR X f r') : OpR X f (fun x y H Q => r x y H Q ∨ r' x y H Q) := by
 intro pins s σ H x y v u Q I rx ry q
 rcases q with q | q
 ·exact h pins s σ H x y v u Q I rx ry q
 ·exact h' pins s σ H x y v u Q I rx ry q
theorem nomark (b : Expr) {op : CmpOp} (h : op ≠ .In := by decide) (h2 : op ≠ .NotIn := by decide) : behindInMarks op b = false := by
 have e1 : (op == CmpOp.In) = false := by cases op <;> first | rfl | exact absurd rfl h
 have e2 : (op == CmpOp.NotIn) = false := by cases op <;> first | rfl | exact absurd rfl h2
 cases b <;> simp [behindInMarks, e1, e2]
theorem pe_cmpR {op : CmpOp} {r : R2} (ho : OpR X (compareOp op) r) (ha : PE X a ta) (hb : PE X b tb) (hm : behindInMarks op b = false) : PE X (.Compare a [op] [b] pos) (tOp r ta tb) := by
 refine .mk ?_
 intro pins s σ H Q I h
 exact wpAny_Compare1 (binT ha hb I h fun v u s2 x y H2 I2 rx ry q => ho pins s2 σ H2 x y v u Q I2 rx ry q) hm
def tTest (t : TE) : TT := fun σ H Q => t σ H fun x H' => ∃ k, x = .bl k ∧ Q k H'
theorem pt_cmpR {op : CmpOp} {r : R2} (ho : OpR X (compareOp op) r) (ha : PE X a ta) (hb : PE X b tb) (hm : behindInMarks op b = false) : PT X (.Compare a [op] [b] pos) (tTest (tOp r ta tb)) := by
 refine .mk ?_
 intro pins s σ H Q I h
 refine wpAny_isTrue_Compare1 (thn (ha pins s σ H _ I h) fun v s1 ⟨x, H1, I1, r1, q1⟩ => thn (hb pins s1 σ H1 _ I1 q1) fun u s2 ⟨y, H2, I2, r2, q2⟩ =>
  thn (ho pins s2 σ H2 x y v u _ I2 r1 r2 q2) fun c s3 ⟨z, H3, I3, r3, k, e, q3⟩ => ?_) hm
 subst e
 cases r3
 exact wpAny_truthy_bool ⟨H3, I3, q3⟩
theorem line63 : (sizeLine : Nat) < 2 ^ 63 := by rw [sizeLine_eq]; decide
theorem vals1 {x : V} {us : List Value} (r : Vals [x] us) : ∃ u, us = [u] ∧ RelV x u := by
 cases r with
 | cons r1 r2 => cases r2; exact ⟨_, rfl, r1⟩
theorem vals2 {x y : V} {us : List Value} (r : Vals [x, y] us) : ∃ u w', us = [u, w'] ∧ RelV x u ∧ RelV y w' := by
 cases r with
 | cons r1 r2 =>
  cases r2 with
  | cons r3 r4 => cases r4; exact ⟨_, _, rfl, r1, r3⟩
theorem call_max2 (hc : X.calm = true) : CallR X (.builtin "max") (fun xs H Q => ∃ i j, xs = [.int i, .int j] ∧ Q (.int (if j > i then j else i)) H) := by
 intro pins s σ H xs us Q I r h
 obtain ⟨i, j, rfl, q⟩ := h
 obtain ⟨u, w', rfl, ⟨t, rfl⟩, ⟨t', rfl⟩⟩ := vals2 r
 refine max_two_ints (I.ok.hd hc) fun h' tk k => ⟨_, H, I.kept k, ?_, q⟩
 by_cases hj : j > i
 ·rw [if_pos hj, if_pos hj]; exact ⟨_, rfl⟩
 ·rw [if_neg hj, if_neg hj]; exact ⟨_, rfl⟩
theorem call_min2 (hc : X.calm = true) : CallR X (.builtin "min") (fun xs H Q => ∃ i j, xs = [.int i, .int j] ∧ Q (.int (if j < i then j else i)) H) := by
 intro pins s σ H xs us Q I r h
 obtain ⟨i, j, rfl, q⟩ := h
 obtain ⟨u, w', rfl, ⟨t, rfl⟩, ⟨t', rfl⟩⟩ := vals2 r
 refine min_two_ints (I.ok.hd hc) fun h' tk k => ⟨_, H, I.kept k, ?_, q⟩
 by_cases hj : j < i
 ·rw [if_pos hj, if_pos hj]; exact ⟨_, rfl⟩
 ·rw [if_neg hj, if_neg hj]; exact ⟨_, rfl⟩
end
end L2
namespace L2
open PySem PySem.Spec PyProof.Rows
structure ObjM (h : Heap) (x dx C : Addr) (mA : Str → Option Value) : Prop where
 obj : h.get? x = some (PySem.W.instObj C dx)
 ns : h.Ns1 dx mA
 ne : dx ≠ x
theorem lookIn_ns {h : Heap} {dx : Addr} {mA : Str → Option Value} (n : h.Ns1 dx mA) : ∃ od, h.get? dx = some od ∧ ∀ name, PySem.W.lookIn name od = some (mA name) := by
 obtain ⟨o, es, ep, ho, hd, hk, _, hm⟩ := n
 refine ⟨o, ho, fun name => ?_⟩
 have e := hm name
 unfold nsFind findBy at e
 rw [← Array.find?_toList] at e
 unfold PySem.W.lookIn
 rw [hd]
 dsimp only
 split
 ·rename_i y q
  rw [q] at e
  exact congrArg some e
 ·rename_i q
  rw [q] at e
  have a : es.toList.any (·.refKey) = false := by
   rw [List.any_eq_false]
   intro y hy
   obtain ⟨z, t, hkey⟩ := hk y (Array.mem_toList_iff.mp hy)
   simp [DictEntry.refKey, hkey]
  have a' : ¬ es.toList.any (·.refKey) = true := by rw [a]; exact Bool.false_ne_true
  rw [if_neg a']
  exact congrArg some e
theorem ObjM.look {h : Heap} {x dx C : Addr} {mA : Str → Option Value} (I : ObjM h x dx C mA) : ∃ od, PySem.W.InstAt h x (PySem.W.instObj C dx) C (some od) ∧ ∀ name, PySem.W.lookIn name od = some (mA name) :=
 let ⟨od, ho, hl⟩ := lookIn_ns I.ns
 ⟨od, ⟨I.obj, rfl, rfl, ho⟩, hl⟩
section
variable {prog : Program} {w : World} {A : Around} {E : Value → Shared → Prop} {s : Shared} {K : PySem.W.Frag} {x dx C f : Addr} {mA : Str → Option Value} {name : Str} {v : Value}
theorem get_map {expr : Bool} {Q : Value → Shared → Prop} (X : K.In s.heap) (I : ObjM s.heap x dx C mA) (hg : PySem.W.plainGet K C name = true) (hh : PySem.W.hasDictIn K C = true)
  (ha : PySem.W.findIn K (.ref C) name = some none) (hv : mA name = some v) (hv' : PySem.W.handedIn v = true) (h : Q v { s with toks := s.toks + 1 }) :
  wpAny (model prog w) A (getAttr (.ref x) name expr) Q E s := by
 obtain ⟨od, J, hl⟩ := I.look
 exact PySem.W.get_value X J (PySem.W.plainGet_of hg).1 (PySem.W.findObj_own hh ha rfl (by rw [hl, hv])) hv' h
theorem get_meth {pl : Sem Bool} {Q : Value × List Value → Shared → Prop} (X : K.In s.heap) (I : ObjM s.heap x dx C mA) (hg : PySem.W.plainGet K C name = true)
  (hf : PySem.W.findIn K (.ref C) name = some (some (.ref f))) (ht : PySem.W.isFn K (.ref f) = true) (hv : mA name = none) (h : Q (.ref f, [.ref x]) s) :
  wpAny (model prog w) A (getMethod (.ref x) name pl) Q E s := by
 obtain ⟨od, J, hl⟩ := I.look
 exact PySem.W.method_fn X J (PySem.W.plainGet_of hg).1 (PySem.W.plainGet_of hg).2 hf (beq_iff_eq.mp ht) (by show (PySem.W.lookIn name od).map (·.isSome) = some false; rw [hl, hv]; rfl) h
theorem set_map {ns : List Str} {Q : Unit → Shared → Prop} (X : K.In s.heap) (I : ObjM s.heap x dx C mA)
  (hs : PySem.W.findIn K (.ref C) "__setattr__" = some (some (.builtin "object.__setattr__"))) (hp : PySem.W.plainOver K C = true) (ht : PySem.W.takerIn K C name = some none) (hh : PySem.W.hasDictIn K C = true)
  (hw : PySem.Within mA ns) (hsz : ns.length ≤ sizeLine)
  (h : ∀ h', ObjM h' x dx C (fun y => if y = name then some v else mA y) → Heap.SameBut dx s.heap h' → Q () { s with heap := h', toks := s.toks + 2 }) :
  wpAny (model prog w) A (setAttr (.ref x) name v) Q E s := by
 obtain ⟨od, J, hl⟩ := I.look
 refine PySem.W.set_plain X J hs (PySem.W.osa_open (s := { s with toks := s.toks + 1 }) (r := none) X J hp ht fun b => ?_)
 obtain ⟨cd, hc, hd'⟩ := PySem.W.any_some hh
 have hx : s.heap.get? x = some ⟨.ref C, some dx, .plain, #[]⟩ := I.obj
 refine wpAny_bind (wpAny_pure (wpAny_bind (wpAny_bind (wpAny_loadPart hx (wpAny_bind (PySem.W.Looks.here (s := { s with toks := s.toks + 1 }) (PySem.W.looks_clsIn X hc) ?_))))))
 rw [hd']
 refine wpAny_pure (a := some dx) (wpAny_bind (wpAny_pure (wpAny_bind ?_)))
 refine wpAny_nsSet1 (s := { s with toks := s.toks + 1 }) I.ns fun h' hn2 hs2 => ?_
 obtain ⟨oD, esD, epD, hoD, hdD, hcD⟩ := hn2.count (PySem.Within.cons name v hw)
 refine wpAny_bind (wpAny_lookBehind hoD (by rw [hdD]; exact pastItsLine_dict (Nat.le_trans hcD (by rw [List.length_cons]; omega))) ?_)
 exact wpAny_pure (h _ ⟨(hs2.2 _ (Ne.symm I.ne)).trans I.obj, hn2, I.ne⟩ hs2)
theorem make_map {R : Result → Shared → Prop} {vs : List Value} {kw : List (Str × Value)} (X : K.In s.heap) (hm : PySem.W.makesIn K C = true)
  (hi : PySem.W.findIn K (.ref C) "__init__" = some (some (.ref f))) (hf : PySem.W.typeIn K (.ref f) = some (.type "function"))
  (h : codeAny (model prog w) (A.under (.builtin "type.__call__" ⟨.ref C :: vs, kw⟩)) (.call (.ref f) ⟨.ref (s.heap.objs.size + 1) :: vs, kw⟩) (PySem.W.InitBack (s.heap.objs.size + 1) R)
   { s with heap := (s.heap.push PySem.W.emptyDict).push (PySem.W.instObj C s.heap.objs.size) }) :
  codeAny (model prog w) A (.call (.ref C) ⟨vs, kw⟩) R s := by
 obtain ⟨hh, g, d, t, os⟩ := s
 exact PySem.W.make_core (PySem.W.makes_of X hm) (PySem.W.looks_findIn X hi) (fun self => PySem.W.bind_fn X self hf) (.inl rfl) h
end
def putF (f : Str) (v : V) : List (Str × V) → List (Str × V)
 | [] => [(f, v)]
 | (g, x) :: r => if g = f then (g, v) :: r else (g, x) :: putF f v r
theorem lookup_putF (f g : Str) (v : V) : ∀ fs : List (Str × V), (putF f v fs).lookup g = if g = f then some v else fs.lookup g
 | [] => by
  show List.lookup g [(f, v)] = _
  by_cases h : g = f
  ·have hb : (g == f) = true := beq_iff_eq.mpr h
   simp only [List.lookup, hb, if_pos h]
  ·have hb : (g == f) = false := beq_eq_false_iff_ne.mpr h
   simp only [List.lookup, hb, if_neg h]
 | (k, x) :: r => by
  have ih := lookup_putF f g v r
  rw [show putF f v ((k, x) :: r) = (if k = f then (k, v) :: r else (k, x) :: putF f v r) from rfl]
  by_cases hk : k = f
  ·rw [if_pos hk]
   by_cases h : g = k
   ·have hb : (g == k) = true := beq_iff_eq.mpr h
    simp only [List.lookup, hb, if_pos (h.trans hk)]
   ·have hb : (g == k) = false := beq_eq_false_iff_ne.mpr h
    simp only [List.lookup, hb, if_neg (fun e : g = f => h (e.trans hk.symm))]
  ·rw [if_neg hk]
   by_cases h : g = k
   ·have hb : (g == k) = true := beq_iff_eq.mpr h
    simp only [List.lookup, hb, if_neg (fun e : g = f => hk (h.symm.trans e))]
   ·have hb : (g == k) = false := beq_eq_false_iff_ne.mpr h
    simp only [List.lookup, hb]
    exact ih
theorem keys_putF (f : Str) (v : V) : ∀ fs : List (Str × V), f ∈ (putF f v fs).map (·.1) ∧ ∀ g, g ∈ fs.map (·.1) → g ∈ (putF f v fs).map (·.1)
 | [] => ⟨by simp [putF], fun g h => by simp at h⟩
 | (k, x) :: r => by
  obtain ⟨i1, i2⟩ := keys_putF f v r
  rw [show putF f v ((k, x) :: r) = (if k = f then (k, v) :: r else (k, x) :: putF f v r) from rfl]
  by_cases hk : k = f
  ·rw [if_pos hk]
   subst hk
   exact ⟨by simp, fun g h => by simpa using h⟩
  ·rw [if_neg hk]
   refine ⟨?_, fun g h => ?_⟩
   ·rw [List.map_cons]
    exact List.mem_cons_of_mem _ i1
   ·rw [List.map_cons] at h ⊢
    rcases List.mem_cons.mp h with e | e
    ·exact List.mem_cons.mpr (.inl e)
    ·exact List.mem_cons_of_mem _ (i2 g e)
theorem length_putF (f : Str) (v : V) : ∀ fs : List (Str × V), (putF f v fs).length ≤ fs.length + 1
 | [] => by simp [putF]
 | (k, x) :: r => by
  have ih := length_putF f v r
  rw [show putF f v ((k, x) :: r) = (if k = f then (k, v) :: r else (k, x) :: putF f v r) from rfl]
  by_cases hk : k = f
  ·rw [if_pos hk, List.length_cons, List.length_cons]; omega
  ·rw [if_neg hk, List.length_cons, List.length_cons]; omega
theorem RelO.some_of {v : V} {o : Option Value} (r : RelO (some v) o) : ∃ u, o = some u ∧ RelV v u := by
 cases o with
 | none => exact (show False from r).elim
 | some u => exact ⟨u, rfl, r⟩
theorem RelO.none_of {o : Option Value} (r : RelO none o) : o = none := by
 cases o with
 | none => rfl
 | some u => exact (show False from r).elim
theorem handed_of {v : V} {u : Value} (r : RelV v u) : PySem.W.handedIn u = true := by
 cases v with
 | non => cases (show u = Value.none from r); rfl
 | bl b => cases (show u = Value.bool b from r); rfl
 | int i => obtain ⟨t, e⟩ := (show ∃ t, u = Value.int i t from r); cases e; rfl
 | str x => obtain ⟨t, e⟩ := (show ∃ t, u = Value.str x t from r); cases e; rfl
 | byt b => obtain ⟨t, e⟩ := (show ∃ t, u = Value.bytes b t from r); cases e; rfl
 | flt b => obtain ⟨t, e⟩ := (show ∃ t, u = Value.float b t from r); cases e; rfl
 | ref a => cases (show u = Value.ref a from r); rfl
 | ty n => cases (show u = Value.type n from r); rfl
section
variable {P : Program} {w : World} {H H' : Hp} {h h' : Heap} {a C dx : Addr} {fs fs' : List (Str × V)}
theorem ins_get (hok : HOk P w H h) (e : H a = some (.ins C dx fs)) : ∃ mA, ObjM h a dx C mA ∧ (∀ f, RelO (fs.lookup f) (mA f)) ∧ PySem.Within mA (fs.map (·.1)) ∧ fs.length ≤ 1000 ∧ H dx = some (.own a) := by
 obtain ⟨d, z, ne, ob, mA, n, r, q⟩ := (show ObjOk P w H h a (.ins C dx fs) from hok a _ e)
 exact ⟨mA, ⟨ob, n, ne⟩, r, q, z, d⟩
end
structure Cls (K : PySem.W.Frag) (C : Addr) : Prop where
 pg : PySem.W.plainGet K C Str.empty = true
 hd : PySem.W.hasDictIn K C = true
 po : PySem.W.plainOver K C = true
 sa : PySem.W.findIn K (.ref C) "__setattr__" = some (some (.builtin "object.__setattr__"))
theorem Cls.get {K : PySem.W.Frag} {C : Addr} (c : Cls K C) (f : Str) : PySem.W.plainGet K C f = true := c.pg
def NoAttr (K : PySem.W.Frag) (C : Addr) (f : Str) : Prop := PySem.W.findIn K (.ref C) f = some none
theorem NoAttr.taker {K : PySem.W.Frag} {C : Addr} {f : Str} (n : NoAttr K C f) : PySem.W.takerIn K C f = some none := by
 unfold PySem.W.takerIn
 rw [show PySem.W.findIn K (.ref C) f = some none from n]
 rfl
structure Meth (K : PySem.W.Frag) (C : Addr) (m : Str) (f : Addr) : Prop where
 at_ : PySem.W.findIn K (.ref C) m = some (some (.ref f))
 fn : PySem.W.isFn K (.ref f) = true
 kp : PySem.W.keepIn K (.ref f) = true
section
variable {X : Cx} {pins : List (Addr × Obj)} {σ : St} {H : Hp} {s : Shared} {a C dx : Addr} {fs : List (Str × V)} {f : Str} {v : V} {A : Around} {E : Value → Shared → Prop}
theorem getattr_ok {b : Bool} {Q : Value → Shared → Prop} (I : Inv X pins σ H s) (e : H a = some (.ins C dx fs)) (c : Cls X.K C) (n : NoAttr X.K C f) (l : fs.lookup f = some v)
  (h : ∀ u s', Inv X pins σ H s' → RelV v u → Q u s') : wpAny (model X.prog X.w) A (getAttr (.ref a) f b) Q E s := by
 obtain ⟨mA, O, r, _, _, _⟩ := ins_get I.hok e
 obtain ⟨u, hu, ru⟩ := RelO.some_of (v := v) (o := mA f) (by rw [← l]; exact r f)
 exact get_map I.kIn O (c.get f) c.hd n hu (handed_of ru) (h u _ (I.tok _) ru)
theorem getmeth_ok {m : Str} {g : Addr} {pl : Sem Bool} {Q : Value × List Value → Shared → Prop} (I : Inv X pins σ H s) (e : H a = some (.ins C dx fs)) (c : Cls X.K C) (k : Meth X.K C m g) (l : fs.lookup m = none)
  (h : Q (.ref g, [.ref a]) s) : wpAny (model X.prog X.w) A (getMethod (.ref a) m pl) Q E s := by
 obtain ⟨mA, O, r, _, _, _⟩ := ins_get I.hok e
 have hn : mA m = none := RelO.none_of (by rw [← l]; exact r m)
 exact get_meth I.kIn O (c.get m) k.at_ k.fn hn h
theorem setattr_ok {y : V} {u : Value} {Q : Unit → Shared → Prop} (I : Inv X pins σ H s) (e : H a = some (.ins C dx fs)) (c : Cls X.K C) (n : NoAttr X.K C f) (hl : fs.length < 1000) (ry : RelV y u)
  (h : ∀ s', Inv X pins σ (upd H a (.ins C dx (putF f y fs))) s' → Q () s') : wpAny (model X.prog X.w) A (setAttr (.ref a) f u) Q E s := by
 obtain ⟨mA, O, r, wi, _, ho⟩ := ins_get I.hok e
 have hz : (fs.map (·.1)).length ≤ sizeLine := by rw [List.length_map, sizeLine_eq]; omega
 refine set_map I.kIn O c.sa c.po n.taker c.hd wi hz fun h' O' sb => h _ ?_
 have hd : ∃ o, h'.get? dx = some o := let ⟨o, _, _, e', _⟩ := O'.ns; ⟨o, e'⟩
 refine I.write (x := a) (e := dx) (by rw [e]; exact True.intro) (.inr ho) (fun b q hb z => (sb.2 b hb).trans z) hd ?_
 refine ⟨by rw [upd_ne O.ne]; exact ho, ?_, O.ne, O'.obj, _, O'.ns, fun g => ?_, fun g hg => ?_⟩
 ·have := length_putF f y fs; omega
 ·show RelO ((putF f y fs).lookup g) (if g = f then some u else mA g)
  rw [lookup_putF]
  by_cases q : g = f
  ·rw [if_pos q, if_pos q]; exact ry
  ·rw [if_neg q, if_neg q]; exact r g
 ·by_cases q : g = f
  ·rw [q]; exact (keys_putF f y fs).1
  ·refine (keys_putF f y fs).2 g (wi g fun z => hg ?_)
   show (if g = f then some u else mA g) = none
   rw [if_neg q]; exact z
theorem Inv.made (I : Inv X pins σ H s) : Inv X pins σ (upd (upd H s.heap.objs.size (.own (s.heap.objs.size + 1))) (s.heap.objs.size + 1) (.ins C s.heap.objs.size []))
  { s with heap := (s.heap.push PySem.W.emptyDict).push (PySem.W.instObj C s.heap.objs.size) } := by
 have e1 : (s.heap.push PySem.W.emptyDict).get? s.heap.objs.size = some PySem.W.emptyDict := Heap.get?_push_size s.heap rfl
 have e2 : ((s.heap.push PySem.W.emptyDict).push (PySem.W.instObj C s.heap.objs.size)).get? (s.heap.objs.size + 1) = some (PySem.W.instObj C s.heap.objs.size) := by
  have := Heap.get?_push_size (s.heap.push PySem.W.emptyDict) (o := PySem.W.instObj C s.heap.objs.size) rfl
  rwa [Heap.size_push] at this
 have e3 : (s.heap.push PySem.W.emptyDict).Ns s.heap.objs.size (fun _ => none) := ⟨PySem.W.emptyDict, #[], _, e1, rfl, (fun e he => absurd he (by simp)), fun _ => rfl⟩
 have I1 := I.laid (a := s.heap.objs.size) (o := .own (s.heap.objs.size + 1)) (h' := s.heap.push PySem.W.emptyDict) (t' := s.toks) (fun b u q => Heap.get?_push_of_some _ q) (Nat.le_refl _) ⟨_, e1⟩
 refine I1.laid (a := s.heap.objs.size + 1) (o := .ins C s.heap.objs.size []) (t' := s.toks) (fun b u q => Heap.get?_push_of_some _ q) (Nat.le_of_eq (Heap.size_push _ _)) ?_
 have ne : s.heap.objs.size ≠ s.heap.objs.size + 1 := Nat.ne_of_lt (Nat.lt_succ_self _)
 refine ⟨by rw [upd_ne ne, upd_same], Nat.zero_le _, ne, e2, fun _ => none, (Heap.Ns1.of_empty e3).at fun o q => Heap.get?_push_of_some _ q, fun _ => True.intro, fun y hy => absurd rfl hy⟩
theorem attr_of {prog : Program} {w : World} {env : Env} {e : Expr} {f : Str} {pos : Pos} {s : Shared} {Q : Value → Shared → Prop} (hb : attributeBase e f env (eval e env) = eval e env)
  (h : wpAny (model prog w) A (eval e env) (fun o s₁ => wpAny (model prog w) A (getAttr o f true) Q E s₁) E s) : wpAny (model prog w) A (eval (.Attribute e f pos) env) Q E s :=
 Attribute_any_ h (by rw [arm_eval_Attribute, hb])
end
def tFld (K : PySem.W.Frag) (ta : TE) (f : Str) : TE := fun σ H Q => ta σ H fun x H1 => ∃ a C dx fs v, x = .ref a ∧ H1 a = some (.ins C dx fs) ∧ Cls K C ∧ NoAttr K C f ∧ fs.lookup f = some v ∧ Q v H1
def sFld (K : PySem.W.Frag) (ta tv : TE) (f : Str) : TS := fun D σ H => tv σ H fun y H1 => ta σ H1 fun x H2 => ∃ a C dx fs, x = .ref a ∧ H2 a = some (.ins C dx fs) ∧ Cls K C ∧ NoAttr K C f ∧ fs.length < 1000 ∧
 D.nx σ (upd H2 a (.ins C dx (putF f y fs)))
section
variable {X : Cx} {o e value : Expr} {f : Str} {pos pos' tpos : Pos} {ta tv : TE}
theorem pe_fld (he : PE X e ta) (hb : attributeBase e f X.env (eval e X.env) = eval e X.env) : PE X (.Attribute e f pos) (tFld X.K ta f) := by
 refine .mk ?_
 intro pins s σ H Q I h
 refine attr_of hb (thn (he pins s σ H _ I h) fun u s1 ⟨x, H1, I1, rx, a, C, dx, fs, v, ex, ea, c, n, l, q⟩ => ?_)
 subst ex
 obtain rfl : u = Value.ref a := rx
 exact getattr_ok I1 ea c n l fun u' s2 I2 ru => ⟨v, H1, I2, ru, q⟩
theorem ps_fld (ha : PE X o ta) (hv : PE X value tv) (hs : swapsWith value (some (.Attribute o f pos')) pos.line X.env = pure false) : PS X (.Assign [.Attribute o f pos'] value pos) (sFld X.K ta tv f) := by
 refine .mk ?_
 intro pins s σ H D I h
 refine plainObj_wpAny_Assign_Attribute (thn (hv pins s σ H _ I h) fun u s1 ⟨y, H1, I1, ry, q⟩ => thn (ha pins s1 σ H1 _ I1 q) fun ov s2 ⟨x, H2, I2, rx, a, C, dx, fs, ex, ea, c, n, l, q2⟩ => ?_) hs
 subst ex
 obtain rfl : ov = Value.ref a := rx
 exact setattr_ok I2 ea c n l ry fun s3 I3 => ⟨σ, _, I3, q2⟩
end
section
variable {X : Cx} {pins : List (Addr × Obj)} {σ : St} {H : Hp} {s : Shared} {A : Around} {E : Value → Shared → Prop} {Q : Value → Shared → Prop} {c : Value} {b : Bool}
inductive TyOf (K : PySem.W.Frag) (H : Hp) : V → Value → Prop where
 | non : TyOf K H .non (.type "NoneType")
 | bl (x : Bool) : TyOf K H (.bl x) (.type "bool")
 | int (i : Int) : TyOf K H (.int i) (.type "int")
 | str (x : Str) : TyOf K H (.str x) (.type "str")
 | flt (x : UInt64) : TyOf K H (.flt x) (.type "float")
 | lst {a : Addr} {xs : List V} (e : H a = some (.lst xs)) : TyOf K H (.ref a) (.type "list")
 | frz {a : Addr} {o : Obj} {xs : List V} (e : H a = some (.frz o (.lst xs))) : TyOf K H (.ref a) (.type "list")
 | tup {a : Addr} {xs : List V} (e : H a = some (.tup xs)) : TyOf K H (.ref a) (.type "tuple")
 | dK {a : Addr} {kvs : List (Key × V)} (e : H a = some (.dK kvs)) : TyOf K H (.ref a) (.type "dict")
 | dT {a : Addr} {kvs : List (List Key × V)} (e : H a = some (.dT kvs)) : TyOf K H (.ref a) (.type "dict")
 | ins {a C dx : Addr} {fs : List (Str × V)} (e : H a = some (.ins C dx fs)) (cl : Cls K C) (ha : PySem.W.findIn K (.ref C) "__class__" = some (some (.builtin "object.__class__")))
   (hn : PySem.W.specialIn K (.builtin "object.__class__") "__get__" = some (some (.builtin "getset_descriptor.__get__"))) (htk : PySem.W.takesIn K (.builtin "object.__class__") = some true)
   (hm : PySem.W.mroIn K C (.type "object") = some true) : TyOf K H (.ref a) (.ref C)
theorem isinst_ok {x : V} {u t : Value} (I : Inv X pins σ H s) (rx : RelV x u) (ty : TyOf X.K H x t) (e : PySem.W.kitOne X.K t c = some b) (h : ∀ tk, Q (.bool b) { s with toks := tk }) :
  wpAny (model X.prog X.w) A (call (.builtin "isinstance") [u, c]) Q E s := by
 cases ty with
 | non => cases (show u = Value.none from rx); exact PySem.W.kia_one PySem.W.kitx_none I.kIn True.intro e (fun z => nomatch z) h
 | bl y => cases (show u = Value.bool y from rx); exact PySem.W.kia_one PySem.W.kitx_bool I.kIn True.intro e (fun z => nomatch z) h
 | int i => obtain ⟨t, q⟩ := (show ∃ t, u = Value.int i t from rx); cases q; exact PySem.W.kia_one PySem.W.kitx_int I.kIn True.intro e (fun z => nomatch z) h
 | str y => obtain ⟨t, q⟩ := (show ∃ t, u = Value.str y t from rx); cases q; exact PySem.W.kia_one PySem.W.kitx_str I.kIn True.intro e (fun z => nomatch z) h
 | flt y => obtain ⟨t, q⟩ := (show ∃ t, u = Value.float y t from rx); cases q; exact PySem.W.kia_one PySem.W.kitx_float I.kIn True.intro e (fun z => nomatch z) h
 | @lst a xs ea =>
  cases (show u = Value.ref a from rx)
  obtain ⟨_, _, n, _, h1⟩ := (show ObjOk X.prog X.w H s.heap a (.lst xs) from I.hok a _ ea)
  exact PySem.W.kia_one PySem.W.kitx_list I.kIn ⟨_, h1, rfl⟩ e (fun z => nomatch z) h
 | @frz a ob xs ea =>
  cases (show u = Value.ref a from rx)
  obtain ⟨_, _, _, n, _, h1⟩ := (show ObjOk X.prog X.w H s.heap a (.frz ob (.lst xs)) from I.hok a _ ea)
  exact PySem.W.kia_one PySem.W.kitx_list I.kIn ⟨_, h1, rfl⟩ e (fun z => nomatch z) h
 | @tup a xs ea =>
  cases (show u = Value.ref a from rx)
  obtain ⟨_, _, _, p⟩ := (show ObjOk X.prog X.w H s.heap a (.tup xs) from I.hok a _ ea)
  obtain ⟨o, h1, h2, _⟩ := p
  exact PySem.W.kia_one PySem.W.kitx_tuple I.kIn ⟨o, h1, h2⟩ e (fun z => nomatch z) h
 | @dK a kvs ea =>
  cases (show u = Value.ref a from rx)
  obtain ⟨_, _, vs, _, p⟩ := (show ObjOk X.prog X.w H s.heap a (.dK kvs) from I.hok a _ ea)
  obtain ⟨o, es, ep, h1, h2, _⟩ := p
  exact PySem.W.kia_one PySem.W.kitx_dict I.kIn ⟨o, h1, h2.1⟩ e (fun z => nomatch z) h
 | @dT a kvs ea =>
  cases (show u = Value.ref a from rx)
  obtain ⟨_, _, xs, _, o, es, ep, h1, h2, _⟩ := (show ObjOk X.prog X.w H s.heap a (.dT kvs) from I.hok a _ ea)
  exact PySem.W.kia_one PySem.W.kitx_dict I.kIn ⟨o, h1, h2.1⟩ e (fun z => nomatch z) h
 | @ins a C dx fs ea cl ha hn htk hm =>
  cases (show u = Value.ref a from rx)
  obtain ⟨mA, O, _⟩ := ins_get I.hok ea
  obtain ⟨od, J, _⟩ := O.look
  exact PySem.W.kia_one (PySem.W.kitx_own (cl.get _) cl.hd ha hn htk hm) I.kIn J e (fun z => nomatch z) h
end
end L2
namespace L2
open PySem PySem.Spec PyProof.Rows
structure Room (k : Nat) (A : Around) : Prop where
 hd : A.handled = none
 dp : A.depth + 3 * k + 5 < recursionLimit
 un : A.units + 16 * k + 200 < cLine
theorem Room.mono {j k : Nat} {A : Around} (r : Room k A) (h : j ≤ k) : Room j A := ⟨r.hd, by have := r.dp; omega, by have := r.un; omega⟩
theorem Room.deeper {k : Nat} {A : Around} (r : Room (k + 1) A) (env : Env) : Room k (A.deeper env) :=
 ⟨r.hd, by have := r.dp; show A.depth + 1 + 3 * k + 5 < _; omega, by have := r.un; show A.units + 3 + 16 * k + 200 < _; omega⟩
theorem Room.in1 {k : Nat} {A : Around} (r : Room (k + 1) A) : Room k A.in1 :=
 ⟨r.hd, by have := r.dp; show A.depth + 3 * k + 5 < _; omega, by have := r.un; show A.units + 1 + 16 * k + 200 < _; omega⟩
theorem make_depth {A : Around} {C : Addr} {us : List Value} {kw : List (Str × Value)} : (A.under (.builtin "type.__call__" ⟨.ref C :: us, kw⟩)).depth = A.depth + 1 := by
 first | rfl | simp [Around.under, Code.weight, Code.isCreation, Code.isGuard, Code.isCaller, Code.frames, Code.isFrame, guardIds]
theorem make_units {A : Around} {C : Addr} {us : List Value} {kw : List (Str × Value)} : (A.under (.builtin "type.__call__" ⟨.ref C :: us, kw⟩)).units = A.units + 1 := by
 first | rfl | simp [Around.under, Code.cUnits, Code.frames, Code.isFrame]
theorem Room.make {k : Nat} {A : Around} (r : Room (k + 1) A) (C : Addr) (us : List Value) (kw : List (Str × Value)) : Room k (A.under (.builtin "type.__call__" ⟨.ref C :: us, kw⟩)) :=
 ⟨r.hd, by have := r.dp; rw [make_depth]; omega, by have := r.un; rw [make_units]; omega⟩
theorem Room.depth {k : Nat} {A : Around} (r : Room k A) : A.depth < recursionLimit := by have := r.dp; omega
theorem Room.units {k : Nat} {A : Around} (r : Room k A) : A.units + 64 < cLine := by have := r.un; omega
theorem Room.units0 {k : Nat} {A : Around} (r : Room k A) : A.units < cLine := by have := r.un; omega
def tNil : TA := fun _ H Q => Q [] H
def tCons (ta : TE) (tr : TA) : TA := fun σ H Q => ta σ H fun x H1 => tr σ H1 fun xs H2 => Q (x :: xs) H2
section
variable {X : Cx} {e : Expr} {es : List Expr} {te : TE} {t : TA} {pos : Pos}
theorem pa_nil : PA X [] tNil := .mk fun _ _ _ _ H Q I h => Calls.spliced_nil ⟨[], H, I, .nil, h⟩
theorem pa_cons (ha : PE X e te) (hr : PA X es t) (hs : starEach (e :: es) X.env = (false, eval e X.env) :: starEach es X.env := by rfl) : PA X (e :: es) (tCons te t) := by
 refine .mk ?_
 intro pos pins s σ H Q I h
 rw [hs]
 show wpAny _ _ (spliced ((false, eval e X.env) :: backTo pos (starEach es X.env))) _ _ s
 refine Calls.spliced_cons (thn (ha pins s σ H _ I h) fun u s1 ⟨x, H1, I1, r1, q1⟩ => ?_)
 exact thn (hr pos pins s1 σ H1 _ I1 q1) fun us s2 ⟨xs, H2, I2, r2, q2⟩ => ⟨x :: xs, H2, I2, .cons r1 r2, q2⟩
def tTup (t : TA) : TE := fun σ H Q => t σ H fun xs H1 => xs.length ≤ sizeLine ∧ ∀ p, H1 p = none → Q (.ref p) (upd H1 p (.tup xs))
def tLst (t : TA) : TE := fun σ H Q => t σ H fun xs H1 => xs.length ≤ sizeLine ∧ ∀ p, H1 p = none → Q (.ref p) (upd H1 p (.lst xs))
theorem pe_tup {x1} (h : PA X es t) : PE X (.Tuple es x1 pos) (tTup t) := by
 refine .mk ?_
 intro pins s σ H Q I hq
 refine wpAny_Tuple_spliced (thn (h pos pins s σ H _ I hq) fun us s1 ⟨xs, H1, I1, r, z, q⟩ => ⟨by rw [← r.length]; exact z, ?_⟩)
 have hf : H1 s1.heap.objs.size = none := I1.hok.fresh (Nat.le_refl _)
 refine ⟨.ref s1.heap.objs.size, upd H1 s1.heap.objs.size (.tup xs), I1.laid (t' := s1.toks) (fun b u e => Heap.get?_push_of_some _ e) (Nat.le_refl _) ?_, rfl, q _ hf⟩
 exact ⟨z, us, r, ⟨_, Heap.get?_push_size _ rfl, rfl, _, rfl⟩⟩
theorem pe_lst (h : PA X es t) : PE X (.List es pos) (tLst t) := by
 refine .mk ?_
 intro pins s σ H Q I hq
 refine wpAny_List_spliced (thn (h pos pins s σ H _ I hq) fun us s1 ⟨xs, H1, I1, r, z, q⟩ => ⟨by rw [← r.length]; exact z, ?_⟩)
 have hf : H1 s1.heap.objs.size = none := I1.hok.fresh (Nat.le_refl _)
 refine ⟨.ref s1.heap.objs.size, upd H1 s1.heap.objs.size (.lst xs), I1.laid (t' := s1.toks) (fun b u e => Heap.get?_push_of_some _ e) (Nat.le_refl _) ?_, rfl, q _ hf⟩
 exact ⟨z, us, 0, r, Heap.get?_push_size _ rfl⟩
end
abbrev Sp := List V → Hp → VK → XK → Prop
abbrev CXT := List Env → Hp → Shared → XK → Value → Shared → Prop
structure Env0 (P : Program) (w : World) (K : PySem.W.Frag) (mg : Str → Option Value) (base : Heap) (A : Around) (outer : List Env) (s : Shared) (H : Hp) : Prop where
 frames : A.frames = some outer
 mod : Mod K mg base
 bs : ∀ b o, base.get? b = some o → s.heap.get? b = some o ∧ H b = none
 bsz : base.objs.size ≤ s.heap.objs.size
 funs : s.heap.FunFrames base outer
 frf : ∀ b ∈ frs outer, H b = none
 hok : HOk P w H s.heap
 bare : AllBare s.gens
def CE (outer : List Env) (P : Program) (w : World) (H : Hp) (s : Shared) (Q : VK) (u : Value) (s' : Shared) : Prop :=
 ∃ v H', s'.os = s.os ∧ AllBare s'.gens ∧ Un (frs outer) [] H H' s.heap s'.heap ∧ HOk P w H' s'.heap ∧ RelV v u ∧ Q v H'
def CR (CX : CXT) (outer : List Env) (P : Program) (w : World) (H : Hp) (s : Shared) (Q : VK) (E : XK) (r : Result) (s' : Shared) : Prop :=
 match r with
 | .ok (.ret u) => CE outer P w H s Q u s'
 | .ok _ => False
 | .error e => CX outer H s E e s'
structure FnOk (P : Program) (w : World) (K : PySem.W.Frag) (mg : Str → Option Value) (base : Heap) (CX : CXT) (k : Nat) (f : Addr) (fd : FuncData) (ps : List Str) (sp : Sp) : Prop where
 len : ∀ vs H Q E, sp vs H Q E → vs.length = ps.length
 run : ∀ (A : Around) (outer : List Env) (s : Shared) (H : Hp) (args : Args) (us : List Value) (vs : List V) (Q : VK) (E : XK), Room k A → Env0 P w K mg base A outer s H → BindsTo s fd args (ps.zip us) → Vals vs us → sp vs H Q E →
  codeAny (model P w) A (.call (.ref f) args) (CR CX outer P w H s Q E) s
theorem FnOk.mono {P : Program} {w : World} {K : PySem.W.Frag} {mg : Str → Option Value} {base : Heap} {CX : CXT} {j k : Nat} {f : Addr} {fd : FuncData} {ps : List Str} {sp : Sp} (F : FnOk P w K mg base CX j f fd ps sp) (h : j ≤ k) :
  FnOk P w K mg base CX k f fd ps sp := ⟨F.len, fun A outer s H args us vs Q E hr => F.run A outer s H args us vs Q E (hr.mono h)⟩
theorem FnOk.imp {P : Program} {w : World} {K : PySem.W.Frag} {mg : Str → Option Value} {base : Heap} {CX : CXT} {k : Nat} {f : Addr} {fd : FuncData} {ps : List Str} {sp sp' : Sp} (F : FnOk P w K mg base CX k f fd ps sp)
  (h : ∀ vs H Q E, sp' vs H Q E → sp vs H Q E) : FnOk P w K mg base CX k f fd ps sp' :=
 ⟨fun vs H Q E q => F.len vs H Q E (h _ _ _ _ q), fun A outer s H args us vs Q E hr he hb hv hs => F.run A outer s H args us vs Q E hr he hb hv (h _ _ _ _ hs)⟩
theorem Env0.make {P : Program} {w : World} {K : PySem.W.Frag} {mg : Str → Option Value} {base : Heap} {A : Around} {outer : List Env} {s : Shared} {H : Hp} (e : Env0 P w K mg base A outer s H) (C : Addr) (us : List Value) (kw : List (Str × Value)) :
  Env0 P w K mg base (A.under (.builtin "type.__call__" ⟨.ref C :: us, kw⟩)) outer s H := ⟨by first | exact e.frames | (simpa [Around.under, Code.envs, Code.isFrame, pushEnvs] using e.frames), e.mod, e.bs, e.bsz, e.funs, e.frf, e.hok, e.bare⟩
theorem Env0.in1 {P : Program} {w : World} {K : PySem.W.Frag} {mg : Str → Option Value} {base : Heap} {A : Around} {outer : List Env} {s : Shared} {H : Hp} (e : Env0 P w K mg base A outer s H) :
  Env0 P w K mg base A.in1 outer s H := ⟨e.frames, e.mod, e.bs, e.bsz, e.funs, e.frf, e.hok, e.bare⟩
section
variable {X : Cx} {pins : List (Addr × Obj)} {σ : St} {H : Hp} {s s' : Shared}
theorem Inv.env0 (I : Inv X pins σ H s) : Env0 X.prog X.w X.K X.mg X.base X.A X.stack s H :=
 ⟨I.ok.frames, I.ok.mod, I.bs, Nat.le_trans I.ok.bsz I.sz, I.stack, I.stkFree, I.hok, I.bare⟩
theorem Inv.after {Q : VK} {u : Value} (I : Inv X pins σ H s) (h : CE X.stack X.prog X.w H s Q u s') : EP X pins σ Q u s' := by
 obtain ⟨v, H', os, bare, un, hok, r, q⟩ := h
 obtain ⟨hh, g, d, t, os'⟩ := s'
 obtain rfl : os' = s.os := os
 exact ⟨v, H', I.call (h' := hh) (g' := g) (d' := d) (t' := t) (ch := []) un hok bare (fun b z => absurd z (by simp)), r, q⟩
end
def tCall (sp : Sp) (dvs : List V) (E : XK) (t : TA) : TE := fun σ H Q => t σ H fun vs H1 => sp (vs ++ dvs) H1 Q E
def tMeth (C : Addr) (m : Str) (sp : Sp) (dvs : List V) (E : XK) (ta : TE) (t : TA) : TE := fun σ H Q => ta σ H fun x H1 => ∃ a dx fs, x = .ref a ∧ H1 a = some (.ins C dx fs) ∧ fs.lookup m = none ∧
 t σ H1 fun vs H2 => sp (x :: (vs ++ dvs)) H2 Q E
def tMake (C : Addr) (sp : Sp) (dvs : List V) (E : XK) (t : TA) : TE := fun σ H Q => t σ H fun vs H1 => ∀ x dx, H1 x = none → H1 dx = none → dx ≠ x →
 sp (.ref x :: (vs ++ dvs)) (upd (upd H1 dx (.own x)) x (.ins C dx [])) (fun v H2 => v = .non ∧ Q (.ref x) H2) E
def Binds (K : PySem.W.Frag) (fd : FuncData) (ps : List Str) (ds : List Value) : Prop :=
 ∀ (s : Shared) (us : List Value), K.In s.heap → (us ++ ds).length = ps.length → BindsTo s fd ⟨us, []⟩ (ps.zip (us ++ ds))
theorem Binds.all {K : PySem.W.Frag} {fd : FuncData} {ps : List Str} (h : ∀ us : List Value, us.length = ps.length → bindArgs fd ⟨us, []⟩ = pure (ps.zip us)) : Binds K fd ps [] := fun s us _ hl => by
 rw [List.append_nil] at hl ⊢
 exact .of_eq (h us hl)
def Passes (CX : CXT) (X : Cx) (E : XK) : Prop := ∀ (pins : List (Addr × Obj)) (σ : St) (H : Hp) (s : Shared) (e : Value) (s' : Shared), Inv X pins σ H s → CX X.stack H s E e s' → X.xe e s'
section
variable {X : Cx} {CX : CXT} {k : Nat} {f C : Addr} {fd : FuncData} {ps : List Str} {sp : Sp} {dvs : List V} {ds : List Value} {E : XK} {x m : Str} {p pos apos : Pos} {e o : Expr} {es : List Expr} {ta : TE} {t : TA}
theorem run_fn {pins : List (Addr × Obj)} {σ : St} {H : Hp} {s : Shared} {Q : VK} {us : List Value} {vs : List V} (F : FnOk X.prog X.w X.K X.mg X.base CX k f fd ps sp) (hr : Room k X.A) (hb : Binds X.K fd ps ds) (hd : Vals dvs ds) (hx : Passes CX X E)
  (I : Inv X pins σ H s) (r : Vals vs us) (h : sp (vs ++ dvs) H Q E) : wpAny (model X.prog X.w) X.A (call (.ref f) us) (EP X pins σ Q) X.xe s := by
 have r2 : Vals (vs ++ dvs) (us ++ ds) := r.append hd
 have hl : (us ++ ds).length = ps.length := by rw [← r2.length]; exact F.len _ _ _ _ h
 refine wpAny_call (codeAny_mono (F.run X.A X.stack s H ⟨us, []⟩ (us ++ ds) (vs ++ dvs) Q E hr I.env0 (hb s us I.kIn hl) r2 h) fun r s' hq => ?_)
 cases r with
 | error e => exact hx pins σ H s e s' I hq
 | ok fl =>
  cases fl with
  | ret u => exact I.after hq
  | next => exact False.elim hq
  | brk => exact False.elim hq
  | cont => exact False.elim hq
theorem pe_call (F : FnOk X.prog X.w X.K X.mg X.base CX k f fd ps sp) (hr : Room k X.A) (hg : Gl X x) (hm : X.mg x = some (.ref f)) (hk : PySem.W.keepIn X.K (.ref f) = true) (hb : Binds X.K fd ps ds) (hd : Vals dvs ds) (hx : Passes CX X E)
  (ha : PA X (e :: es) t) (hdb : (x == ("__debug__" : Str)) = false := by decide) (he : starEach (e :: es) X.env = (false, eval e X.env) :: starEach es X.env := by rfl) (hpl : (backTo pos (starEach es X.env)).any (·.1) = false := by rfl) :
  PE X (.Call (.Name x p) (e :: es) [] pos) (tCall sp dvs E t) := by
 refine .mk ?_
 intro pins s σ H Q I h
 refine wpAny_Call_Name_kw (ld_glob I hg hm ?_ hdb)
 refine PySem.W.callWith_K (h₀ := X.base) I.ok.mod.kin hk (thn (ha pos pins s σ H _ I h) fun us s1 ⟨vs, H1, I1, r, q⟩ => ⟨I1.kIn, ?_⟩) he hpl
 exact run_fn F hr hb hd hx I1 r q
theorem pe_meth {pl : Sem Bool} (he : PE X o ta) (c : Cls X.K C) (hm : Meth X.K C m f) (F : FnOk X.prog X.w X.K X.mg X.base CX k f fd ps sp) (hr : Room k X.A) (hb : Binds X.K fd ps ds) (hd : Vals dvs ds) (hx : Passes CX X E) (ha : PA X (e :: es) t)
  (hst : starEach (e :: es) X.env = (false, eval e X.env) :: starEach es X.env := by rfl) (hpl : (backTo pos (starEach es X.env)).any (·.1) = false := by rfl)
  (ht : eval (.Call (.Attribute o m apos) (e :: es) [] pos) X.env = (do
   let ov ← eval o X.env
   standAt apos.atName
   let (f, first) ← holding [ov] (getMethod ov m pl)
   callWith pos f first (backTo pos (starEach (e :: es) X.env)) (backToKw pos (keywordEach [] X.env))) := by rfl) :
  PE X (.Call (.Attribute o m apos) (e :: es) [] pos) (tMeth C m sp dvs E ta t) := by
 refine .mk ?_
 intro pins s σ H Q I h
 refine PySem.W.methodCall_KW (pl := pl) (thn (he pins s σ H _ I h) fun u s1 ⟨x, H1, I1, rx, a, dx, fs, ex, ea, l, q⟩ => ?_) ht
 subst ex
 obtain rfl : u = Value.ref a := rx
 refine getmeth_ok I1 ea c hm l ?_
 refine PySem.W.callWith_K (first := [.ref a]) (h₀ := X.base) I.ok.mod.kin hm.kp (thn (ha pos pins s1 σ H1 _ I1 q) fun us s2 ⟨vs, H2, I2, r, q2⟩ => ⟨I2.kIn, ?_⟩) hst hpl
 exact run_fn (us := .ref a :: us) (vs := .ref a :: vs) F hr hb hd hx I2 (.cons rfl r) q2
theorem pe_meth0 {pl : Sem Bool} (he : PE X o ta) (c : Cls X.K C) (hm : Meth X.K C m f) (F : FnOk X.prog X.w X.K X.mg X.base CX k f fd ps sp) (hr : Room k X.A) (hb : Binds X.K fd ps ds) (hd : Vals dvs ds) (hx : Passes CX X E)
  (ht : eval (.Call (.Attribute o m apos) [] [] pos) X.env = (do
   let ov ← eval o X.env
   standAt apos.atName
   let (f, first) ← holding [ov] (getMethod ov m pl)
   callWith pos f first (backTo pos (starEach [] X.env)) (backToKw pos (keywordEach [] X.env))) := by rfl) :
  PE X (.Call (.Attribute o m apos) [] [] pos) (tMeth C m sp dvs E ta tNil) := by
 refine .mk ?_
 intro pins s σ H Q I h
 refine PySem.W.methodCall_KW (pl := pl) (thn (he pins s σ H _ I h) fun u s1 ⟨x, H1, I1, rx, a, dx, fs, ex, ea, l, q⟩ => ?_) ht
 subst ex
 obtain rfl : u = Value.ref a := rx
 refine getmeth_ok I1 ea c hm l ?_
 exact PySem.W.callWith_K0 (first := [.ref a]) I1.kIn hm.kp (run_fn (us := [.ref a]) (vs := [.ref a]) F hr hb hd hx I1 (.cons rfl .nil) q)
structure Mk (K : PySem.W.Frag) (C f : Addr) : Prop where
 makes : PySem.W.makesIn K C = true
 init : PySem.W.findIn K (.ref C) "__init__" = some (some (.ref f))
 fn : PySem.W.isFn K (.ref f) = true
 kp : PySem.W.keepIn K (.ref C) = true
theorem run_make {pins : List (Addr × Obj)} {σ : St} {H : Hp} {s : Shared} {Q : VK} {us : List Value} {vs : List V} (M : Mk X.K C f) (F : FnOk X.prog X.w X.K X.mg X.base CX k f fd ps sp) (hr : Room (k + 1) X.A) (hb : Binds X.K fd ps ds) (hd : Vals dvs ds)
  (hx : Passes CX X E) (I : Inv X pins σ H s) (r : Vals vs us)
  (h : ∀ x dx, H x = none → H dx = none → dx ≠ x → sp (.ref x :: (vs ++ dvs)) (upd (upd H dx (.own x)) x (.ins C dx [])) (fun v H2 => v = .non ∧ Q (.ref x) H2) E) :
  wpAny (model X.prog X.w) X.A (call (.ref C) us) (EP X pins σ Q) X.xe s := by
 have hq := h (s.heap.objs.size + 1) s.heap.objs.size (I.hok.fresh (Nat.le_succ _)) (I.hok.fresh (Nat.le_refl _)) (Nat.ne_of_lt (Nat.lt_succ_self _))
 have I2 := Inv.made (C := C) I
 have r2 : Vals (V.ref (s.heap.objs.size + 1) :: (vs ++ dvs)) (Value.ref (s.heap.objs.size + 1) :: (us ++ ds)) := .cons rfl (r.append hd)
 have hl : (Value.ref (s.heap.objs.size + 1) :: us ++ ds).length = ps.length := by
  have e := r2.length
  rw [F.len _ _ _ _ hq] at e
  exact e.symm
 refine wpAny_call (make_map (f := f) I.kIn M.makes M.init (beq_iff_eq.mp M.fn) (codeAny_mono (F.run _ X.stack _ _ ⟨Value.ref (s.heap.objs.size + 1) :: us, []⟩ (Value.ref (s.heap.objs.size + 1) :: (us ++ ds)) _ _ E (hr.make C us [])
  (I2.env0.make C us []) (hb _ (Value.ref (s.heap.objs.size + 1) :: us) I2.kIn hl) r2 hq) fun r s' hq' => ?_))
 cases r with
 | error e => exact hx pins σ _ _ e s' I2 hq'
 | ok fl =>
  cases fl with
  | ret u =>
   obtain ⟨v, H', I3, rv, ev, q3⟩ := I2.after hq'
   subst ev
   exact ⟨rv, ⟨V.ref (s.heap.objs.size + 1), H', I3, rfl, q3⟩⟩
  | next => exact False.elim hq'
  | brk => exact False.elim hq'
  | cont => exact False.elim hq'
theorem pe_make (M : Mk X.K C f) (F : FnOk X.prog X.w X.K X.mg X.base CX k f fd ps sp) (hr : Room (k + 1) X.A) (hg : Gl X x) (hm : X.mg x = some (.ref C)) (hb : Binds X.K fd ps ds) (hd : Vals dvs ds) (hx : Passes CX X E)
  (ha : PA X (e :: es) t) (hdb : (x == ("__debug__" : Str)) = false := by decide) (he : starEach (e :: es) X.env = (false, eval e X.env) :: starEach es X.env := by rfl) (hpl : (backTo pos (starEach es X.env)).any (·.1) = false := by rfl) :
  PE X (.Call (.Name x p) (e :: es) [] pos) (tMake C sp dvs E t) := by
 refine .mk ?_
 intro pins s σ H Q I h
 refine wpAny_Call_Name_kw (ld_glob I hg hm ?_ hdb)
 refine PySem.W.callWith_K (h₀ := X.base) I.ok.mod.kin M.kp (thn (ha pos pins s σ H _ I h) fun us s1 ⟨vs, H1, I1, r, q⟩ => ⟨I1.kIn, ?_⟩) he hpl
 exact run_make M F hr hb hd hx I1 r q
end
structure PK (X : Cx) (kws : List Keyword) (t : TA) : Prop where
 run : ∀ (pos : Pos) (pins : List (Addr × Obj)) (s : Shared) (σ : St) (H : Hp) (Q : List V → Hp → Prop), Inv X pins σ H s → t σ H Q → wpAny (model X.prog X.w) X.A (evalAll ((backToKw pos (keywordEach kws X.env)).map (·.2))) (AP X pins σ Q) X.xe s
instance {X : Cx} {kws : List Keyword} {t : TA} : CoeFun (PK X kws t) fun _ => ∀ (pos : Pos) (pins : List (Addr × Obj)) (s : Shared) (σ : St) (H : Hp) (Q : List V → Hp → Prop), Inv X pins σ H s → t σ H Q → wpAny (model X.prog X.w) X.A (evalAll ((backToKw pos (keywordEach kws X.env)).map (·.2))) (AP X pins σ Q) X.xe s := ⟨PK.run⟩
section
variable {X : Cx} {CX : CXT} {k : Nat} {f C : Addr} {fd : FuncData} {ps ks : List Str} {sp : Sp} {E : XK} {x m : Str} {p pos apos kpos : Pos} {e o : Expr} {es : List Expr} {kws : List Keyword} {te ta : TE} {t tk : TA} {nm : Option Str}
variable {g : List Value → List Value → List Value} {gV : List V → List V → List V}
end
structure FnScope (N P : List Str) (sc : Scope) : Prop where
 kind : sc.kind = .function
 co : sc.isCoroutine = false
 gen : sc.isGenerator = false
 nd : N.Nodup
 pre : N.take P.length = P
 par : ∀ x ∈ P, sc.names.lookup x = some .local ∨ sc.names.lookup x = some .cell
 nofree : ∀ y ∈ sc.names, y.2 ≠ .free
theorem bindL_out {kindOf : Str → Option NameKind} {x : Str} : ∀ {binds : List (Str × Value)} {m : Str → Option Value}, (∀ v, (x, v) ∉ binds) → bindL kindOf binds m x = m x
 | [], _, _ => rfl
 | (n, v) :: r, m, h => by
  unfold bindL
  rw [bindL_out fun w hw => h w (List.mem_cons_of_mem _ hw)]
  split
  ·have : x ≠ n := by rintro rfl; exact h v List.mem_cons_self
   simp [this]
  ·rfl
theorem bindC_out {kindOf : Str → Option NameKind} {x : Str} : ∀ {binds : List (Str × Value)} {m : Str → Option Value}, (∀ v, (x, v) ∉ binds) → bindC kindOf binds m x = m x
 | [], _, _ => rfl
 | (n, v) :: r, m, h => by
  unfold bindC
  rw [bindC_out fun w hw => h w (List.mem_cons_of_mem _ hw)]
  split
  ·rfl
  ·have : x ≠ n := by rintro rfl; exact h v List.mem_cons_self
   simp [this]
theorem bindL_get {kindOf : Str → Option NameKind} {x : Str} {v : Value} : ∀ {P : List Str} {vs : List Value} {i : Nat} {m : Str → Option Value}, P.Nodup → P[i]? = some x → vs[i]? = some v → kindOf x = some .local →
  bindL kindOf (P.zip vs) m x = some v
 | [], _, _, _, _, h, _, _ => by simp at h
 | _ :: _, [], _, _, _, _, h, _ => by simp at h
 | p :: P, w :: vs, 0, m, nd, h1, h2, hk => by
  simp at h1 h2; subst h1; subst h2
  show bindL kindOf ((p, w) :: P.zip vs) m p = _
  unfold bindL
  rw [bindL_out fun v hv => (List.nodup_cons.mp nd).1 (List.of_mem_zip hv).1, if_pos hk]
  simp
 | p :: P, w :: vs, i + 1, m, nd, h1, h2, hk => by
  show bindL kindOf ((p, w) :: P.zip vs) m x = _
  unfold bindL
  exact bindL_get (i := i) (List.nodup_cons.mp nd).2 (by simpa using h1) (by simpa using h2) hk
theorem bindC_get {kindOf : Str → Option NameKind} {x : Str} {v : Value} : ∀ {P : List Str} {vs : List Value} {i : Nat} {m : Str → Option Value}, P.Nodup → P[i]? = some x → vs[i]? = some v → kindOf x ≠ some .local →
  bindC kindOf (P.zip vs) m x = some v
 | [], _, _, _, _, h, _, _ => by simp at h
 | _ :: _, [], _, _, _, _, h, _ => by simp at h
 | p :: P, w :: vs, 0, m, nd, h1, h2, hk => by
  simp at h1 h2; subst h1; subst h2
  show bindC kindOf ((p, w) :: P.zip vs) m p = _
  unfold bindC
  rw [bindC_out fun v hv => (List.nodup_cons.mp nd).1 (List.of_mem_zip hv).1, if_neg hk]
  simp
 | p :: P, w :: vs, i + 1, m, nd, h1, h2, hk => by
  show bindC kindOf ((p, w) :: P.zip vs) m x = _
  unfold bindC
  exact bindC_get (i := i) (List.nodup_cons.mp nd).2 (by simpa using h1) (by simpa using h2) hk
def start (N : List Str) (vs : List V) : St := vs.map some ++ List.replicate (N.length - vs.length) none
def cxOf (CX : CXT) (P : Program) (w : World) (K : PySem.W.Frag) (mg : Str → Option Value) (base : Heap) (N : List Str) (qual : Str) (scope : Scope) (f : Addr) (cd : Value) (A : Around) (outer : List Env) (s : Shared) (H : Hp) (E : XK) : Cx where
 prog := P
 w := w
 K := K
 mg := mg
 base := base
 A := A.deeper (envOfC qual scope s.heap.objs.size f cd)
 N := N
 s₀ := s
 H₀ := H
 env := envOfC qual scope s.heap.objs.size f cd
 outer := outer
 stack := envOfC qual scope s.heap.objs.size f cd :: outer
 ex := []
 calm := true
 fn := fun _ => true
 pn := []
 xe := fun e s' => wpAny (model P w) (A.deeper (envOfC qual scope s.heap.objs.size f cd)) (leaving (envOfC qual scope s.heap.objs.size f cd) e) (fun _ s'' => CX outer H s E e s'') (fun e' s'' => CX outer H s E e' s'') s'
theorem cell_has {sc : Scope} {n : Nat} {x : Str} (h : sc.names.lookup x = some .cell) : ∃ c, (cellsFrom n sc.names []).lookup x = some c := by
 have q := PySem.W.cellsFrom_some sc.names n [] (.inl h)
 exact Option.isSome_iff_exists.mp q
theorem inv_start {CX : CXT} {P : Program} {w : World} {K : PySem.W.Frag} {mg : Str → Option Value} {base : Heap} {N ps : List Str} {qual : Str} {scope : Scope} {f : Addr} {cd : Value} {A : Around} {outer : List Env} {s s1 : Shared} {H : Hp} {E : XK} {us : List Value} {vs : List V}
  (S : FnScope N ps scope) (hd : A.handled = none) (e0 : Env0 P w K mg base A outer s H) (hl : vs.length = ps.length) (r : Vals vs us)
  (x : InCallC s s.heap.objs.size (bindL (envOfC qual scope s.heap.objs.size f cd).kindOf (ps.zip us) fun _ => none) (cellsFrom (s.heap.objs.size + 1) scope.names []) (bindC (envOfC qual scope s.heap.objs.size f cd).kindOf (ps.zip us) fun _ => none) s1) :
  Inv (cxOf CX P w K mg base N qual scope f cd A outer s H E) [] (start N vs) H s1 := by
 have hpl : ps.length ≤ N.length := by have := congrArg List.length S.pre; rw [List.length_take] at this; omega
 obtain ⟨h1, tk, rfl, hk⟩ := x.done
 have noA : ∀ b : Addr, b ∉ (cxOf CX P w K mg base N qual scope f cd A outer s H E).ex := fun b z => absurd (show b ∈ ([] : List Addr) from z) (by simp)
 refine ⟨⟨e0.mod, S.kind, rfl, rfl, Nat.le_refl _, fun y z c h1 h2 => ?_, fun y hy => ?_, fun y c _ h => ?_, fun _ => hd, Around.frames_deeper e0.frames, .inr ⟨rfl, rfl⟩, fun b z => absurd z (noA b), e0.bs, e0.bsz, fun b _ _ => noA b, fun b z => absurd z (noA b), e0.funs, e0.frf⟩,
  rfl, e0.bare, Un.kept hk, ⟨_, x.toInCall.ns, fun i y v h1 h2 h3 => ?_⟩, fun y c h => ⟨_, x.cell y c h⟩, e0.hok.fresh (Nat.le_refl _), fun y c h => ?_, fun p hp => absurd (show p ∈ ([] : List (Addr × Obj)) from hp) (by simp), e0.hok.kept hk, ?_⟩
 ·exact name_of_addr x.apart (PySem.mem_of_lookup h1) (PySem.mem_of_lookup h2)
 ·have hy : scope.names.lookup y = some .cell ∨ scope.names.lookup y = some .free := hy
  rcases hy with hy | hy
  ·exact cell_has hy
  ·exact absurd rfl (S.nofree _ (PySem.mem_of_lookup hy))
 ·exact Nat.le_of_lt (x.above y c (PySem.mem_of_lookup h))
 ·have hi : i < vs.length := by
   unfold start at h2
   by_cases hi : i < vs.length
   ·exact hi
   ·rw [List.getElem?_append_right (by simpa using hi)] at h2
    rw [List.getElem?_replicate] at h2
    split at h2 <;> cases h2
  have ha : vs[i]? = some v := by
   unfold start at h2
   rw [List.getElem?_append_left (by simpa using hi), List.getElem?_map] at h2
   cases e : vs[i]? with
   | none => rw [e] at h2; cases h2
   | some a => rw [e] at h2; cases h2; rfl
  obtain ⟨u, hu, rv⟩ := r.get ha
  have hp : ps[i]? = some y := by
   rw [← S.pre, List.getElem?_take_of_lt (by omega)]; exact h1
  have ndP : ps.Nodup := by rw [← S.pre]; exact S.nd.sublist (List.take_sublist _ _)
  refine ⟨u, rv, ?_⟩
  rcases S.par y (List.mem_of_getElem? hp) with k | k
  ·exact .inl ⟨k, bindL_get ndP hp hu k⟩
  ·obtain ⟨c, e⟩ := cell_has (n := s.heap.objs.size + 1) k
   refine .inr ⟨.inl k, c, e, ?_⟩
   have q := x.cell y c e
   rw [bindC_get ndP hp hu (by show scope.names.lookup y ≠ _; rw [k]; decide)] at q
   exact q
 ·exact e0.hok.fresh (Nat.le_of_lt (x.above y c (PySem.mem_of_lookup h)))
 ·unfold start
  show _ = N.length
  rw [List.length_append, List.length_map, List.length_replicate]
  omega
theorem fn_of {CX : CXT} {P : Program} {w : World} {K : PySem.W.Frag} {mg : Str → Option Value} {base : Heap} {k : Nat} {f : Addr} {name qual : Str} {params : Arguments} {body : List Stmt} {scope : Scope} {dV kV doc pm cdv ct oc : Value} {an od : Option Addr}
  {osl : Array (Option Value)} {N ps : List Str} {sp : Sp} (lk : K.lookup f = some ⟨oc, od, .func (PySem.W.fnOf name qual params body scope dV kV doc pm an cdv ct), osl⟩) (hcd : PySem.W.codeIn K cdv qual = true) (S : FnScope N ps scope)
  (len : ∀ vs H Q E, sp vs H Q E → vs.length = ps.length)
  (hbody : ∀ (A : Around) (outer : List Env) (s : Shared) (H : Hp) (vs : List V) (Q : VK) (E : XK), Room k (A.deeper (envOfC qual scope s.heap.objs.size f cdv)) → sp vs H Q E →
   ∃ t, PSs (cxOf CX P w K mg base N qual scope f cdv A outer s H E) body t ∧ t { nx := fun _ H' => Q .non H', rt := Q } (start N vs) H) :
  FnOk P w K mg base CX (k + 1) f (PySem.W.fnOf name qual params body scope dV kV doc pm an cdv ct) ps sp := by
 refine ⟨len, fun A outer s H args us vs Q E hr e0 hb r hsp => ?_⟩
 have hl := len _ _ _ _ hsp
 have KX : K.In s.heap := e0.mod.kin.keeps fun b o e => (e0.bs b o e).1
 have lim : s.heap.NoLimit := e0.mod.nolimit.keeps fun b o e => (e0.bs b o e).1
 have hkind : ∀ y ∈ ps.zip us, scope.names.lookup y.1 = some .local ∨ (scope.names.lookup y.1 = some .cell ∧ ((cellsFrom (s.heap.objs.size + 1) scope.names []).lookup y.1).isSome = true) := fun ⟨n, v⟩ hy => by
  rcases S.par n (List.of_mem_zip hy).1 with q | q
  ·exact .inl q
  ·exact .inr ⟨q, PySem.W.cellsFrom_some _ _ _ (.inl q)⟩
 refine codeAny_call_function hr.depth (KX _ _ lk) rfl S.co S.gen rfl (PySem.W.codeRec_of KX hcd) (hb _ _ _ _ ?_)
 refine wpAny_newFunctionEnv_cells S.kind hkind fun env he s1 x => ?_
 subst he
 refine ⟨lim.keeps x.toInCall.keep, codeAny_func ?_⟩
 obtain ⟨t, ht, hq⟩ := hbody A outer s H vs Q E (hr.deeper _) hsp
 have I : Inv (cxOf CX P w K mg base N qual scope f cdv A outer s H E) [] (start N vs) H s1 := inv_start S hr.hd e0 hl r x
 refine wpAny_mono (ht [] s1 (start N vs) H _ I hq) (fun fl s' hs => ?_) fun e s' hs => hs
 have fin : ∀ {σ' : St} {H' : Hp} {v : V} {u : Value}, Inv (cxOf CX P w K mg base N qual scope f cdv A outer s H E) [] σ' H' s' → RelV v u → Q v H' → CE outer P w H s Q u s' :=
  fun {σ' H' v u} J rv q => ⟨v, H', J.os, J.bare, J.base, J.hok, rv, q⟩
 cases fl with
 | ret u =>
  obtain ⟨v, σ', H', J, rv, q⟩ := hs
  exact fin J rv q
 | next =>
  obtain ⟨σ', H', J, q⟩ := hs
  exact fin (v := V.non) (u := Value.none) J rfl q
 | brk =>
  obtain ⟨_, _, _, q⟩ := hs
  exact False.elim q
 | cont =>
  obtain ⟨_, _, _, q⟩ := hs
  exact False.elim q
end L2
namespace L2
open PySem PySem.Spec PyProof.Rows
section
variable {X : Cx} {x : Str} {p pos : Pos} {e : Expr} {es : List Expr} {t : TA} {id T : String} {r : List V → Hp → VK → Prop}
def tCB (r : List V → Hp → VK → Prop) (t : TA) : TE := fun σ H Q => t σ H fun vs H1 => r vs H1 Q
theorem pe_callB (hc : CallR X (.builtin id) r) (hg : Gl X x) (hm : X.mg x = none) (hv : bootBuiltins x = some (.builtin id)) (ha : PA X (e :: es) t) (hn : x ≠ "__name__" := by decide) (hdb : (x == ("__debug__" : Str)) = false := by decide)
  (he : starEach (e :: es) X.env = (false, eval e X.env) :: starEach es X.env := by rfl) (hpl : (backTo pos (starEach es X.env)).any (·.1) = false := by rfl) : PE X (.Call (.Name x p) (e :: es) [] pos) (tCB r t) := by
 refine .mk ?_
 intro pins s σ H Q I h
 refine wpAny_Call_Name_kw (ld_blt I hg hm hv ?_ hn hdb)
 exact PyProof.Rows.callWith_builtin1 (thn (ha pos pins s σ H _ I h) fun us s1 ⟨vs, H1, I1, r1, q1⟩ => hc pins s1 σ H1 vs us Q I1 r1 q1) he hpl
theorem pe_callTy (hc : CallR X (.type T) r) (hg : Gl X x) (hm : X.mg x = none) (hv : bootBuiltins x = some (.type T)) (ha : PA X (e :: es) t) (hn : x ≠ "__name__" := by decide) (hdb : (x == ("__debug__" : Str)) = false := by decide)
  (he : starEach (e :: es) X.env = (false, eval e X.env) :: starEach es X.env := by rfl) (hpl : (backTo pos (starEach es X.env)).any (·.1) = false := by rfl) : PE X (.Call (.Name x p) (e :: es) [] pos) (tCB r t) := by
 refine .mk ?_
 intro pins s σ H Q I h
 refine wpAny_Call_Name_kw (ld_blt I hg hm hv ?_ hn hdb)
 exact PyProof.Rows.callWith_type1 (thn (ha pos pins s σ H _ I h) fun us s1 ⟨vs, H1, I1, r1, q1⟩ => hc pins s1 σ H1 vs us Q I1 r1 q1) he hpl
end
end L2
namespace HT
open PySem PyProof.Rows
section
open PySem.SeqAt
open PySem.AutoSeq1 (wpAny_loadPart')
open PySem.MeetsSeq PySem.MeetsSeq2 PySem.MeetsSeq3
end
section
variable {prog : Program} {w : World} {A : Around} {E : Value → Shared → Prop} {s : Shared}
def sIx (n d : Nat) : Option Int → Nat
 | none => d
 | some v => if v < 0 then (v + (n : Int)).toNat else min v.toNat n
end
end HT
namespace L2
open PySem PySem.Spec PyProof.Rows
abbrev TO := St → Hp → (Option Int → Hp → Prop) → Prop
structure PO (X : Cx) (e : Option Expr) (t : TO) : Prop where
 run : ∀ (pins : List (Addr × Obj)) (s : Shared) (σ : St) (H : Hp) (Q : Option Int → Hp → Prop), Inv X pins σ H s → t σ H Q →
  wpAny (model X.prog X.w) X.A (evalPart e X.env) (fun u s' => ∃ o H', Inv X pins σ H' s' ∧ IsPart u o ∧ Q o H') X.xe s
instance {X : Cx} {e : Option Expr} {t : TO} : CoeFun (PO X e t) fun _ => ∀ (pins : List (Addr × Obj)) (s : Shared) (σ : St) (H : Hp) (Q : Option Int → Hp → Prop), Inv X pins σ H s → t σ H Q → wpAny (model X.prog X.w) X.A (evalPart e X.env) (fun u s' => ∃ o H', Inv X pins σ H' s' ∧ IsPart u o ∧ Q o H') X.xe s := ⟨PO.run⟩
def tPart (t : TE) : TO := fun σ H Q => t σ H fun x H1 => ∃ i, x = .int i ∧ Q (some i) H1
section
variable {X : Cx} {e : Expr} {te : TE} {lo hi : Option Expr} {tl th : TO} {pos p2 : Pos}
theorem po_some (h : PE X e te) : PO X (some e) (tPart te) := by
 refine .mk ?_
 intro pins s σ H Q I hw
 rw [evalPart_some]
 refine thn (h pins s σ H _ I hw) fun u s1 ⟨x, H1, I1, r1, q1⟩ => ?_
 obtain ⟨i, rfl, q⟩ := q1
 obtain ⟨t, rfl⟩ := r1
 exact ⟨some i, H1, I1, .int i t, q⟩
def SlR (X : Cx) (r : V → Option Int → Option Int → Hp → VK → Prop) : Prop :=
 ∀ (pins : List (Addr × Obj)) (s : Shared) (σ : St) (H : Hp) (x : V) (v vl vu : Value) (lo hi : Option Int) (sl : Addr) (Q : VK), Inv X pins σ H s → RelV x v → s.heap.IsSliceOf sl vl vu .none → IsPart vl lo → IsPart vu hi → r x lo hi H Q →
  ∃ T id, typeLookup (.type T) "__getitem__" = pure (some (.builtin id)) ∧ s.TypeIs v T ∧ wpAny (model X.prog X.w) X.A (getItem v (.ref sl)) (EP X pins σ Q) X.xe s
theorem SlR.or {r r' : V → Option Int → Option Int → Hp → VK → Prop} (h : SlR X r) (h' : SlR X r') : SlR X (fun x lo hi H Q => r x lo hi H Q ∨ r' x lo hi H Q) := by
 intro pins s σ H x v vl vu lo hi sl Q I rx hs pl pu q
 rcases q with q | q
 ·exact h pins s σ H x v vl vu lo hi sl Q I rx hs pl pu q
 ·exact h' pins s σ H x v vl vu lo hi sl Q I rx hs pl pu q
end
end L2
namespace L2
open PySem PySem.Spec PyProof.Rows
def ixN (n : Nat) (i : Int) : Option Nat := if 0 ≤ i then (if i < n then some i.toNat else none) else if -(n : Int) ≤ i then some (i + n).toNat else none
def atI {α : Type} (xs : List α) (i : Int) : Option α := (ixN xs.length i).bind fun j => xs[j]?
theorem ixN_seq {n : Nat} {i : Int} {j : Nat} (h : ixN n i = some j) : seqIndex? i n = some j ∧ j < n ∧ -(n : Int) ≤ i ∧ i < n := by
 unfold ixN at h
 by_cases h0 : 0 ≤ i
 ·rw [if_pos h0] at h
  by_cases h1 : i < n
  ·rw [if_pos h1] at h
   have e : i.toNat = j := Option.some.inj h
   exact ⟨by rw [seqIndex_of h0 h1, e], by omega, by omega, h1⟩
  ·rw [if_neg h1] at h; cases h
 ·rw [if_neg h0] at h
  by_cases h1 : -(n : Int) ≤ i
  ·rw [if_pos h1] at h
   have e : (i + n).toNat = j := Option.some.inj h
   exact ⟨by rw [seqIndex_neg (by omega) h1, e], by omega, h1, by omega⟩
  ·rw [if_neg h1] at h; cases h
theorem atI_get {α : Type} {xs : List α} {i : Int} {v : α} (h : atI xs i = some v) : ∃ j, seqIndex? i xs.length = some j ∧ xs[j]? = some v ∧ j < xs.length ∧ -(xs.length : Int) ≤ i ∧ i < xs.length := by
 unfold atI at h
 cases e : ixN xs.length i with
 | none => rw [e] at h; cases h
 | some j =>
  rw [e] at h
  obtain ⟨h1, h2, h3, h4⟩ := ixN_seq e
  exact ⟨j, h1, h, h2, h3, h4⟩
theorem atI_nat {α : Type} {xs : List α} {j : Nat} {v : α} (h : xs[j]? = some v) : atI xs (j : Int) = some v := by
 have hj : j < xs.length := (List.getElem?_eq_some_iff.mp h).1
 have e : ixN xs.length (j : Int) = some j := by
  unfold ixN
  rw [if_pos (by omega), if_pos (by omega)]; simp
 unfold atI; rw [e]; exact h
def PlainIx (b : Expr) : Prop := ∀ o i, subscripted b false o i = operate [o, i] (getItem o i)
def IxR (X : Cx) (r : R2) : Prop :=
 ∀ (value slice : Expr) (pins : List (Addr × Obj)) (s : Shared) (σ : St) (H : Hp) (x y : V) (v u : Value) (Q : VK), Inv X pins σ H s → RelV x v → RelV y u → r x y H Q →
  subscripted slice false v u = operate [v, u] (getItem v u) → wpAny (model X.prog X.w) X.A (subscriptTail value slice v u) (EP X pins σ Q) X.xe s
def MtR (X : Cx) (id : String) (r : V → List V → Hp → VK → Prop) : Prop :=
 ∀ (pins : List (Addr × Obj)) (s : Shared) (σ : St) (H : Hp) (x : V) (xs : List V) (v : Value) (us : List Value) (Q : VK), Inv X pins σ H s → RelV x v → Vals xs us → r x xs H Q →
  wpAny (model X.prog X.w) X.A (call (.builtin id) (v :: us)) (EP X pins σ Q) X.xe s
section
variable {X : Cx} {a b : Expr} {ta tb : TE} {pos : Pos}
theorem IxR.or {r r' : R2} (h : IxR X r) (h' : IxR X r') : IxR X (fun x y H Q => r x y H Q ∨ r' x y H Q) := by
 intro value slice pins s σ H x y v u Q I rx ry q hs
 rcases q with q | q
 ·exact h value slice pins s σ H x y v u Q I rx ry q hs
 ·exact h' value slice pins s σ H x y v u Q I rx ry q hs
theorem MtR.or {id : String} {r r' : V → List V → Hp → VK → Prop} (h : MtR X id r) (h' : MtR X id r') : MtR X id (fun x xs H Q => r x xs H Q ∨ r' x xs H Q) := by
 intro pins s σ H x xs v us Q I rx rs q
 rcases q with q | q
 ·exact h pins s σ H x xs v us Q I rx rs q
 ·exact h' pins s σ H x xs v us Q I rx rs q
theorem pe_ix {r : R2} (hr : IxR X r) (ha : PE X a ta) (hb : PE X b tb) (hs : PlainIx b) : PE X (.Subscript a b pos) (tOp r ta tb) := by
 refine .mk ?_
 intro pins s σ H Q I h
 exact Subscript_ (binT ha hb I h fun v u s2 x y H2 I2 rx ry q => hr a b pins s2 σ H2 x y v u Q I2 rx ry q (hs _ _))
def rIxL (K : PySem.W.Frag) : R2 := fun x y H Q => ∃ p xs i v, x = .ref p ∧ y = .int i ∧ SqL K H p xs ∧ atI xs i = some v ∧ Q v H
def rIxT (K : PySem.W.Frag) : R2 := fun x y H Q => ∃ p xs i v, x = .ref p ∧ y = .int i ∧ SqT K H p xs ∧ atI xs i = some v ∧ Q v H
def rIxS : R2 := fun x y H Q => ∃ z i c, x = .str z ∧ y = .int i ∧ z.length ≤ sizeLine ∧ atI z.cps.toList i = some c ∧ Q (.str ⟨#[c]⟩) H
theorem ix_list : IxR X (rIxL X.K) := by
 intro value slice pins s σ H x y v u Q I rx ry h hs
 obtain ⟨p, xs, i, z, rfl, rfl, hq, he, q⟩ := h
 cases rx
 obtain ⟨t, rfl⟩ := ry
 obtain ⟨its, r, pl, hz⟩ := I.list hq
 obtain ⟨j, h1, h2, h3, h4, h5⟩ := atI_get he
 obtain ⟨w, ew, rw'⟩ := r.get h2
 have hl := r.length
 have hn := line63
 have fin : EP X pins σ Q w s := ⟨z, H, I, rw', q⟩
 by_cases h0 : 0 ≤ i
 ·have hj : i.toNat = j := by
   rw [seqIndex_of h0 h5] at h1
   exact Option.some.inj h1
  exact item_listR pl.isList h0 (by omega) (by rw [hj]; simpa using ew) fin hs
 ·have hj : (i + (its.toArray.size : Int)).toNat = j := by
   rw [seqIndex_neg (by omega) h4] at h1
   rw [List.size_toArray, ← hl]
   exact Option.some.inj h1
  exact subscriptTail_builtinR (x := w) pl.isList.typeIs slot_list_getitem.lookup
   (wpAny_getItem_list_neg (Q := fun r s' => r = w ∧ EP X pins σ Q r s') pl.isList (by omega) (by rw [List.size_toArray] <;> omega) (by omega) (by rw [hj]; simpa using ew) ⟨rfl, fin⟩) hs
theorem ix_tup : IxR X (rIxT X.K) := by
 intro value slice pins s σ H x y v u Q I rx ry h hs
 obtain ⟨p, xs, i, z, rfl, rfl, hq, he, q⟩ := h
 cases rx
 obtain ⟨t, rfl⟩ := ry
 obtain ⟨its, r, pl, hz⟩ := I.tuple hq
 obtain ⟨j, h1, h2, h3, h4, h5⟩ := atI_get he
 obtain ⟨w, ew, rw'⟩ := r.get h2
 have hl := r.length
 have hn := line63
 have fin : EP X pins σ Q w s := ⟨z, H, I, rw', q⟩
 exact subscriptTail_builtinR (x := w) pl.typeIs slot_tuple_getitem.lookup
  (getItem_tuple (j := j) (Q := fun r s' => r = w ∧ EP X pins σ Q r s') pl (by omega) (by omega) (by rw [List.size_toArray, ← hl]; exact h1) (by simpa using ew) ⟨rfl, fin⟩) hs
theorem ix_str : IxR X rIxS := by
 intro value slice pins s σ H x y v u Q I rx ry h hs
 obtain ⟨z, i, c, rfl, rfl, hz, he, q⟩ := h
 obtain ⟨t, rfl⟩ := rx
 obtain ⟨t', rfl⟩ := ry
 obtain ⟨j, h1, h2, h3, h4, h5⟩ := atI_get he
 have hl : z.cps.toList.length = z.length := by simp [Str.length]
 rw [hl] at h1 h4 h5
 have hn := line63
 exact tail_any (typeIs_str s z t) slot_str_getitem.lookup (getItem_str (c := c) (by
  have e1 : decide (i < -(2 ^ 63 : Int)) = false := decide_eq_false (by omega)
  have e2 : decide (i ≥ 2 ^ 63) = false := decide_eq_false (by omega)
  rw [e1, e2, Bool.or_false]) (by rw [h1]; simpa using h2) ⟨.str ⟨#[c]⟩, H, I.tok _, ⟨_, rfl⟩, q⟩) hs
def rIx (K : PySem.W.Frag) : R2 := fun x y H Q => rIxL K x y H Q ∨ rIxT K x y H Q ∨ rIxS x y H Q
theorem ix_seq : IxR X (rIx X.K) := ix_list.or (ix_tup.or ix_str)
theorem mapSeq_set (its : List Value) (n j : Nat) (u : Value) : Obj.mapSeq (·.setIfInBounds j u) { cls := .type "list", data := .seq its.toArray n } = { cls := .type "list", data := .seq (its.set j u).toArray n } := by
 simp [Obj.mapSeq]
theorem Inv.lst {pins : List (Addr × Obj)} {σ : St} {H : Hp} {s : Shared} {p : Addr} {xs : List V} (I : Inv X pins σ H s) (h : H p = some (.lst xs)) :
  ∃ (its : List Value) (n : Nat), Vals xs its ∧ s.heap.get? p = some { cls := .type "list", data := .seq its.toArray n } ∧ xs.length ≤ sizeLine := by
 obtain ⟨z, its, n, r, e⟩ := I.hok p _ h
 exact ⟨its, n, r, e, z⟩
theorem Inv.lstUpd {pins : List (Addr × Obj)} {σ : St} {H : Hp} {s : Shared} {p : Addr} {xs ys : List V} {its its' : List Value} {n n' : Nat} {f : Obj → Obj} (I : Inv X pins σ H s) (h : H p = some (.lst xs))
  (ho : s.heap.get? p = some { cls := .type "list", data := .seq its.toArray n }) (hf : f { cls := .type "list", data := .seq its.toArray n } = { cls := .type "list", data := .seq its'.toArray n' }) (r : Vals ys its') (hz : ys.length ≤ sizeLine) (t : Nat) :
  Inv X pins σ (upd H p (.lst ys)) { s with heap := s.heap.update p f, toks := t } := by
 have e : (s.heap.update p f).get? p = some { cls := .type "list", data := .seq its'.toArray n' } := by
  rw [Heap.get?_update_self f ho (by rw [hf] <;> rfl), hf]
 refine I.write (x := p) (e := p) (by rw [h]; trivial) (.inl rfl) (fun b u hb q => (Heap.get?_update_other _ _ (Ne.symm hb)).trans q) ⟨_, e⟩ ?_
 exact ⟨hz, its', n', r, e⟩
def rSetL : V → V → V → Hp → (Hp → Prop) → Prop := fun o i v H Q => ∃ p xs k j, o = .ref p ∧ i = .int k ∧ H p = some (.lst xs) ∧ ixN xs.length k = some j ∧ Q (upd H p (.lst (xs.set j v)))
theorem set_list : PSet X rSetL := by
 intro pins s σ H o i v ov iv u Q I ro ri rv h
 obtain ⟨p, xs, k, j, rfl, rfl, hp, hj, q⟩ := h
 cases ro
 obtain ⟨t, rfl⟩ := ri
 obtain ⟨its, n, r, ho, hz⟩ := I.lst hp
 obtain ⟨h1, h2, h3, h4⟩ := ixN_seq hj
 have hl := r.length
 have hn := line63
 have I' : Inv X pins σ (upd H p (.lst (xs.set j v))) { s with heap := s.heap.update p (Obj.mapSeq (·.setIfInBounds j u)) } :=
  I.lstUpd hp ho (mapSeq_set its n j u) (r.set rv j) (by rw [List.length_set]; exact hz) s.toks
 by_cases h0 : 0 ≤ k
 ·have hk : k.toNat = j := by
   rw [seqIndex_of h0 h4] at h1
   exact Option.some.inj h1
  exact PySem.W.ki_setAt ho h0 (by omega) (by rw [List.size_toArray, ← hl]; exact h4) (by rw [hk]; exact ⟨_, I', q⟩)
 ·have hk : (k + (its.toArray.size : Int)).toNat = j := by
   rw [seqIndex_neg (by omega) h3] at h1
   rw [List.size_toArray, ← hl]
   exact Option.some.inj h1
  exact PySem.W.ki_setBack ho (by omega) (by rw [List.size_toArray, ← hl]; exact h3) (by omega) (by rw [hk]; exact ⟨_, I', q⟩)
def flatV : V → Bool
 | .non => true
 | .bl _ => true
 | .int _ => true
 | .str _ => true
 | _ => false
def eqV : V → V → Bool
 | .non, .non => true
 | .bl a, .bl b => a == b
 | .bl a, .int b => (if a then 1 else 0) == b
 | .int a, .bl b => a == (if b then 1 else 0)
 | .int a, .int b => a == b
 | .str a, .str b => a == b
 | _, _ => false
theorem eqAt_V {A : Around} {s : Shared} {y x : V} {u v : Value} (ry : RelV y u) (rx : RelV x v) (fy : flatV y = true) (fx : flatV x = true) : SeqAt.EqAt A s u v (eqV y x) := by
 cases y with
 | non =>
  cases ry
  cases x with
  | non => cases rx; exact SeqAt.EqAt.same _
  | bl b => cases rx; exact SeqAt.EqAt.none_bool b
  | int b => obtain ⟨t, rfl⟩ := rx; exact SeqAt.EqAt.none_int b t
  | str b => obtain ⟨t, rfl⟩ := rx; exact SeqAt.EqAt.none_str b t
  | _ => exact absurd (show false = true from fx) Bool.false_ne_true
 | bl a =>
  cases ry
  cases x with
  | non => cases rx; exact SeqAt.EqAt.bool_none a
  | bl b => cases rx; exact SeqAt.EqAt.bool_bool a b
  | int b => obtain ⟨t, rfl⟩ := rx; exact SeqAt.EqAt.bool_int a b t
  | str b => obtain ⟨t, rfl⟩ := rx; exact SeqAt.EqAt.bool_str a b t
  | _ => exact absurd (show false = true from fx) Bool.false_ne_true
 | int a =>
  obtain ⟨t', rfl⟩ := ry
  cases x with
  | non => cases rx; exact SeqAt.EqAt.int_none a t'
  | bl b => cases rx; exact SeqAt.EqAt.int_bool a t' b
  | int b => obtain ⟨t, rfl⟩ := rx; exact SeqAt.EqAt.int_int a t' b t
  | str b => obtain ⟨t, rfl⟩ := rx; exact SeqAt.EqAt.int_str a t' b t
  | _ => exact absurd (show false = true from fx) Bool.false_ne_true
 | str a =>
  obtain ⟨t', rfl⟩ := ry
  cases x with
  | non => cases rx; exact SeqAt.EqAt.str_none a t'
  | bl b => cases rx; exact SeqAt.EqAt.str_bool a t' b
  | int b => obtain ⟨t, rfl⟩ := rx; exact SeqAt.EqAt.str_int a t' b t
  | str b => obtain ⟨t, rfl⟩ := rx; exact SeqAt.EqAt.str_str a t' b t
  | _ => exact absurd (show false = true from fx) Bool.false_ne_true
 | _ => exact absurd (show false = true from fy) Bool.false_ne_true
def inV (x : V) (xs : List V) : Bool := xs.any fun y => eqV y x
theorem call_len_seq : CallR X (.builtin "len") (fun xs H Q => ∃ p ys, xs = [.ref p] ∧ (SqL X.K H p ys ∨ SqT X.K H p ys) ∧ Q (.int ys.length) H) := by
 intro pins s σ H xs us Q I r h
 obtain ⟨p, ys, rfl, hq, q⟩ := h
 obtain ⟨u, rfl, rx⟩ := vals1 r
 cases rx
 have hn := line63
 rcases hq with hq | hq
 ·obtain ⟨its, r', pl, hz⟩ := I.list hq
  have hlen := r'.length
  exact Calls.call_len_list pl.isList (by simp only [List.size_toArray] <;> omega) ⟨.int ys.length, H, I.tok _, ⟨s.toks + 1, by rw [List.size_toArray, hlen]⟩, q⟩
 ·obtain ⟨its, r', pl, hz⟩ := I.tuple hq
  have hlen := r'.length
  exact len_tuple pl (by simp only [List.size_toArray] <;> omega) ⟨.int ys.length, H, I.tok _, ⟨s.toks + 1, by rw [List.size_toArray, hlen]⟩, q⟩
theorem CallR.or {f : Value} {r r' : List V → Hp → VK → Prop} (h : CallR X f r) (h' : CallR X f r') : CallR X f (fun xs H Q => r xs H Q ∨ r' xs H Q) := by
 intro pins s σ H xs us Q I rs q
 rcases q with q | q
 ·exact h pins s σ H xs us Q I rs q
 ·exact h' pins s σ H xs us Q I rs q
def tyV (K : PySem.W.Frag) (T : String) (x : V) (H : Hp) : Prop := match x with
 | .str _ => T = "str"
 | .int _ => T = "int"
 | .ref p => (T = "list" ∧ ∃ xs, SqL K H p xs) ∨ (T = "tuple" ∧ ∃ o, K.lookup p = some o ∧ o.cls = .type "tuple" ∧ o.dict = none) ∨
   (T = "dict" ∧ ((∃ kvs, H p = some (.dK kvs)) ∨ ∃ kvs, H p = some (.dT kvs))) ∨ (T = "set" ∧ ∃ S n, H p = some (.set S n))
 | _ => False
theorem tyV_is {pins : List (Addr × Obj)} {σ : St} {H : Hp} {s : Shared} {T : String} {x : V} {v : Value} (I : Inv X pins σ H s) (r : RelV x v) (ty : tyV X.K T x H) :
  s.TypeIs v T ∧ ∀ a, v = .ref a → ∃ ob, s.heap.get? a = some ob ∧ ob.dict = none := by
 cases x with
 | str z =>
  obtain ⟨t, rfl⟩ := r
  cases (show T = "str" from ty)
  exact ⟨typeIs_str s z t, fun _ e => nomatch e⟩
 | int i =>
  obtain ⟨t, rfl⟩ := r
  cases (show T = "int" from ty)
  exact ⟨typeIs_int s i t, fun _ e => nomatch e⟩
 | ref p =>
  cases r
  rcases ty with ⟨rfl, xs, hq⟩ | ⟨rfl, o, hk, hc, hd⟩ | ⟨rfl, hk⟩ | ⟨rfl, S, n, hk⟩
  ·obtain ⟨its, _, pl, _⟩ := I.list hq
   refine ⟨pl.isList.typeIs, fun a e => ?_⟩
   cases e
   obtain ⟨o, n, e, c, hd, _⟩ := pl
   exact ⟨o, e, hd⟩
  ·refine ⟨⟨o, I.kIn p o hk, hc⟩, fun a e => ?_⟩
   cases e
   exact ⟨o, I.kIn _ o hk, hd⟩
  ·have z : ∃ o, s.heap.get? p = some o ∧ o.ExactDict := by
    rcases hk with ⟨kvs, hk⟩ | ⟨kvs, hk⟩
    ·obtain ⟨_, _, _, _, o, _, _, e, ex, _⟩ := I.hok p _ hk
     exact ⟨o, e, ex⟩
    ·obtain ⟨_, _, _, _, o, _, _, e, ex, _⟩ := I.hok p _ hk
     exact ⟨o, e, ex⟩
   obtain ⟨o, e, ex⟩ := z
   refine ⟨⟨o, e, ex.1⟩, fun a e2 => ?_⟩
   cases e2
   exact ⟨o, e, ex.2.1⟩
  ·obtain ⟨o, _, _, _, e, ex, _⟩ := I.hok p _ hk
   refine ⟨⟨o, e, ex.1⟩, fun a e2 => ?_⟩
   cases e2
   exact ⟨o, e, ex.2.1⟩
 | _ => exact False.elim ty
def tBM0 (K : PySem.W.Frag) (T : String) (r : V → List V → Hp → VK → Prop) (to : TE) : TE := fun σ H Q => to σ H fun x H1 => tyV K T x H1 ∧ r x [] H1 Q
def tBM (K : PySem.W.Frag) (T : String) (r : V → List V → Hp → VK → Prop) (to : TE) (t : TA) : TE := fun σ H Q => to σ H fun x H1 => tyV K T x H1 ∧ t σ H1 fun xs H2 => r x xs H2 Q
variable {o e : Expr} {es : List Expr} {to : TE} {t : TA} {name : Str} {apos cpos : Pos} {T id : String} {r : V → List V → Hp → VK → Prop}
theorem pe_bm0 (pa : PlainAttrs T) (slot : Slot T name id) (hty : typeOf (.builtin id) = pure (.type "method_descriptor")) (hm : MtR X id r) (ho : PE X o to)
  (hbase : attributeBase o name X.env (eval o X.env) = eval o X.env := by rfl) (hline : (apos.endLine == cpos.line) = true := by rfl) : PE X (.Call (.Attribute o name apos) [] [] cpos) (tBM0 X.K T r to) := by
 refine .mk ?_
 intro pins s σ H Q I h
 refine wpAny_Call_method0_late hbase hline (thn (ho pins s σ H _ I h) fun v s1 ⟨x, H1, I1, r1, ty, q1⟩ => ?_)
 obtain ⟨h1, h2⟩ := tyV_is I1 r1 ty
 exact ⟨T, id, pa, slot, hty, h1, h2, Calls.callWith_builtin rfl (PySem.evalArgs_none (hm pins s1 σ H1 x [] v [] Q I1 r1 .nil q1))⟩
theorem pe_bm (pa : PlainAttrs T) (slot : Slot T name id) (hty : typeOf (.builtin id) = pure (.type "method_descriptor")) (hm : MtR X id r) (ho : PE X o to) (ha : PA X (e :: es) t)
  (hbase : attributeBase o name X.env (eval o X.env) = eval o X.env := by rfl)
  (hfew : ((backTo cpos (starEach (e :: es) X.env)).all (fun x => !x.1) && (backToKw cpos (keywordEach [] X.env)).all (fun x => x.1.isSome)
   && decide ((e :: es).length + ([] : List Keyword).length + (if ([] : List Keyword).isEmpty then 0 else 1) < 30)) = true := by rfl)
  (hline : (apos.endLine == cpos.line) = true := by rfl) (hs : starEach (e :: es) X.env = (false, eval e X.env) :: starEach es X.env := by rfl) (hplain : (backTo cpos (starEach es X.env)).any (·.1) = false := by rfl) :
  PE X (.Call (.Attribute o name apos) (e :: es) [] cpos) (tBM X.K T r to t) := by
 refine .mk ?_
 intro pins s σ H Q I h
 refine wpAny_Call_method_late hbase hfew hline rfl (thn (ho pins s σ H _ I h) fun v s1 ⟨x, H1, I1, r1, ty, q1⟩ => ?_)
 obtain ⟨h1, h2⟩ := tyV_is I1 r1 ty
 refine ⟨T, id, pa, slot, hty, h1, h2, ?_⟩
 have hA := ha cpos pins s1 σ H1 _ I1 q1
 rw [hs] at hA ⊢
 refine Calls.callWith_builtin (by show (false || (backTo cpos (starEach es X.env)).any (·.1)) = false; rw [hplain] <;> rfl) (Calls.evalArgs_plain ?_)
 exact thn hA fun us s2 ⟨vs, H2, I2, r2, q2⟩ => hm pins s2 σ H2 x vs v us Q I2 r1 r2 q2
end
end L2
namespace L2
open PySem PySem.Spec PyProof.Rows
def MtM (X : Cx) (id : String) (r : V → List V → Hp → VK → Prop) : Prop :=
 ∀ (pins : List (Addr × Obj)) (s : Shared) (σ : St) (H : Hp) (x : V) (xs : List V) (v : Value) (us : List Value) (Q : VK), Inv X pins σ H s → RelV x v → Vals xs us → r x xs H Q →
  wpAny (model X.prog X.w) X.A (call (.builtin id) (v :: us)) (EP X pins σ Q) X.xe s
theorem Vals.one : ∀ {x : V} {us : List Value}, Vals [x] us → ∃ u, us = [u] ∧ RelV x u
 | _, _, .cons r .nil => ⟨_, rfl, r⟩
theorem Vals.two : ∀ {x y : V} {us : List Value}, Vals [x, y] us → ∃ u v, us = [u, v] ∧ RelV x u ∧ RelV y v
 | _, _, _, .cons r (.cons q .nil) => ⟨_, _, rfl, r, q⟩
theorem Vals.zero : ∀ {us : List Value}, Vals [] us → us = []
 | _, .nil => rfl
theorem Vals.eraseIdx : ∀ {xs : List V} {us : List Value} (i : Nat), Vals xs us → Vals (xs.eraseIdx i) (us.eraseIdx i)
 | _, _, _, .nil => .nil
 | _, _, 0, .cons _ t => t
 | _, _, i + 1, .cons r t => .cons r (Vals.eraseIdx i t)
theorem Vals.rep {xs : List V} {us : List Value} (h : Vals xs us) : ∀ k : Nat, Vals (List.replicate k xs).flatten (List.replicate k us).flatten
 | 0 => .nil
 | k + 1 => by
  rw [List.replicate_succ, List.replicate_succ, List.flatten_cons, List.flatten_cons]
  exact Vals.append h (Vals.rep h k)
theorem len_erase {α : Type} : ∀ (l : List α) (i : Nat), (l.eraseIdx i).length ≤ l.length
 | [], _ => Nat.le_refl _
 | _ :: _, 0 => Nat.le_succ _
 | _ :: r, i + 1 => Nat.succ_le_succ (len_erase r i)
theorem foldl_rep (its : List Value) : ∀ (k : Nat) (acc : List Value),
  List.foldl (fun x1 x2 => x1 ++ x2) acc.toArray (List.replicate k its.toArray) = (acc ++ (List.replicate k its).flatten).toArray
 | 0, acc => by simp
 | k + 1, acc => by
  have e : acc.toArray ++ its.toArray = (acc ++ its).toArray := by simp
  have e2 : (acc ++ its) ++ (List.replicate k its).flatten = acc ++ (List.replicate (k + 1) its).flatten := by
   rw [List.replicate_succ, List.flatten_cons, List.append_assoc]
  rw [← e2, ← foldl_rep its k (acc ++ its), ← e, List.replicate_succ, List.foldl_cons]
section
variable {X : Cx} {pins : List (Addr × Obj)} {σ : St} {H : Hp} {s : Shared} {l b : Addr} {xs ys zs : List V}
theorem Inv.lset {its its' : List Value} {n : Nat} {f : Array Value → Array Value} {t' : Nat} (I : Inv X pins σ H s) (hH : H l = some (.lst xs))
  (e : s.heap.get? l = some { cls := .type "list", data := .seq its.toArray n }) (hf : f its.toArray = its'.toArray) (hv : Vals ys its') (hz : ys.length ≤ sizeLine) :
  Inv X pins σ (upd H l (.lst ys)) { s with heap := s.heap.update l (Obj.mapSeq f), toks := t' } := by
 have q := PySem.IsL.update e f
 rw [hf] at q
 refine I.write (x := l) (e := l) (by rw [hH]; exact trivial) (.inl rfl) (fun b' u hb hu => (Heap.get?_update_other s.heap (Obj.mapSeq f) (Ne.symm hb)).trans hu) ⟨_, q⟩ ?_
 exact ⟨hz, its', _, hv, q⟩
theorem Inv.lnew {its : List Value} {t' : Nat} (I : Inv X pins σ H s) (hv : Vals ys its) (hz : ys.length ≤ sizeLine) :
  Inv X pins σ (upd H s.heap.objs.size (.lst ys)) { s with heap := s.heap.push { cls := .type "list", data := .seq its.toArray }, toks := t' } :=
 I.laid (fun _ _ q => Heap.get?_push_of_some _ q) (Nat.le_refl _) ⟨hz, its, 0, hv, Heap.get?_push_size _ rfl⟩
theorem Inv.fresh (I : Inv X pins σ H s) : H s.heap.objs.size = none := I.hok.fresh (Nat.le_refl _)
theorem Inv.lstM (I : Inv X pins σ H s) (hH : H l = some (.lst xs)) : xs.length ≤ sizeLine ∧ ∃ (its : List Value) (n : Nat), Vals xs its ∧ xs.length = its.length ∧ s.heap.get? l = some { cls := .type "list", data := .seq its.toArray n } := by
 obtain ⟨z, its, n, r, e⟩ := I.hok l _ hH
 exact ⟨z, its, n, r, r.length, e⟩
theorem notLongL {n : Nat} (h : n ≤ sizeLine) : Builtin.List.listTooLong n = false := by
 unfold Builtin.List.listTooLong
 exact decide_eq_false (by omega)
end
section
variable {X : Cx}
def rAppend : V → List V → Hp → VK → Prop := fun x vs H Q => ∃ l xs y, x = .ref l ∧ vs = [y] ∧ H l = some (.lst xs) ∧ xs.length < sizeLine ∧ Q .non (upd H l (.lst (xs ++ [y])))
theorem mt_append : MtM X "list.append" rAppend := by
 intro pins s σ H x vs v us Q I rx rv h
 obtain ⟨l, xs, y, rfl, rfl, hH, hz, q⟩ := h
 cases rx
 obtain ⟨u, rfl, ru⟩ := rv.one
 obtain ⟨z, its, n, r, hl, e⟩ := I.lstM hH
 refine call_meets F.slot_list_append ⟨_, e, rfl⟩ F.entry_list_append (F.args_list_append_2 _ _) (PySem.list_append l its.toArray n u (by rw [List.size_toArray]; omega)) ⟨e, ?_⟩
 refine ⟨.non, _, I.lset (its' := its ++ [u]) hH e (by simp) (r.append (.cons ru .nil)) ?_, rfl, q⟩
 rw [List.length_append, List.length_singleton]
 omega
def rPopAt : V → List V → Hp → VK → Prop := fun x vs H Q => ∃ l xs i k y, x = .ref l ∧ vs = [.int i] ∧ H l = some (.lst xs) ∧ -(2 ^ 63) ≤ i ∧ i < 2 ^ 63 ∧ seqIndex? i xs.length = some k ∧ xs[k]? = some y ∧ Q y (upd H l (.lst (xs.eraseIdx k)))
theorem mt_popAt : MtM X "list.pop" rPopAt := by
 intro pins s σ H x vs v us Q I rx rv h
 obtain ⟨l, xs, i, k, y, rfl, rfl, hH, h1, h2, hk, hy, q⟩ := h
 cases rx
 obtain ⟨u, rfl, ru⟩ := rv.one
 obtain ⟨t, rfl⟩ := ru
 obtain ⟨z, its, n, r, hl, e⟩ := I.lstM hH
 obtain ⟨w, hw, rw'⟩ := r.get hy
 refine call_meets F.slot_list_pop ⟨_, e, rfl⟩ F.entry_list_pop (F.args_list_pop_2 _ _)
  (MeetsSeq.list_pop_at l its.toArray n i t k w (fitsIndex_both h1 h2) (by rw [List.size_toArray, ← hl]; exact hk) (by rw [← Array.getElem?_toList]; exact hw) (by rw [List.size_toArray]; omega)) ⟨e, ?_⟩
 refine ⟨y, _, I.lset (its' := its.eraseIdx k) hH e ?_ (r.eraseIdx k) ?_, rw', q⟩
 ·show its.toArray.eraseIdxIfInBounds k = (its.eraseIdx k).toArray
  rw [List.eraseIdxIfInBounds_toArray]
 ·have := len_erase xs k
  omega
def rCat : R2 := fun x y H Q => ∃ l b xs zs, x = .ref l ∧ y = .ref b ∧ H l = some (.lst xs) ∧ H b = some (.lst zs) ∧ xs.length + zs.length ≤ sizeLine ∧ ∀ p, H p = none → Q (.ref p) (upd H p (.lst (xs ++ zs)))
theorem op_cat : OpR X (binaryOp .Add) rCat := by
 intro pins s σ H x y v u Q I rx ry h
 obtain ⟨l, b, xs, zs, rfl, rfl, hH, hB, hz, q⟩ := h
 cases rx
 cases ry
 obtain ⟨z, its, n, r, hl, e⟩ := I.lstM hH
 obtain ⟨z2, its2, n2, r2, hl2, e2⟩ := I.lstM hB
 refine PySem.P.add_list e e2 ?_ (by rw [List.size_toArray, List.size_toArray]; omega)
 have ea : its.toArray ++ its2.toArray = (its ++ its2).toArray := by simp
 rw [ea]
 exact ⟨.ref _, _, I.lnew (t' := s.toks) (r.append r2) (by rw [List.length_append]; omega), rfl, q _ I.fresh⟩
def rRep : R2 := fun x y H Q => ∃ l k xs, x = .ref l ∧ y = .int k ∧ H l = some (.lst xs) ∧ -(2 ^ 63) ≤ k ∧ k < 2 ^ 63 ∧ xs.length * k.toNat ≤ sizeLine ∧
 ∀ p, H p = none → Q (.ref p) (upd H p (.lst (List.replicate k.toNat xs).flatten))
theorem len_rep {α : Type} (xs : List α) (k : Nat) : (List.replicate k xs).flatten.length = k * xs.length := by
 induction k with
 | zero => simp
 | succ k ih => rw [List.replicate_succ, List.flatten_cons, List.length_append, ih, Nat.succ_mul, Nat.add_comm]
theorem op_rep : OpR X (binaryOp .Mult) rRep := by
 intro pins s σ H x y v u Q I rx ry h
 obtain ⟨l, k, xs, rfl, rfl, hH, h1, h2, hz, q⟩ := h
 cases rx
 obtain ⟨t, rfl⟩ := ry
 obtain ⟨z, its, n, r, hl, e⟩ := I.lstM hH
 have hlen : its.toArray.size * k.toNat ≤ sizeLine := by rw [List.size_toArray, ← hl]; exact hz
 have hcap : ¬ its.toArray.size * k.toNat > (2 ^ 63 - 1) / 8 := by
  have : (sizeLine : Nat) ≤ (2 ^ 63 - 1) / 8 := by decide
  omega
 have hfit : ¬ (!Builtin.List.listFitsIndex k) = true := by
  rw [fitsIndex_both h1 h2]
  exact Bool.false_ne_true
 have hlong : ¬ Builtin.List.listTooLong (its.toArray.size * k.toNat) = true := by
  rw [notLongL hlen]
  exact Bool.false_ne_true
 have hnew : List.foldl (fun x1 x2 => x1 ++ x2) #[] (List.replicate (if its.toArray.isEmpty = true then 0 else k.toNat) its.toArray) = (List.replicate k.toNat its).flatten.toArray := by
  have f0 : ∀ m : Nat, List.foldl (fun x1 x2 => x1 ++ x2) #[] (List.replicate m its.toArray) = (List.replicate m its).flatten.toArray := fun m => by
   have := foldl_rep its m []
   rw [List.nil_append] at this
   exact this
  rw [f0]
  cases its with
  | nil => simp
  | cons a r' => rw [if_neg (by simp)]
 refine wpAny_binaryOp_repeat_ref (T := "list") (U := "int") (by decide) ⟨_, e, rfl⟩ (fun s' => typeIs_int s' k t) noFill_list_mul F.fills_int_mul F.slot_int_rmul repeat_list F.slot_int_index.lookup
  (call_meets F.slot_int_rmul (typeIs_int s k t) F.entry_int_rmul (F.args_int_rmul_2 _ _) (int___rmul___int_list k t l its.toArray n)
   ⟨e, rfl, ⟨_, e, rfl⟩, call_meets F.slot_list_mul ⟨_, e, rfl⟩ F.entry_list_mul (F.args_list_mul_2 _ _) (AutoListH.list___mul___list_int_3 l its.toArray n k t hfit hcap hlong) ⟨e, ?_⟩⟩)
 rw [hnew]
 exact ⟨.ref _, _, I.lnew (t' := s.toks) (r.rep k.toNat) (by rw [len_rep, Nat.mul_comm]; exact hz), rfl, q _ I.fresh⟩
end
section
variable {prog : Program} {w : World} {A : Around} {E : Value → Shared → Prop} {s : Shared}
theorem splice_eq (its its2 : List Value) (a c : Nat) : its.toArray.extract 0 a ++ its2.toArray ++ its.toArray.extract c its.toArray.size = (its.take a ++ its2 ++ its.drop c).toArray := by
  apply Array.toList_inj.mp
  first
    | (simp
       exact List.take_of_length_le (by simp))
    | simp [List.take_of_length_le]
    | simp
theorem bounds_run {a c n : Nat} (hac : a ≤ c) (hc : c ≤ n) : sliceBounds (some (a : Int)) (some (c : Int)) none n = ((a : Int), (c : Int), 1) := by
 simp only [sliceBounds, Option.getD_none]
 have h1 : ¬ ((a : Int) < 0) := by omega
 have h2 : ¬ ((c : Int) < 0) := by omega
 simp only [h1, h2, if_false, show (1 : Int) > 0 by decide, if_true]
 congr 1
 ·omega
 ·congr 1; omega
set_option maxRecDepth 100000 in
theorem setItem_slice {l b sl : Addr} {items new : Array Value} {n n2 : Nat} {vl vu : Value} {a c : Nat} {Q : Unit → Shared → Prop}
    (e : s.heap.get? l = some { cls := .type "list", data := .seq items n }) (e2 : s.heap.get? b = some { cls := .type "list", data := .seq new n2 }) (hne : l ≠ b)
    (hs : s.heap.IsSliceOf sl vl vu .none) (pl : IsPart vl (some (a : Int))) (pu : IsPart vu (some (c : Int))) (hac : a ≤ c) (hc : c ≤ items.size)
    (hsz : items.size + new.size ≤ sizeLine) (h : Q () { s with heap := s.heap.update l (Obj.mapSeq fun xs => xs.extract 0 a ++ new ++ xs.extract c xs.size) }) :
    wpAny (model prog w) A (setItem (.ref l) (.ref sl) (.ref b)) Q E s := by
  have hl : s.heap.IsList l items := PySem.IsL.isList e
  have hb : s.heap.IsList b new := PySem.IsL.isList e2
  obtain ⟨os, hos, hcs, hds⟩ := id hs
  have hTs : s.TypeIs (.ref sl) "slice" := ⟨os, hos, hcs⟩
  have hstep : ¬ ((rawPart none == rawInt 0) = true) := Bool.false_ne_true
  have hsame : Builtin.List.listSameRef (.ref l) (.ref b) = false := by
    unfold Builtin.List.listSameRef
    exact beq_eq_false_iff_ne.mpr hne
  have hmax : (max (a : Int) (c : Int)).toNat = c := by omega
  have hz' : ((fun xs : Array Value => xs.extract 0 a ++ new ++ xs.extract c xs.size) items).size ≤ sizeLine + 1 := by
    simp only [Array.size_append, Array.size_extract]
    omega
  unfold setItem
  try with_reducible refine wpAny_holding ?_
  first | refine wpAny_bind (wpAny_pure ?_) | skip
  refine wpAny_bind (wpAny_sequenceKey hl.typeIs (by decide) ?_)
  refine wpAny_bind (wpAny_callSpecial?_slot (name := Str.ofString "__setitem__") hl.typeIs slot_list_setitem
    (wpAny_call_entry slot_list_setitem hl.typeIs entry_list_setitem ?_ (args_list_setitem _ _ _)))
  show wpAny _ _ (Builtin.List.listSubscript? (.ref sl) >>= _) _ _ s
  refine wpAny_bind ?_
  unfold Builtin.List.listSubscript?
  refine wpAny_bind (wpAny_specialOf hTs slice_no_index ?_)
  simp only [Option.isNone_none, if_true]
  refine wpAny_pure ?_
  show wpAny _ _ (typeOf (.ref sl) >>= _) _ _ s
  refine wpAny_bind (wpAny_typeOf hTs ?_)
  first
    | rw [if_neg (by decide)]
    | refine PySem.W.KFB.if_not (by decide) ?_
  rw [listSliceParts_eq]
  refine wpAny_bind (wpAny_bind (wpAny_field hos hds (x := .none) rfl (wpAny_bind (wpAny_listPart .none ?_))))
  rw [if_neg hstep]
  refine wpAny_bind (wpAny_field hos hds (x := vl) rfl (wpAny_bind (wpAny_listPart pl ?_)))
  refine wpAny_bind (wpAny_field hos hds (x := vu) rfl (wpAny_bind (wpAny_listPart pu (wpAny_pure ?_))))
  first
    | simp only [hsame, Bool.false_eq_true, if_false]
    | refine PySem.W.KFB.if_not hsame ?_
    | (dsimp only
       rw [if_neg (by rw [hsame]; exact Bool.false_ne_true)])
  refine wpAny_bind (m := Builtin.List.listAllItems (.ref b) "must assign iterable to extended slice") ?_
  unfold Builtin.List.listAllItems
  refine wpAny_bind (wpAny_typeOf hb.typeIs ?_)
  first
    | refine PySem.W.KFB.if_so (by decide) ?_
    | rw [if_pos (by decide)]
    | simp only [beq_self_eq_true, Bool.true_or, if_true]
  unfold Builtin.List.listItems
  refine wpAny_bind (wpAny_seqItems e2 rfl (wpAny_pure ?_))
  refine wpAny_bind (wpAny_bind (wpAny_seqItems e rfl (wpAny_pure ?_)))
  refine wpAny_bind (wpAny_of_eq ((sliceIndices_raw (some (a : Int)) (some (c : Int)) none items.size (by simp)).trans (congrArg (pure : Int × Int × Int → Sem (Int × Int × Int)) (bounds_run hac hc))) ?_)
  show wpAny _ _ (if ((1 : Int) == 1) = true then _ else _) _ _ s
  rw [if_pos (by decide)]
  refine wpAny_bind (wpAny_rule ?_)
  first
    | simp only [notLongL hsz, Bool.false_eq_true, if_false]
    | refine PySem.W.KFB.if_not (notLongL hsz) ?_
  first | refine wpAny_bind (wpAny_pure ?_) | skip
  show wpAny _ _ (updateSeq l (fun xs => xs.extract 0 ((a : Int)).toNat ++ new ++ xs.extract (max (a : Int) (c : Int)).toNat xs.size) >>= _) _ _ s
  rw [hmax, Int.toNat_natCast]
  refine wpAny_bind (wpAny_updateSeq (hz := Nat.le_trans (Nat.le_add_right _ _) hsz) (_hz' := hz') e rfl ?_)
  refine wpAny_bind (wpAny_letGo ?_)
  first
    | exact wpAny_bind (wpAny_pure (wpAny_pure ⟨.none, rfl, wpAny_pure h⟩))
    | exact wpAny_pure ⟨.none, rfl, wpAny_pure h⟩
end
section
variable {X : Cx}
theorem set_slice {pins : List (Addr × Obj)} {s : Shared} {σ : St} {H : Hp} {l b sl : Addr} {xs ys : List V} {a c : Int} {vl vu : Value} {Q : Unit → Shared → Prop} (I : Inv X pins σ H s)
  (hH : H l = some (.lst xs)) (hB : H b = some (.lst ys)) (hne : l ≠ b) (hs : s.heap.IsSliceOf sl vl vu .none) (ra : RelV (.int a) vl) (rc : RelV (.int c) vu) (h0 : 0 ≤ a) (hac : a ≤ c) (hc : c ≤ xs.length)
  (hz : xs.length + ys.length ≤ sizeLine) (h : ∀ s', Inv X pins σ (upd H l (.lst (xs.take a.toNat ++ ys ++ xs.drop c.toNat))) s' → Q () s') :
  wpAny (model X.prog X.w) X.A (setItem (.ref l) (.ref sl) (.ref b)) Q X.xe s := by
 obtain ⟨ta, rfl⟩ := ra
 obtain ⟨tc, rfl⟩ := rc
 obtain ⟨z, its, n, r, hl, e⟩ := I.lstM hH
 obtain ⟨z2, its2, n2, r2, hl2, e2⟩ := I.lstM hB
 obtain ⟨a', rfl⟩ := Int.eq_ofNat_of_zero_le h0
 obtain ⟨c', rfl⟩ := Int.eq_ofNat_of_zero_le (Int.le_trans h0 hac)
 simp only [Int.toNat_natCast] at h
 refine setItem_slice (a := a') (c := c') e e2 hne hs (.int _ _) (.int _ _) (by omega) (by rw [List.size_toArray]; omega) (by rw [List.size_toArray, List.size_toArray]; omega) (h _ ?_)
 refine I.lset (its' := its.take a' ++ its2 ++ its.drop c') (t' := s.toks) hH e ?_ (Vals.append (Vals.append (r.take _) r2) (r.drop _)) ?_
 ·exact splice_eq its its2 a' c'
 ·rw [List.length_append, List.length_append, List.length_take, List.length_drop]
  omega
end
end L2
namespace Att
open PySem PySem.W PySem.Calls PyProof.Rows
theorem ints_of_wellAll {P : Params} {h : Heap} : ∀ (ns : List Int) (vs : List Value), WellAll P h vs (ns.map WData.int) → IntsAre vs ns := by
 intro ns
 induction ns with
 | nil =>
  intro vs w
  rw [List.map_nil] at w
  cases w
  exact .nil
 | cons n ns ih =>
  intro vs w
  rw [List.map_cons] at w
  cases w with
  | cons a b =>
   cases a
   exact .cons _ _ (ih _ b)
theorem script_of {l : OpenLaw} {n : Nat} (hn : l.most = some n) {P : Params} {h : Heap} {args : List WData} {vals : List Value}
  (hpre : l.row.toRowW.claim.pre args = true) (hwl : WellAll P h vals args) :
  ∃ a vs ns, vals = [Value.ref a] ∧ args = [WData.list (ns.map WData.int)] ∧ h.get? a = some { cls := .type "list", data := .seq vs.toArray } ∧ IntsAre vs ns ∧ ns.length ≤ n := by
 have hsh : WShape.hasAll [] args [.list .int] = true := (pre_splitW hpre).1
 have hc : l.pre.holds [] { args := args } = true := (pre_splitW hpre).2
 obtain ⟨d, r, rfl, h1, h2⟩ := hasAllW_cons hsh
 obtain rfl := hasAllW_nil h2
 obtain ⟨xs, rfl, h3⟩ := hasW_list h1
 obtain ⟨ns, rfl⟩ := items_int h3
 have hlen : ns.length ≤ n := by
  unfold OpenLaw.pre at hc
  have h4 : (WTm.not (.lt (.lit (.int (n : Int))) (.len (.arg 0)))).holds [] { args := [.list (ns.map .int)] } = true := by
   have h4 := (holds_andW hc).1
   rw [hn] at h4
   exact h4
  have h5 := condW_of h4 (w_not (w_lt w_lit (w_len_list (w_arg rfl))))
  rw [List.length_map] at h5
  refine Nat.le_of_not_lt fun q => ?_
  have q' : (n : Int) < ((ns.length : Nat) : Int) := by omega
  first
   | (rw [decide_eq_true q'] at h5; exact absurd h5 (by decide))
   | (simp at h5; omega)
 cases hwl with
 | cons w1 w2 =>
  cases w2
  cases w1 with
  | list ho hall => exact ⟨_, _, ns, rfl, rfl, ho, ints_of_wellAll ns _ hall, hlen⟩
theorem post_true (l : OpenLaw) (args : List WData) : l.row.toRowW.claim.post args (.bool true) args = true :=
 postW_of (r := l.row.toRowW) (X := (true == true))
  (show WShape.has [] (.bool true) .bool = true by first | rfl | decide | simp [WShape.has, WShape.arms, WShape.armsAll])
  (show (WTm.eq .res (.lit (.bool true))).value [] { args := args, res := some (.bool true), after := args } = some (.bool (true == true)) from w_eq_bool (w_res rfl) w_lit) rfl
theorem attach_call {l : OpenLaw} {n : Nat} {q : Program} {loose : List Str} {XP : (Str → Option Value) → Heap → Prop} {YP : World → Heap → Prop} {d : DefRec}
  (hn : l.most = some n) (hdf : d.params.defaults = [])
  (call : ∀ (w : World) (s₀ s₁ : Shared) (mg mb : Str → Option Value) (fa : Addr) (o : Obj) (pm cd doc : Value) (a : Addr) (vs : List Value) (ns : List Int),
   Ground q loose [] XP w s₀ mg mb s₁.heap → YP w s₁.heap →
   s₁.heap.get? fa = some o → o.data = .func (docDef d.name d.params d.body d.scope pm cd doc) → s₁.heap.CodeRec cd d.name → mg d.name = some (.ref fa) →
   s₁.heap.get? a = some { cls := .type "list", data := .seq vs.toArray } → IntsAre vs ns → ns.length ≤ n → s₁.gens = #[] →
   codeAny (model l.prog w) callerA (.call (.ref fa) ⟨[.ref a], []⟩) (fun r s' => r = .ok (.ret (.bool true)) ∧ OldK s₁.heap s'.heap ∧ s'.os = s₁.os ∧ AllBare s'.gens) s₁) :
  WalkO q loose XP YP l.row.toRowW d [] (fun f vs => PySem.call f vs) := by
 intro w s₀ s₁ mg mb G Y fa o pm cd doc dV kV ho hd hcd hD hmg hg args vals as hpre hlay hrd hwl hlo
 obtain rfl : dV = .none := Dflts.none hD hdf
 obtain rfl : kV = .none := Dflts.noKw hD
 obtain ⟨a, vs, ns, rfl, rfl, hobj, hints, hlen⟩ := script_of hn hpre hwl
 refine enter_call (codeAny_mono (call w s₀ s₁ mg mb fa o pm cd doc a vs ns G Y ho (fd_plain hd) hcd hmg hobj hints hlen hg) fun r s' hq => ?_)
 obtain ⟨rfl, h2, h3, h4⟩ := hq
 exact ⟨.inl ⟨.bool true, .bool true, [], rfl, fun _ => rfl, .bool true, post_true l _, fun _ => ⟨List.Pairwise.nil, fun _ hm => (nomatch hm)⟩⟩, h2, h3, h4⟩
section
variable {prog : Program} {w : World} {A : Around} {E : Value → Shared → Prop} {s : Shared} {K : Frag}
end
end Att
namespace L2
open PySem PySem.Spec PyProof.Rows
theorem vals_ints : ∀ {vs : List Value} {ns : List Int}, IntsAre vs ns → Vals (ns.map V.int) vs
 | _, _, .nil => .nil
 | _, _, .cons n t h => .cons ⟨t, rfl⟩ (vals_ints h)
def Only (H : Hp) : Prop := ∀ b, H b = none ∨ ∃ o xs, H b = some (.frz o (.lst xs))
theorem law_call {P : Program} {w : World} {K : PySem.W.Frag} {mg mb : Str → Option Value} {CX : CXT} {k : Nat} {fa a : Addr} {fd : FuncData} {x : Str} {sp : Sp} {s₁ : Shared} {vs : List Value} {ns : List Int}
  (KX : K.In s₁.heap) (hns : s₁.heap.Ns mainGlobals mg) (hb : s₁.heap.Ns builtinsNs mb) (hbb : ∀ x : Str, x ≠ "__name__" → mb x = bootBuiltins x) (hlim : s₁.heap.NoLimit) (hg : s₁.gens = #[])
  (ha : s₁.heap.get? a = some { cls := .type "list", data := .seq vs.toArray }) (hi : IntsAre vs ns) (hl : ns.length ≤ sizeLine) (hr : Room k callerA)
  (F : ∀ base : Heap, K.In base → base.Ns mainGlobals mg → FnOk P w K mg base CX k fa fd [x] sp) (hbind : ∀ (s : Shared) (u : Value), BindsTo s fd ⟨[u], []⟩ [(x, u)])
  (hsp : ∀ H : Hp, Only H → SqL K H a (ns.map V.int) → sp [.ref a] H (fun v _ => v = .bl true) fun _ _ _ => False)
  (hCX : ∀ H e s', CX [] H s₁ (fun _ _ _ => False) e s' → False) :
  codeAny (model P w) callerA (.call (.ref fa) ⟨[.ref a], []⟩) (fun r s' => r = .ok (.ret (.bool true)) ∧ OldK s₁.heap s'.heap ∧ s'.os = s₁.os ∧ AllBare s'.gens) s₁ := by
 have rv := vals_ints hi
 have lenV := hi.length
 -- from an abstract heap in which nothing but the script may be tracked
 have core : ∀ H : Hp, Only H → SqL K H a (ns.map V.int) → HOk P w H s₁.heap → (∀ b, H b ≠ none → b = a) → (H a ≠ none → K.lookup a = none) →
   codeAny (model P w) callerA (.call (.ref fa) ⟨[.ref a], []⟩) (fun r s' => r = .ok (.ret (.bool true)) ∧ OldK s₁.heap s'.heap ∧ s'.os = s₁.os ∧ AllBare s'.gens) s₁ := by
  intro H hO hS hok hA hK
  have base_of : ∀ {b : Addr} {o : Obj}, s₁.heap.get? b = some o → H b = none → (hidT s₁.heap H).get? b = some o := fun e n => hidT_get e n
  have noA : ∀ {b : Addr} {o : Obj} {es : Array DictEntry} {ep : Nat}, s₁.heap.get? b = some o → o.data = .dict es ep → H b = none := fun {b o es ep} e d => by
   cases q : H b with
   | none => rfl
   | some u =>
    have e' : b = a := hA b (by rw [q]; simp)
    subst e'
    rw [ha] at e; cases e
    have d' : Data.seq vs.toArray _ = Data.dict es ep := d
    cases d'
  have nsK : ∀ {b : Addr} {m : Str → Option Value}, s₁.heap.Ns b m → (hidT s₁.heap H).Ns b m := fun {b m} ⟨o, es, ep, e, d, r⟩ => ⟨o, es, ep, base_of e (noA e d), d, r⟩
  have hKb : K.In (hidT s₁.heap H) := fun b o e => base_of (KX b o e) (by
   cases q : H b with
   | none => rfl
   | some u =>
    have e' : b = a := hA b (by rw [q]; simp)
    subst e'
    rw [hK (by rw [q]; simp)] at e; cases e)
  have hM : Mod K mg (hidT s₁.heap H) := ⟨hKb, nsK hns, ⟨mb, nsK hb, hbb⟩, let ⟨mc, h1, h2⟩ := hlim; ⟨mc, nsK h1, h2⟩⟩
  have e0 : Env0 P w K mg (hidT s₁.heap H) callerA [] s₁ H := ⟨rfl, hM, fun b o e => of_hidT e, Nat.le_of_eq (hidT_size _ _), trivial, fun b hb => absurd (show b ∈ ([] : List Addr) from hb) (by simp), hok, .of_eq hg⟩
  refine codeAny_mono ((F _ hKb (nsK hns)).run callerA [] s₁ H ⟨[.ref a], []⟩ [.ref a] [.ref a] _ _ hr e0 (hbind s₁ (.ref a)) (.cons rfl .nil) (hsp H hO hS)) fun r s' h => ?_
  cases r with
  | error e => exact (hCX H e s' h).elim
  | ok fl =>
   cases fl with
   | next => exact False.elim h
   | brk => exact False.elim h
   | cont => exact False.elim h
   | ret u =>
    obtain ⟨v, H', os, bare, un, hok', r', q⟩ := h
    have q' : v = .bl true := q
    subst q'
    obtain rfl : u = Value.bool true := r'
    refine ⟨rfl, OldK.of_keep fun b o e => ?_, os, bare⟩
    cases q : H b with
    | none => exact un.keep b o e q (by intro z; exact absurd (show b ∈ ([] : List Addr) from z) (by simp)) (by simp)
    | some u =>
     rcases hO b with z | ⟨ob, xs, z⟩
     ·rw [q] at z; cases z
     ·have z2 := un.frzs b ob _ z
      obtain ⟨e1, _⟩ := hok b _ z
      obtain ⟨e2, _⟩ := hok' b _ z2
      rw [e] at e1; cases e1
      exact e2
 cases hk : K.lookup a with
 | some o =>
  -- the script is one of the module's own objects
  have e := KX a o hk
  rw [ha] at e
  cases e
  refine core (fun _ => none) (fun _ => .inl rfl) (.inr ⟨_, vs.toArray, _, hk, rfl, rfl, rfl, by rw [List.size_toArray, lenV]; exact hl, by simpa using rv⟩) (fun b u z => by have z' : (none : Option HO) = some u := z; cases z') (fun b z => absurd rfl z) fun z => absurd rfl z
 | none =>
  refine core (fun b => if b = a then some (.frz { cls := .type "list", data := .seq vs.toArray } (.lst (ns.map V.int))) else none) (fun b => ?_) (.inl (.inr ⟨{ cls := .type "list", data := .seq vs.toArray }, if_pos rfl⟩)) (fun b u z => ?_) (fun b z => ?_) fun _ => hk
  ·by_cases hb : b = a
   ·exact .inr ⟨_, _, if_pos hb⟩
   ·exact .inl (if_neg hb)
  ·by_cases hb : b = a
   ·have z' := (if_pos hb).symm.trans z
    cases z'
    subst hb
    exact ⟨ha, by rw [List.length_map]; exact hl, vs, _, rv, ha⟩
   ·have z' := (if_neg hb).symm.trans z
    cases z'
  ·by_cases hb : b = a
   ·exact hb
   ·exact absurd (if_neg hb) z
end L2
namespace L2
open PySem PySem.Spec PyProof.Rows
theorem walk_of {l : PySem.W.OpenLaw} {n k : Nat} {q : Program} {loose : List Str} {XP : (Str → Option Value) → Heap → Prop} {YP : World → Heap → Prop} {d : DefRec} {K : Params → PySem.W.Frag} {CX : World → CXT} {sp : World → Sp} {x : Str}
  (hn : l.most = some n) (hn2 : n ≤ sizeLine) (hdf : d.params.defaults = []) (hr : Room k callerA)
  (hY : ∀ (w : World) (h : Heap), YP w h → (K w.params).In h)
  (F : ∀ (w : World) (mg : Str → Option Value) (fa : Addr) (h : Heap), (K w.params).In h → h.Ns mainGlobals mg → mg d.name = some (.ref fa) →
   ∃ fd : FuncData, (∀ (s : Shared) (u : Value), BindsTo s fd ⟨[u], []⟩ [(x, u)]) ∧
    ∀ base : Heap, (K w.params).In base → base.Ns mainGlobals mg → FnOk l.prog w (K w.params) mg base (CX w) k fa fd [x] (sp w))
  (hsp : ∀ (w : World) (H : Hp) (a : Addr) (ns : List Int), ns.length ≤ n → Only H → SqL (K w.params) H a (ns.map V.int) → sp w [.ref a] H (fun v _ => v = .bl true) fun _ _ _ => False)
  (hCX : ∀ (w : World) (H : Hp) (s : Shared) (e : Value) (s' : Shared), CX w [] H s (fun _ _ _ => False) e s' → False) :
  PySem.W.WalkO q loose XP YP l.row.toRowW d [] (fun f vs => PySem.call f vs) := by
 refine Att.attach_call hn hdf fun w s₀ s₁ mg mb fa o pm cd doc a vs ns G Y ho hd hcd hmg hobj hints hlen hg => ?_
 have KX := hY w _ Y
 obtain ⟨fd, hb, hF⟩ := F w mg fa _ KX G.T.g hmg
 exact law_call KX G.T.g G.T.b G.T.builtins G.T.nolimit hg hobj hints (Nat.le_trans hlen hn2) hr hF hb (fun H hO hS => hsp w H a ns hlen hO hS) fun H e s' => hCX w H s₁ e s'
end L2
namespace L2
open PySem PySem.Spec PyProof.Rows
def defArgs (s : Stmt) : Arguments := match s with
 | .FunctionDef _ a _ _ _ _ _ _ _ _ => a
 | _ => { posonlyargs := [], args := [], vararg := none, kwonlyargs := [], kw_defaults := [], kwarg := none, defaults := [] }
def defBody (s : Stmt) : List Stmt := match s with
 | .FunctionDef _ _ b _ _ _ _ _ _ _ => b
 | _ => []
def defScope (s : Stmt) : Scope := match s with
 | .FunctionDef _ _ _ _ _ _ sc _ _ _ => sc
 | _ => { kind := .function, names := [], isGenerator := false, isCoroutine := false }
abbrev CX0 : CXT := fun _ _ _ _ _ _ => False
abbrev E0 : XK := fun _ _ _ => False
theorem pass0 {X : Cx} : Passes CX0 X E0 := fun _ _ _ _ _ _ _ h => h.elim
structure Fun (K : PySem.W.Frag) (x qual : Str) (st : Stmt) (f : Addr) (fd : FuncData) : Prop where
 ex : ∃ (oc : Value) (od : Option Addr) (kV doc pm : Value) (an : Option Addr) (cdv ct : Value) (osl : Array (Option Value)),
  fd = PySem.W.fnOf x qual (defArgs st) (defBody st) (defScope st) .none kV doc pm an cdv ct ∧ K.lookup f = some ⟨oc, od, .func fd, osl⟩ ∧ PySem.W.codeIn K cdv qual = true
 kp : PySem.W.keepIn K (.ref f) = true
section
variable {P : Program} {w : World} {K : PySem.W.Frag} {mg : Str → Option Value} {base : Heap}
theorem Fun.ok {x qual : Str} {st : Stmt} {f : Addr} {fd : FuncData} {N ps : List Str} {k : Nat} {sp : Sp} (F : Fun K x qual st f fd) (S : FnScope N ps (defScope st)) (len : ∀ vs H Q E, sp vs H Q E → vs.length = ps.length)
  (hbody : ∀ (cdv : Value) (A : Around) (outer : List Env) (s : Shared) (H : Hp) (vs : List V) (Q : VK) (E : XK), Room k (A.deeper (envOfC qual (defScope st) s.heap.objs.size f cdv)) → sp vs H Q E →
   ∃ t, PSs (cxOf CX0 P w K mg base N qual (defScope st) f cdv A outer s H E).nox (defBody st) t ∧ t { nx := fun _ H' => Q .non H', rt := Q } (start N vs) H) : FnOk P w K mg base CX0 (k + 1) f fd ps sp := by
 obtain ⟨oc, od, kV, doc, pm, an, cdv, ct, osl, rfl, lk, hcd⟩ := F.ex
 refine fn_of lk hcd S len fun A outer s H vs Q E hr hsp => ?_
 obtain ⟨t, h, q⟩ := hbody cdv A outer s H vs Q E hr hsp
 exact ⟨t, h.nox, q⟩
theorem Fun.binds {x qual : Str} {st : Stmt} {f : Addr} {fd : FuncData} {ps : List Str} (F : Fun K x qual st f fd)
  (h : ∀ (kV doc pm : Value) (an : Option Addr) (cdv ct : Value) (us : List Value), us.length = ps.length → bindArgs (PySem.W.fnOf x qual (defArgs st) (defBody st) (defScope st) .none kV doc pm an cdv ct) ⟨us, []⟩ = pure (ps.zip us)) : Binds K fd ps [] := by
 obtain ⟨oc, od, kV, doc, pm, an, cdv, ct, osl, rfl, lk, hcd⟩ := F.ex
 exact .all (h kV doc pm an cdv ct)
theorem fun_mk {x qual : Str} {st : Stmt} {f : Addr} {oc : Value} {od an : Option Addr} {osl : Array (Option Value)} {kV doc pm cdv ct : Value} (l : K.lookup f = some ⟨oc, od, .func (PySem.W.fnOf x qual (defArgs st) (defBody st) (defScope st) .none kV doc pm an cdv ct), osl⟩)
  (c : PySem.W.codeIn K cdv qual = true) (k : PySem.W.keepIn K (.ref f) = true) : Fun K x qual st f (PySem.W.fnOf x qual (defArgs st) (defBody st) (defScope st) .none kV doc pm an cdv ct) := ⟨⟨oc, od, kV, doc, pm, an, cdv, ct, osl, rfl, l, c⟩, k⟩
end
theorem small1000 {n : Nat} (h : n ≤ 1000) : n < sizeLine := Nat.lt_of_le_of_lt h (by decide)
section
variable {X : Cx}
end
def Same (H H' : Hp) : Prop := ∀ b o, H b = some o → H' b = some o
theorem Same.refl (H : Hp) : Same H H := fun _ _ h => h
theorem Same.trans {H H1 H2 : Hp} (a : Same H H1) (b : Same H1 H2) : Same H H2 := fun c o h => b c o (a c o h)
theorem Same.free {H H' : Hp} (e : Same H H') {l : Addr} (h : H' l = Option.none) : H l = Option.none := by
 cases q : H l with
 | none => rfl
 | some o =>
  rw [e l o q] at h
  cases h
theorem Same.seq {K : PySem.W.Frag} {H H' : Hp} {a : Addr} {xs : List V} (e : Same H H') (h : SqL K H a xs) : SqL K H' a xs := by
 rcases h with (h | ⟨o, h⟩) | h
 ·exact .inl (.inl (e _ _ h))
 ·exact .inl (.inr ⟨o, e _ _ h⟩)
 ·exact .inr h
end L2
set_option Elab.async false
set_option linter.all false
set_option maxRecDepth 100000
namespace L2
open PySem PySem.Spec PyProof.Rows
theorem compLoop_any {prog : Program} {w : World} {A : Around} {R : Result → Shared → Prop} {s : Shared} {elt target iter : Expr} {ifs : List Expr} {scope : Scope} {pos : Pos} {it acc : Value} {env : Env} (I : Nat → Shared → Prop)
  (turn : ∀ n s, I n s → wpAny (model prog w) A (pyNext it) (fun r s₁ => match r with
   | none => R (.ok .next) s₁
   | some v => wpAny (model prog w) A (letOwnedTupleGo target it v) (fun _ s₁' => wpAny (model prog w) A (assign target env v) (fun _ s₂ =>
     wpAny (model prog w) A (forIn ifs true fun c r => if r = true then do let ok ← isTrue c env (eval c env); pure (ForInStep.yield ok) else pure (ForInStep.yield r)) (fun ok s₃ =>
      if ok = true then wpAny (model prog w) A (eval elt env) (fun x s₄ =>
       wpAny (model prog w) A (call (.builtin "list.append") [acc, x]) (fun _ s₅ => ∃ m, m < n ∧ I m s₅) (notedBy (model prog w) A env fun e s' => R (.error e) s') s₄) (notedBy (model prog w) A env fun e s' => R (.error e) s') s₃
      else ∃ m, m < n ∧ I m s₃) (notedBy (model prog w) A env fun e s' => R (.error e) s') s₂) (notedBy (model prog w) A env fun e s' => R (.error e) s') s₁') (notedBy (model prog w) A env fun e s' => R (.error e) s') s₁) (notedBy (model prog w) A env fun e s' => R (.error e) s') s)
  (n : Nat) (h : I n s) :
  codeAny (model prog w) A (.compLoop (.ListComp elt [⟨target, iter, ifs, 0⟩] scope pos) 0 it acc env) R s := by
 refine codeAny_loop rfl I (fun n s hI => ?_) n h
 show wpAny _ A ((compTurn (.ListComp elt [⟨target, iter, ifs, 0⟩] scope pos) 0 it acc env).onRaise (fun x => do noteFrame x env; theTreesLotGoes x)) _ _ s
 refine wpAny_noted ?_
 rw [compTurn_list]
 refine wpAny_bind (wpAny_standAt (wpAny_bind (wpAny_mono (turn n s hI) (fun r s₁ h₁ => ?_) fun _ _ h' => h')))
 cases r with
 | none => exact wpAny_pure h₁
 | some v =>
  refine wpAny_bind (wpAny_mono h₁ (fun _ s₁' h₁' => ?_) fun _ _ h' => h')
  refine wpAny_bind (wpAny_mono h₁' (fun _ s₂ h₂ => wpAny_bind (wpAny_mono h₂ (fun ok s₃ h₃ => ?_) fun _ _ h' => h')) fun _ _ h' => h')
  cases ok with
  | false => exact wpAny_pure ⟨rfl, h₃⟩
  | true =>
   exact wpAny_bind (wpAny_bind (wpAny_mono h₃ (fun x s₄ h₄ => wpAny_bind (wpAny_mono h₄ (fun _ s₅ h₅ => wpAny_pure (wpAny_pure ⟨rfl, h₅⟩)) fun _ _ h' => h')) fun _ _ h' => h'))
structure PTs (X : Cx) (ifs : List Expr) (t : TT) : Prop where
 run : ∀ (pins : List (Addr × Obj)) (s : Shared) (σ : St) (H : Hp) (Q : Bool → Hp → Prop), Inv X pins σ H s → t σ H Q →
  wpAny (model X.prog X.w) X.A (forIn ifs true fun c r => if r = true then do let ok ← isTrue c X.env (eval c X.env); pure (ForInStep.yield ok) else pure (ForInStep.yield r)) (TP X pins σ Q) X.xe s
instance {X : Cx} {ifs : List Expr} {t : TT} : CoeFun (PTs X ifs t) fun _ => ∀ (pins : List (Addr × Obj)) (s : Shared) (σ : St) (H : Hp) (Q : Bool → Hp → Prop), Inv X pins σ H s → t σ H Q → wpAny (model X.prog X.w) X.A (forIn ifs true fun c r => if r = true then do let ok ← isTrue c X.env (eval c X.env); pure (ForInStep.yield ok) else pure (ForInStep.yield r)) (TP X pins σ Q) X.xe s := ⟨PTs.run⟩
def tTrue : TT := fun _ H Q => Q true H
theorem pts_nil {X : Cx} : PTs X [] tTrue := .mk fun _ _ _ H _ I h => wpAny_tests_nil ⟨H, I, h⟩
theorem pts_one {X : Cx} {c : Expr} {t : TT} (h : PT X c t) : PTs X [c] t := .mk fun pins s σ H Q I q => wpAny_tests_one (h pins s σ H Q I q)
def compCx (X : Cx) (Nc : List Str) (scope : Scope) (cl : List (Str × Addr)) (C : Addr) (s : Shared) (H : Hp) (fp : List Addr) (E : Value → Shared → Prop) : Cx where
 prog := X.prog
 w := X.w
 K := X.K
 mg := X.mg
 base := X.base
 A := X.A
 N := Nc
 s₀ := s
 H₀ := H
 env := compEnvC scope cl C X.env
 outer := X.stack
 stack := X.stack
 ex := fp
 calm := X.calm
 fn := fun _ => false
 pn := []
 xe := E
def CapOk (X : Cx) (scope : Scope) (cl : List (Str × Addr)) (j : Nat) (x : Str) : Prop :=
 X.N[j]? = some x ∧ Vis X.env.scope x ∧ X.env.kindOf x ≠ some .local ∧ (relabel scope X.env).names.lookup x ≠ some .local ∧ ((relabel scope X.env).names.lookup x = some .cell ∨ (relabel scope X.env).names.lookup x = some .free)
structure CompOk (X : Cx) (scope : Scope) (cl : List (Str × Addr)) (own : List Str) (cap : List (Nat × Str)) : Prop where
 clos : closureFor scope X.env = pure cl
 cell : ∀ y ∈ scope.names, y.2 ≠ .cell
 kind : scope.kind = .function
 names : ∀ y ∈ scope.names, y.2 = .local → scope.names.lookup y.1 = some .local
 sub : ∀ x c, cl.lookup x = some c → X.env.cells.lookup x = some c
 has : ∀ p ∈ (relabel scope X.env).names, p.2 = .cell ∨ p.2 = .free → (cl.lookup p.1).isSome = true
 caps : ∀ p ∈ cap, CapOk X scope cl p.1 p.2
def compSt (own : List Str) (cap : List (Nat × Str)) (σ : St) : St := List.replicate own.length none ++ cap.map fun p => (σ[p.1]?).getD none
theorem lookup_mem {α : Type} : ∀ {l : List (Str × α)} {n : Str} {c : α}, l.lookup n = some c → (n, c) ∈ l := fun h => mem_of_lookup h
section
variable {X : Cx} {pins : List (Addr × Obj)} {σ : St} {H : Hp} {s : Shared} {scope : Scope} {cl : List (Str × Addr)} {own : List Str} {cap : List (Nat × Str)} {fp : List Addr} {E : Value → Shared → Prop}
theorem CompOk.hasX (c : CompOk X scope cl own cap) (x : Str) (h : (relabel scope X.env).names.lookup x = some .cell ∨ (relabel scope X.env).names.lookup x = some .free) : ∃ a, cl.lookup x = some a := by
 have : (cl.lookup x).isSome = true := by
  rcases h with h | h
  ·exact c.has (x, .cell) (lookup_mem h) (.inl rfl)
  ·exact c.has (x, .free) (lookup_mem h) (.inr rfl)
 exact Option.isSome_iff_exists.mp this
theorem comp_ok (c : CompOk X scope cl own cap) (I : Inv X pins σ H s) (hf : ∀ b ∈ fp, FpOk X pins H b) (hlt : ∀ b ∈ fp, b < s.heap.objs.size) {C : Addr} (hC : s.heap.objs.size ≤ C) :
  (compCx X (own ++ cap.map (·.2)) scope cl C s H fp E).Ok where
 mod := I.ok.mod
 kind := c.kind
 glob := I.ok.glob
 blt := I.ok.blt
 above := hC
 inj := fun x y a h1 h2 => I.ok.inj x y a (c.sub x a h1) (c.sub y a h2)
 has := fun x h => c.hasX x h
 cab := fun x a h => absurd h (by intro z; exact Bool.noConfusion z)
 hd := I.ok.hd
 frames := I.ok.frames
 stk := .inl rfl
 exf := fun b hb => ⟨fun z => by
   have := hlt b hb
   rw [z] at this
   exact absurd (Nat.lt_of_lt_of_le this hC) (Nat.lt_irrefl _), fun x a h => (hf b hb).2.2.2.2.1 x a (c.sub x a h)⟩
 bs := I.bs
 bsz := Nat.le_trans I.ok.bsz I.sz
 noex := fun b o e hb => by
  rcases (hf b hb).2.2.2.1 with z | z
  ·exact I.ok.noex b o e z
  ·exact absurd (Nat.lt_of_lt_of_le (Heap.lt_size (I.ok.bs b o e).1) z) (Nat.lt_irrefl _)
 exfs := fun b hb hs => by
  rcases List.mem_cons.mp (I.stkSub b hs) with z | z
  ·exact (hf b hb).2.1 z
  ·exact (hf b hb).2.2.1 z
 funs := I.stack
 frf := I.stkFree
theorem compSt_get {own : List Str} {cap : List (Nat × Str)} {σ : St} {i : Nat} {x : Str} {v : V} (h1 : (own ++ cap.map (·.2))[i]? = some x) (h2 : (compSt own cap σ)[i]? = some (some v)) : ∃ p ∈ cap, p.2 = x ∧ σ[p.1]? = some (some v) := by
 unfold compSt at h2
 by_cases hi : i < own.length
 ·rw [List.getElem?_append_left (by simpa using hi), List.getElem?_replicate] at h2
  split at h2 <;> cases h2
 ·rw [List.getElem?_append_right (by simpa using hi)] at h2 h1
  rw [List.length_replicate, List.getElem?_map] at h2
  rw [List.getElem?_map] at h1
  cases e : cap[i - own.length]? with
  | none => rw [e] at h2; cases h2
  | some p =>
   rw [e] at h1 h2
   refine ⟨p, List.mem_of_getElem? e, Option.some.inj h1, ?_⟩
   have h3 : (σ[p.1]?).getD none = some v := Option.some.inj h2
   cases q : σ[p.1]? with
   | none => rw [q] at h3; cases h3
   | some z => rw [q] at h3; exact congrArg some h3
theorem comp_inv (c : CompOk X scope cl own cap) (I : Inv X pins σ H s) (hf : ∀ b ∈ fp, FpOk X pins H b) (hlt : ∀ b ∈ fp, b < s.heap.objs.size) {h₁ : Heap} {tk : Nat} {m : Str → Option Value}
  (hk : ∀ b o, s.heap.get? b = some o → h₁.get? b = some o) (hD : h₁.get? s.heap.objs.size = some { cls := .type "list", data := .seq ([] : List Value).toArray }) (hn : h₁.Ns (s.heap.objs.size + 1) m) :
  Inv (compCx X (own ++ cap.map (·.2)) scope cl (s.heap.objs.size + 1) s H fp E) [] (compSt own cap σ) (upd H s.heap.objs.size (.lst [])) { s with heap := h₁, toks := tk } := by
 have hfr : H s.heap.objs.size = none := I.fresh
 have hfr1 : H (s.heap.objs.size + 1) = none := I.hok.fresh (Nat.le_succ _)
 have hnew : ObjOk X.prog X.w (upd H s.heap.objs.size (.lst [])) h₁ s.heap.objs.size (.lst []) := ⟨Nat.zero_le _, [], 0, .nil, hD⟩
 refine ⟨comp_ok c I hf hlt (Nat.le_succ _), rfl, I.bare, Un.laid hk (Nat.le_refl _) hfr, ⟨m, hn, fun i x v e1 e2 _ => ?_⟩, fun x a e => ?_, ?_, fun x a e => ?_, fun p hp => absurd (show p ∈ ([] : List (Addr × Obj)) from hp) (by simp), I.hok.laid hk (Nat.le_refl _) hnew, ?_⟩
 ·obtain ⟨p, hp, ex, es⟩ := compSt_get e1 e2
  obtain ⟨q1, q2, q3, q4, q5⟩ := c.caps p hp
  rw [ex] at q1 q2 q3 q4 q5
  obtain ⟨m', hn', hl⟩ := I.loc
  obtain ⟨u, r, l⟩ := hl p.1 x v q1 es q2
  refine ⟨u, r, ?_⟩
  rcases l with l | ⟨k, a, e, z⟩
  ·exact absurd l.1 q3
  ·obtain ⟨a', e'⟩ := c.hasX x q5
   have ea := c.sub x a' e'
   rw [e] at ea
   cases ea
   exact .inr ⟨q5, a, e', z.keeps hk⟩
 ·obtain ⟨v, z⟩ := I.cell x a (c.sub x a e)
  exact ⟨v, z.keeps hk⟩
 ·show upd H s.heap.objs.size (.lst []) (s.heap.objs.size + 1) = none
  rw [upd_ne (Nat.succ_ne_self _)]
  exact hfr1
 ·obtain ⟨v, z⟩ := I.cell x a (c.sub x a e)
  show upd H s.heap.objs.size (.lst []) a = none
  rw [upd_ne (Nat.ne_of_lt z.lt)]
  exact I.freeC x a (c.sub x a e)
 ·show (compSt own cap σ).length = (own ++ cap.map (·.2)).length
  simp [compSt]
theorem comp_after {s2 : Shared} {H' : Hp} {σ' : St} {C : Addr} {Nc : List Str} {pins' : List (Addr × Obj)} (I : Inv X pins σ H s) (hf : ∀ b ∈ fp, FpOk X pins H b) (hC : s.heap.objs.size ≤ C) (J : Inv (compCx X Nc scope cl C s H fp E) pins' σ' H' s2) :
  Inv X pins σ H' s2 ∧ FpOk X pins H' C := by
 have os : s2.os = s.os := J.os
 have un : Un (frs X.stack) fp H H' s.heap s2.heap := J.base
 exact ⟨I.call' os un J.hok J.bare fun b hb => ⟨(hf b hb).2.2.2.1, (hf b hb).2.1, (hf b hb).2.2.2.2.1, (hf b hb).2.2.2.2.2⟩, I.fpOk hC J.free⟩
end
def tComp (wi : TI) (g : TG) (tc : TT) (te : TE) (own : List Str) (cap : List (Nat × Str)) : TE := fun σ H Q => wi σ H fun J H1 => ∀ D, H1 D = none →
 ∃ W : Nat → Nat → St → List V → Hp → Prop, (∃ m, W 0 m (compSt own cap σ) [] (upd H1 D (.lst []))) ∧ ∀ i m σ' ys H', W i m σ' ys H' → H' D = some (.lst ys) ∧
  ((J.stop i H' ∧ Q (.ref D) H') ∨ (J.go i H' ∧ ys.length < sizeLine ∧ ∃ N : St → List V → Hp → Prop, (∀ σ ys H, N σ ys H → ∃ m', m' < m ∧ W (i + 1) m' σ ys H) ∧ ∀ x H2, J.yld i H' x H2 → g x σ' H2 fun σ3 H3 => tc σ3 H3 fun b H4 => if b = true then te σ3 H4 fun y H5 => H5 D = some (.lst ys) ∧ N σ3 (ys ++ [y]) (upd H5 D (.lst (ys ++ [y])))
   else N σ3 ys H4))
section
variable {X : Cx} {scope : Scope} {cl : List (Str × Addr)} {own : List Str} {cap : List (Nat × Str)} {tg iter elt : Expr} {ifs : List Expr} {wi : TI} {g : TG} {tc : TT} {te : TE} {pos : Pos}
theorem comp_block {pins : List (Addr × Obj)} {σ : St} {s2 : Shared} {H2 : Hp} {it : Addr} {fp : List Addr} {tn : Nat → Heap → Prop} {J : It} {Q : VK} {RR : Value → Addr → Result → Shared → Prop} {E' : Value → Shared → Prop}
  (c : CompOk X scope cl own cap) (hc : X.calm = true)
  (hg : ∀ C s H fp, PG (compCx X (own ++ cap.map (·.2)) scope cl C s H fp fun _ _ => False) tg g) (ht : ∀ C s H fp, PTs (compCx X (own ++ cap.map (·.2)) scope cl C s H fp fun _ _ => False) ifs tc)
  (he : ∀ C s H fp, PE (compCx X (own ++ cap.map (·.2)) scope cl C s H fp fun _ _ => False) elt te)
  (I2 : Inv X pins σ H2 s2) (T : Turn X.prog X.w X.K tg J fp it tn) (st2 : tn 0 s2.heap) (f2 : ∀ b ∈ fp, FpOk X pins H2 b)
  (hw : ∀ D, H2 D = none → ∃ W : Nat → Nat → St → List V → Hp → Prop, (∃ m, W 0 m (compSt own cap σ) [] (upd H2 D (.lst []))) ∧ ∀ i m σ' ys H', W i m σ' ys H' → H' D = some (.lst ys) ∧
   ((J.stop i H' ∧ Q (.ref D) H') ∨ (J.go i H' ∧ ys.length < sizeLine ∧ ∃ N : St → List V → Hp → Prop, (∀ σ ys H, N σ ys H → ∃ m', m' < m ∧ W (i + 1) m' σ ys H) ∧ ∀ x H2, J.yld i H' x H2 → g x σ' H2 fun σ3 H3 => tc σ3 H3 fun b H4 => if b = true then te σ3 H4 fun y H5 => H5 D = some (.lst ys) ∧ N σ3 (ys ++ [y]) (upd H5 D (.lst (ys ++ [y])))
    else N σ3 ys H4)))
  (hRR : ∀ D C s' H' m, Inv X pins σ H' s' → FpOk X pins H' C → s'.heap.Ns C m → Q (.ref D) H' → RR (.ref D) C (.ok .next) s') :
  wpAny (model X.prog X.w) X.A (newList []) (fun acc s₃ => wpAny (model X.prog X.w) X.A (newFunctionEnv scope X.env.globals cl [] X.env.qual none .none (some X.env)) (fun cenv s₄ =>
   codeAny (model X.prog X.w) X.A (.compStart (.ListComp elt [⟨tg, iter, ifs, 0⟩] scope pos) 0 (.ref it) acc { cenv with scope := relabel scope X.env }) (RR acc cenv.locals) s₄) E' s₃) E' s2 := by
 refine wpAny_newObj_type (wpAny_newFunctionEnv c.cell (by intro y hy; simp at hy) (fun h₁ hns₁ hsb₁ => ?_) c.kind)
 dsimp only at hns₁ hsb₁ ⊢
 have hsz : (s2.heap.push { cls := .type "list", dict := none, data := .seq ([] : List Value).toArray }).objs.size = s2.heap.objs.size + 1 := Heap.size_push _ _
 have kk : ∀ b o, s2.heap.get? b = some o → h₁.get? b = some o := fun b o e => hsb₁.extBut b o (by rw [hsz]; exact Nat.ne_of_lt (Nat.lt_succ_of_lt (Heap.lt_size e))) (Heap.get?_push_of_some _ (Heap.get?_push_of_some _ e))
 have hD : h₁.get? s2.heap.objs.size = some { cls := .type "list", data := .seq ([] : List Value).toArray } :=
  hsb₁.extBut _ _ (by rw [hsz]; exact Nat.ne_of_lt (Nat.lt_succ_self _)) (Heap.get?_push_of_some _ (Heap.get?_push_size _ rfl))
 rw [hsz] at hns₁ ⊢
 have hlt : ∀ b ∈ fp, b < s2.heap.objs.size := fun b hb => by
  obtain ⟨o, e, _⟩ := T.obj _ _ st2 b hb
  exact Heap.lt_size e
 obtain ⟨W, ⟨m0, w0⟩, turn⟩ := hw s2.heap.objs.size I2.fresh
 have J1 := comp_inv (E := fun _ _ => False) c I2 f2 hlt (tk := s2.toks + ([] : List (Str × Value)).length) kk hD hns₁
 generalize hX' : compCx X (own ++ cap.map (·.2)) scope cl (s2.heap.objs.size + 1) s2 H2 fp (fun _ _ => False) = X' at J1
 have hg' : PG X' tg g := hX' ▸ hg _ _ _ _
 have ht' : PTs X' ifs tc := hX' ▸ ht _ _ _ _
 have he' : PE X' elt te := hX' ▸ he _ _ _ _
 have pX : X'.prog = X.prog := by rw [← hX']; rfl
 have wX : X'.w = X.w := by rw [← hX']; rfl
 have kX : X'.K = X.K := by rw [← hX']; rfl
 have aX : X'.A = X.A := by rw [← hX']; rfl
 have cX : X'.calm = true := by rw [← hX']; exact hc
 have nX : X'.env = compEnvC scope cl (s2.heap.objs.size + 1) X.env := by rw [← hX']; rfl
 have xX : X'.xe = fun _ _ => False := by rw [← hX']; rfl
 have fX : ∀ b ∈ fp, ∀ {H' : Hp}, H' b = none → FpOk X' [] H' b := fun b hb {H'} hn => by
  have o1 := (comp_ok (E := fun _ _ => False) c I2 f2 hlt (C := s2.heap.objs.size + 1) (Nat.le_succ _)).exf b hb
  have o2 := (comp_ok (E := fun _ _ => False) c I2 f2 hlt (C := s2.heap.objs.size + 1) (Nat.le_succ _)).exfs b hb
  rw [← hX']
  exact ⟨hn, o1.1, o2, .inl hb, o1.2, fun p hp => absurd (show p ∈ ([] : List (Addr × Obj)) from hp) (by simp)⟩
 have fin : ∀ {σ' : St} {H' : Hp} {s' : Shared}, Inv X' [] σ' H' s' → Q (.ref s2.heap.objs.size) H' → RR (.ref s2.heap.objs.size) (s2.heap.objs.size + 1) (.ok .next) s' := fun {σ' H' s'} J' q => by
  rw [← hX'] at J'
  obtain ⟨A1, A2⟩ := comp_after I2 f2 (Nat.le_succ _) J'
  obtain ⟨m, hm, _⟩ := J'.loc
  exact hRR _ _ s' H' m A1 A2 hm q
 have loop : codeAny (model X.prog X.w) X.A (.compLoop (.ListComp elt [⟨tg, iter, ifs, 0⟩] scope pos) 0 (.ref it) (.ref s2.heap.objs.size) (compEnvC scope cl (s2.heap.objs.size + 1) X.env)) (RR (.ref s2.heap.objs.size) (s2.heap.objs.size + 1))
   { s2 with heap := h₁, toks := s2.toks + ([] : List (Str × Value)).length } := by
  refine compLoop_any (fun n s' => ∃ i σ' ys H', Inv X' [] σ' H' s' ∧ tn i s'.heap ∧ (∀ b ∈ fp, H' b = none) ∧ W i n σ' ys H') ?_ m0
   ⟨0, _, [], _, J1, T.keep _ _ _ st2 fun b _ o e => kk b o e, fun b hb => by rw [upd_ne (Nat.ne_of_lt (hlt b hb))]; exact (f2 b hb).1, w0⟩
  rintro n s3 ⟨i, σ3, ys, H3, I3, st3, fr3, w3⟩
  obtain ⟨hDl, w4⟩ := turn i n σ3 ys H3 w3
  rw [← nX, ← aX, ← pX, ← wX]
  have nox : ∀ {α : Type} {t : Sem α} {Q1 : α → Shared → Prop} {E1 : Value → Shared → Prop} {s : Shared}, wpAny (model X'.prog X'.w) X'.A t Q1 X'.xe s → wpAny (model X'.prog X'.w) X'.A t Q1 E1 s := fun {α t Q1 E1 s} h => by
   rw [xX] at h
   exact wpAny_mono h (fun _ _ q => q) fun _ _ f => f.elim
  rcases w4 with ⟨stop, qn⟩ | ⟨go, hys, N, hN, step⟩
  ·have d := T.done X' pX wX kX cX i [] s3 σ3 H3 X'.xe I3 (fun b hb => fX b hb (fr3 b hb)) st3 stop
   rw [← pX, ← wX] at d
   refine nox (thn d fun r s4 ⟨hr, I4⟩ => ?_)
   subst hr
   exact fin I4 qn
  ·have d := T.item X' pX wX kX cX i [] s3 σ3 H3 X'.xe I3 (fun b hb => fX b hb (fr3 b hb)) st3 go
   rw [← pX, ← wX] at d
   refine nox (thn d fun r s4 ⟨u, hr, h4⟩ => ?_)
   subst hr
   refine nox (thn h4 fun _ s5 ⟨x, H5, I5, r5, y5, st5, fr5⟩ => ?_)
   have I5' := I5.pinned (fun b hb => fX b hb (fr5 b hb)) (T.obj _ _ st5)
   have again : ∀ {σ7 : St} {H7 : Hp} {s7 : Shared} {ys' : List V}, Inv X' ([] ++ pinsAt fp s5.heap) σ7 H7 s7 → N σ7 ys' H7 →
     ∃ m, m < n ∧ ∃ i σ' ys H', Inv X' [] σ' H' s7 ∧ tn i s7.heap ∧ (∀ b ∈ fp, H' b = none) ∧ W i m σ' ys H' := fun {σ7 H7 s7 ys'} I7 n7 => by
    obtain ⟨m', hm, w7⟩ := hN _ _ _ n7
    refine ⟨m', hm, i + 1, σ7, ys', H7, I7.unpinned, T.keep _ _ _ st5 fun b hb o e => (I7.pin (b, o) (List.mem_append_right _ (List.mem_append_right _ (mem_pinsAt hb e)))).1, fun b hb => ?_, w7⟩
    obtain ⟨o, e, d⟩ := T.obj _ _ st5 b hb
    exact (I7.pin (b, o) (List.mem_append_right _ (List.mem_append_right _ (mem_pinsAt hb e)))).2.1
   refine nox (thn (hg' _ s5 σ3 H5 x u _ I5' r5 (step x H5 y5)) fun _ s6 ⟨σ6, H6, I6, q6⟩ => ?_)
   refine nox (thn (ht' _ s6 σ6 H6 _ I6 q6) fun b s7 ⟨H7, I7, q7⟩ => ?_)
   cases b with
   | false =>
    rw [if_neg Bool.false_ne_true] at q7 ⊢
    exact again I7 q7
   | true =>
    rw [if_pos rfl] at q7 ⊢
    refine nox (thn (he' _ s7 σ6 H7 _ I7 q7) fun u8 s8 ⟨y8, H8, I8, r8, d8, q8⟩ => ?_)
    refine nox (thn (mt_append _ s8 σ6 H8 (.ref s2.heap.objs.size) [y8] (.ref s2.heap.objs.size) [u8] (fun _ H9 => N σ6 (ys ++ [y8]) H9) I8 rfl (.cons r8 .nil) ⟨_, ys, y8, rfl, rfl, d8, hys, q8⟩) fun _ s9 ⟨_, H9, I9, _, q9⟩ => ?_)
    exact again I9 q9
 exact codeAny_compStart_list loop (T.self X.A 0 _ _ _ (T.keep _ _ _ st2 fun b _ o e => kk b o e) loop)
theorem pe_comp (c : CompOk X scope cl own cap) (hc : X.calm = true) (hi : PI X tg iter wi)
  (hg : ∀ C s H fp, PG (compCx X (own ++ cap.map (·.2)) scope cl C s H fp fun _ _ => False) tg g) (ht : ∀ C s H fp, PTs (compCx X (own ++ cap.map (·.2)) scope cl C s H fp fun _ _ => False) ifs tc)
  (he : ∀ C s H fp, PE (compCx X (own ++ cap.map (·.2)) scope cl C s H fp fun _ _ => False) elt te) (hs : ∀ x, foldedSetIterable iter X.env x = pure x := by intro _; rfl) :
  PE X (.ListComp elt [⟨tg, iter, ifs, 0⟩] scope pos) (tComp wi g tc te own cap) := by
 refine .mk ?_
 intro pins s σ H Q I h
 rw [eval_ListComp]
 refine wpAny_comprehension_free (use := none) rfl hs c.clos c.kind c.names (thn (hi pins s σ H _ I h) fun v s1 h1 => thn h1 fun itv s2 h2 => ?_)
 obtain ⟨it, fp, tn, J, H2, e, I2, T, st2, f2, hw⟩ := h2
 subst e
 refine comp_block (Q := Q) (RR := fun acc C => compPost (model X.prog X.w) X.A X.xe none (EP X pins σ Q) acc C) c hc hg ht he I2 T st2 f2 hw ?_
 intro D C s' H' m I' hC hm q
 refine ⟨m, hm, fun h' hs' => ⟨.ref D, H', ?_, rfl, q⟩⟩
 exact I'.turned (t' := s'.toks) (fun b o hb e => (hs'.2 b hb).trans e) hC.1 hC.2.1 hC.2.2.2.1 hC.2.2.2.2.1 hC.2.2.2.2.2
def tCompS (i : Nat) (t : TE) : TS := fun D σ H => t σ H fun x H1 => D.nx (σ.set i (some x)) H1
theorem ps_comp {i : Nat} {y : Str} {py spos : Pos} (c : CompOk X scope cl own cap) (hc : X.calm = true) (hi : PI X tg iter wi)
  (hg : ∀ C s H fp, PG (compCx X (own ++ cap.map (·.2)) scope cl C s H fp fun _ _ => False) tg g) (ht : ∀ C s H fp, PTs (compCx X (own ++ cap.map (·.2)) scope cl C s H fp fun _ _ => False) ifs tc)
  (he : ∀ C s H fp, PE (compCx X (own ++ cap.map (·.2)) scope cl C s H fp fun _ _ => False) elt te)
  (hN : X.N.Nodup) (hy : X.N[i]? = some y) (hl : X.env.scope.names.lookup y = some .local)
  (hsw : swapsWith (.ListComp elt [⟨tg, iter, ifs, 0⟩] scope pos) (some (.Name y py)) spos.line X.env = pure true := by rfl) (hs : ∀ x, foldedSetIterable iter X.env x = pure x := by intro _; rfl) :
  PS X (.Assign [.Name y py] (.ListComp elt [⟨tg, iter, ifs, 0⟩] scope pos) spos) (tCompS i (tComp wi g tc te own cap)) := by
 refine .mk ?_
 intro pins s σ H D I h
 rw [exec_Assign_Name_used _ _ _ _ hsw]
 refine wpAny_bind (wpAny_standAt (wpAny_bind ?_))
 show wpAny _ X.A (do let _ ← comprehension (.ListComp elt [⟨tg, iter, ifs, 0⟩] scope pos) scope X.env _ (newList []) false (eval iter X.env) (some (assign (.Name y py) X.env))) _ _ s
 refine wpAny_bind (wpAny_mono (wpAny_comprehension_free (use := some (assign (.Name y py) X.env)) (Q := fun _ s' => SP X pins D .next s') rfl hs c.clos c.kind c.names (thn (hi pins s σ H _ I h) fun v s1 h1 => thn h1 fun itv s2 h2 => ?_)) (fun _ s' hq => wpAny_pure (wpAny_pure hq)) fun _ _ e => e)
 obtain ⟨it, fp, tn, J, H2, e, I2, T, st2, f2, hw⟩ := h2
 subst e
 refine comp_block (Q := fun x H1 => D.nx (σ.set i (some x)) H1) (RR := fun acc C => compPost (model X.prog X.w) X.A X.xe (some (assign (.Name y py) X.env)) (fun _ s' => SP X pins D .next s') acc C) c hc hg ht he I2 T st2 f2 hw ?_
 intro D' C s' H' m I' hC hm q
 show wpAny _ X.A (assign (.Name y py) X.env (.ref D')) _ _ _
 refine wpAny_assign_Name (store_ok2 (v := .ref D') I' hN hy (.inl hl) rfl (fun s'' I'' ch => ?_) (.inr hl))
 obtain ⟨a, sb, ha⟩ := ch
 have hCa : C ≠ a := by
  rcases ha with ha | ha
  ·rw [ha]; exact hC.2.1
  ·exact fun z => hC.2.2.2.2.1 _ _ ha z.symm
 refine ⟨m, hm.sameBut sb hCa, fun h' hs' => ⟨_, H', ?_, q⟩⟩
 exact I''.turned (t' := s''.toks) (fun b o hb e => (hs'.2 b hb).trans e) hC.1 hC.2.1 hC.2.2.2.1 hC.2.2.2.2.1 hC.2.2.2.2.2
end
section
variable {K : PySem.W.Frag} {a : Addr} {xs : List V} {g : TG} {tc : TT} {te : TE} {own : List Str} {cap : List (Nat × Str)} {σ : St} {H1 : Hp} {QD : Hp → Prop} {D : Addr}
end
end L2
set_option Elab.async false
set_option linter.all false
set_option maxRecDepth 100000
namespace L2
open PySem PySem.Spec PyProof.Rows
section
variable {X : Cx}
end
section
variable {prog : Program} {w : World} {A : Around} {R : Result → Shared → Prop} {I : Addr} {fp wr : List Addr} {n : Nat} {P : Nat → Value → Prop} {St : Nat → Heap → Prop}
end
def topOf : List Int → Int
 | [] => 0
 | [x] => x
 | x :: y :: r => max x (topOf (y :: r))
section
variable {X : Cx} {x : Str} {e v : Expr} {te tv : TE} {p pos kpos : Pos}
end
section
variable {X : Cx}
theorem op_neNil (hu : X.A.units < cLine) : OpR X (compareOp .NotEq) (fun x y H Q => ∃ a b xs, x = .ref a ∧ y = .ref b ∧ SqL X.K H a xs ∧ SqL X.K H b [] ∧ Q (.bl (!xs.isEmpty)) H) := by
 intro pins s σ H x y v u Q I rx ry h
 obtain ⟨a, b, xs, rfl, rfl, ha, hb, q⟩ := h
 cases rx
 cases ry
 obtain ⟨its, rv, pl, hz⟩ := I.list ha
 obtain ⟨its2, rv2, pl2, hz2⟩ := I.list hb
 cases rv2
 cases xs with
 | nil =>
  cases rv
  exact SeqAt.RcNeAt.lists (e := fun _ => true) pl.isList pl2.isList rfl hu (fun j h1 _ => absurd h1 (by simp)) _ _ _ _ ⟨.bl false, H, I, rfl, q⟩
 | cons x r =>
  cases rv with
  | cons r1 r2 => exact SeqAt.RcNeAt.lists_lengths pl.isList pl2.isList (by simp) hu _ _ _ _ ⟨.bl true, H, I, rfl, q⟩
end
def cutN {α : Type} (xs : List α) (lo hi : Option Int) : List α := (xs.drop (HT.sIx xs.length 0 lo)).take (HT.sIx xs.length xs.length hi - HT.sIx xs.length 0 lo)
section
variable {X : Cx} {x : Expr} {te : TE} {p p2 pos : Pos} {T : Str} {Ty : String}
def tInst (K : PySem.W.Frag) (Ty : String) (te : TE) : TE := fun σ H Q => te σ H fun v H1 => ∃ v', [v, V.ty Ty] = [v', V.ty Ty] ∧ ∃ t b, TyOf K H1 v' t ∧ PySem.W.kitOne K t (.type Ty) = some b ∧ Q (.bl b) H1
theorem pe_inst (hg : Gl X "isinstance") (hm : X.mg "isinstance" = none) (hgT : Gl X T) (hmT : X.mg T = none) (hvT : bootBuiltins T = some (.type Ty)) (he : PE X x te) (hn : T ≠ "__name__" := by decide) (hdT : (T == ("__debug__" : Str)) = false := by decide)
  (hs : starEach [x, .Name T p2] X.env = (false, eval x X.env) :: starEach [.Name T p2] X.env := by rfl) (hs2 : starEach [.Name T p2] X.env = [(false, eval (.Name T p2) X.env)] := by rfl)
  (hpl : (backTo pos (starEach [.Name T p2] X.env)).any (·.1) = false := by rfl) :
  PE X (.Call (.Name "isinstance" p) [x, .Name T p2] [] pos) (tInst X.K Ty te) := by
 have c : CallR X (.builtin "isinstance") (fun xs H Q => ∃ v, xs = [v, .ty Ty] ∧ ∃ t b, TyOf X.K H v t ∧ PySem.W.kitOne X.K t (.type Ty) = some b ∧ Q (.bl b) H) := by
  intro pins s σ H xs us Q I r h
  obtain ⟨v, rfl, t, b, ty, e, q⟩ := h
  obtain ⟨u, w', rfl, ru, rw'⟩ := vals2 r
  cases (show w' = Value.type Ty from rw')
  exact isinst_ok I ru ty e fun tk => ⟨.bl b, H, I.tok tk, rfl, q⟩
 have pa : PA X [x, .Name T p2] (tCons te (tCons (tC (.ty Ty)) tNil)) := pa_cons he (pa_cons (pe_bltn hgT hmT hvT rfl hn hdT) pa_nil hs2) hs
 exact pe_callB (p := p) (pos := pos) c hg hm PyProof.Rows.boot_isinstance pa (by decide) (by decide) hs hpl
end
end L2
set_option Elab.async false
set_option linter.all false
set_option maxRecDepth 100000
namespace L2
open PySem PySem.Spec PyProof.Rows
def Callee (P : Program) (w : World) (K : PySem.W.Frag) (mg : Str → Option Value) (base : Heap) (x : Str) (k : Nat) (ps : List Str) (sp : Sp) : Prop :=
 ∃ f fd, FnOk P w K mg base CX0 k f fd ps sp ∧ mg x = some (.ref f) ∧ PySem.W.keepIn K (.ref f) = true ∧ Binds K fd ps []
theorem Callee.mono {P : Program} {w : World} {K : PySem.W.Frag} {mg : Str → Option Value} {base : Heap} {x : Str} {j k : Nat} {ps : List Str} {sp : Sp} (c : Callee P w K mg base x j ps sp) (h : j ≤ k) : Callee P w K mg base x k ps sp := by
 obtain ⟨f, fd, F, m, kp, b⟩ := c
 exact ⟨f, fd, F.mono h, m, kp, b⟩
theorem Callee.imp {P : Program} {w : World} {K : PySem.W.Frag} {mg : Str → Option Value} {base : Heap} {x : Str} {k : Nat} {ps : List Str} {sp sp' : Sp} (c : Callee P w K mg base x k ps sp) (h : ∀ vs H Q E, sp' vs H Q E → sp vs H Q E) : Callee P w K mg base x k ps sp' := by
 obtain ⟨f, fd, F, m, kp, b⟩ := c
 exact ⟨f, fd, F.imp h, m, kp, b⟩
section
variable {X : Cx} {x : Str} {k j : Nat} {ps : List Str} {sp : Sp} {p pos : Pos} {e : Expr} {es : List Expr} {t : TA}
theorem pe_callC (c : Callee X.prog X.w X.K X.mg X.base x k ps sp) (hr : Room j X.A) (hk : k ≤ j) (hg : Gl X x) (ha : PA X (e :: es) t) (hdb : (x == ("__debug__" : Str)) = false := by decide)
  (he : starEach (e :: es) X.env = (false, eval e X.env) :: starEach es X.env := by rfl) (hpl : (backTo pos (starEach es X.env)).any (·.1) = false := by rfl) : PE X (.Call (.Name x p) (e :: es) [] pos) (tCall sp [] E0 t) := by
 obtain ⟨f, fd, F, m, kp, b⟩ := c
 exact pe_call F (hr.mono hk) hg m kp b .nil pass0 ha hdb he hpl
end
section
variable {X : Cx} {scope : Scope} {own : List Str}
theorem mem_relabel {env : Env} {p : Str × NameKind} (h : p ∈ (relabel scope env).names) : ∃ q ∈ scope.names, q.1 = p.1 ∧ (p.2 = q.2 ∨ (q.2 = .free ∧ p.2 = .cell)) := by
 obtain ⟨q, hq, e⟩ := List.mem_map.mp (show p ∈ scope.names.map _ from h)
 refine ⟨q, hq, ?_⟩
 obtain ⟨n, k⟩ := q
 dsimp only at e
 split at e
 ·rename_i c
  subst e
  refine ⟨rfl, .inr ⟨?_, rfl⟩⟩
  simp only [Bool.and_eq_true, beq_iff_eq] at c
  exact c.1.1
 ·subst e
  exact ⟨rfl, .inl rfl⟩
theorem compOk0 (hk : scope.kind = .function) (hn : ∀ y ∈ scope.names, y.2 ≠ .free ∧ y.2 ≠ .cell) (hl : ∀ y ∈ scope.names, y.2 = .local → scope.names.lookup y.1 = some .local) : CompOk X scope [] own [] where
 clos := closureFor_none fun y hy => (hn y hy).1
 cell := fun y hy => (hn y hy).2
 kind := hk
 names := hl
 sub := fun x c h => nomatch h
 has := fun p hp h => by
  obtain ⟨q, hq, e1, e2⟩ := mem_relabel hp
  have n := hn q hq
  rcases e2 with e2 | ⟨e2, _⟩
  ·rw [e2] at h
   rcases h with h | h
   ·exact absurd h n.2
   ·exact absurd h n.1
  ·exact absurd e2 n.1
 caps := fun p hp => nomatch hp
def AllCl (cells : List (Str × Addr)) : List (Str × Addr) → Prop
 | [] => True
 | p :: r => cells.lookup p.1 = some p.2 ∧ AllCl cells r
theorem AllCl.mem {cells : List (Str × Addr)} : ∀ {cl : List (Str × Addr)}, AllCl cells cl → ∀ p ∈ cl, cells.lookup p.1 = some p.2
 | [], _, p, h => nomatch h
 | q :: r, h, p, hp => by
  rcases List.mem_cons.mp hp with rfl | hp
  ·exact h.1
  ·exact AllCl.mem h.2 p hp
def AllCap (X : Cx) (scope : Scope) : List (Nat × Str) → Prop
 | [] => True
 | p :: r => (X.N[p.1]? = some p.2 ∧ X.env.kindOf p.2 = some .cell ∧ (relabel scope X.env).names.lookup p.2 = some .cell) ∧ AllCap X scope r
theorem AllCap.mem : ∀ {cap : List (Nat × Str)}, AllCap X scope cap → ∀ p ∈ cap, X.N[p.1]? = some p.2 ∧ X.env.kindOf p.2 = some .cell ∧ (relabel scope X.env).names.lookup p.2 = some .cell
 | [], _, p, h => nomatch h
 | q :: r, h, p, hp => by
  rcases List.mem_cons.mp hp with rfl | hp
  ·exact h.1
  ·exact AllCap.mem h.2 p hp
theorem compOkC {cl : List (Str × Addr)} {cap : List (Nat × Str)} (hk : scope.kind = .function) (hn : ∀ y ∈ scope.names, y.2 ≠ .cell) (hl : ∀ y ∈ scope.names, y.2 = .local → scope.names.lookup y.1 = some .local)
  (hc : closureFor scope X.env = pure cl) (ha : AllCl X.env.cells cl) (hh : ((relabel scope X.env).names.all fun p => !(p.2 == .cell || p.2 == .free) || (cl.lookup p.1).isSome) = true) (hcap : AllCap X scope cap) : CompOk X scope cl own cap where
 clos := hc
 cell := hn
 kind := hk
 names := hl
 sub := fun x c h => ha.mem _ (mem_of_lookup h)
 has := fun p hp h => by
  have q := List.all_eq_true.mp hh p hp
  rcases h with h | h <;> · rw [h] at q; simpa using q
 caps := fun p hp => by
  obtain ⟨h1, h2, h3⟩ := hcap.mem p hp
  exact ⟨h1, .inr (.inl h2), by rw [h2]; decide, by rw [h3]; decide, .inl h3⟩
end
theorem bt_bool : bootBuiltins "bool" = some (.type "bool") := by decide +kernel
theorem bt_int : bootBuiltins "int" = some (.type "int") := by decide +kernel
theorem bt_str : bootBuiltins "str" = some (.type "str") := by decide +kernel
theorem bt_tuple : bootBuiltins "tuple" = some (.type "tuple") := by decide +kernel
theorem bt_list : bootBuiltins "list" = some (.type "list") := by decide +kernel
def Kp (l : List Addr) (H H' : Hp) : Prop := ∀ b o, b ∉ l → H b = some o → H' b = some o
theorem Kp.refl {l : List Addr} (H : Hp) : Kp l H H := fun _ _ _ h => h
theorem Kp.trans {l : List Addr} {H H1 H2 : Hp} (a : Kp l H H1) (b : Kp l H1 H2) : Kp l H H2 := fun c o n h => b c o n (a c o n h)
theorem Kp.mono {l l' : List Addr} {H H1 : Hp} (a : Kp l H H1) (s : ∀ b ∈ l, b ∈ l') : Kp l' H H1 := fun c o n h => a c o (fun z => n (s c z)) h
theorem Kp.new {l : List Addr} {H : Hp} {p : Addr} (h : H p = none) (o : HO) : Kp l H (upd H p o) := fun b u _ q => by rw [upd_ne (ne_of_none q h)]; exact q
theorem Kp.set {l : List Addr} {H : Hp} {p : Addr} (h : p ∈ l) (o : HO) : Kp l H (upd H p o) := fun b u n q => by
 have e : b ≠ p := fun z => n (by rw [z]; exact h)
 rw [upd_ne e]; exact q
def Tp (H H' : Hp) : Prop := ∀ b xs, H b = some (.tup xs) → H' b = some (.tup xs)
theorem Tp.refl (H : Hp) : Tp H H := fun _ _ h => h
theorem Tp.trans {H H1 H2 : Hp} (a : Tp H H1) (b : Tp H1 H2) : Tp H H2 := fun c o h => b c o (a c o h)
theorem Kp.tp {l : List Addr} {H H' : Hp} (k : Kp l H H') (n : ∀ b ∈ l, ∀ xs, H b ≠ some (.tup xs)) : Tp H H' := fun b xs h => k b _ (fun z => n b z xs h) h
end L2
set_option Elab.async false
set_option linter.all false
set_option maxRecDepth 100000
namespace Tg
open PySem L2
inductive Kd where
 | num (w : Int)
 | text
 | row (k : Kd)
 | rec_ (fs : List (Str × Kd))
 | pick (fs : List (Str × Kd))
mutual
def Kd.size : Kd → Int
 | .num w => w
 | .text => 1
 | .row _ => 1
 | .rec_ fs => (sizesF fs).sum
 | .pick fs => 1 + topOf (sizesF fs)
def sizesF : List (Str × Kd) → List Int
 | [] => []
 | (_, k) :: r => k.size :: sizesF r
end
mutual
def Kd.depth : Kd → Nat
 | .num _ => 1
 | .text => 1
 | .row k => k.depth + 1
 | .rec_ fs => depthF fs + 1
 | .pick fs => depthF fs + 1
def depthF : List (Str × Kd) → Nat
 | [] => 0
 | (_, k) :: r => max k.depth (depthF r)
end
mutual
def KIn (H : Hp) : V → Kd → Prop
 | v, .num w => ∃ a, v = .ref a ∧ H a = some (.tup [.str "num", .int w])
 | v, .text => ∃ a, v = .ref a ∧ H a = some (.tup [.str "text"])
 | v, .row k => ∃ a u, v = .ref a ∧ H a = some (.tup [.str "row", u]) ∧ KIn H u k
 | v, .rec_ fs => ∃ a f xs, v = .ref a ∧ H a = some (.tup [.str "rec", .ref f]) ∧ H f = some (.tup xs) ∧ FIn H xs fs
 | v, .pick fs => ∃ a f xs, v = .ref a ∧ H a = some (.tup [.str "pick", .ref f]) ∧ H f = some (.tup xs) ∧ FIn H xs fs
def FIn (H : Hp) : List V → List (Str × Kd) → Prop
 | xs, [] => xs = []
 | xs, (nm, k) :: r => ∃ p u ys, xs = .ref p :: ys ∧ H p = some (.tup [.str nm, u]) ∧ KIn H u k ∧ FIn H ys r
end
mutual
theorem KIn.mono {H H' : Hp} (t : Tp H H') : ∀ {k : Kd} {v : V}, KIn H v k → KIn H' v k
 | .num w, v, h => by
  unfold KIn at h ⊢
  obtain ⟨a, e, h⟩ := h
  exact ⟨a, e, t _ _ h⟩
 | .text, v, h => by
  unfold KIn at h ⊢
  obtain ⟨a, e, h⟩ := h
  exact ⟨a, e, t _ _ h⟩
 | .row k, v, h => by
  unfold KIn at h ⊢
  obtain ⟨a, u, e, h, q⟩ := h
  exact ⟨a, u, e, t _ _ h, KIn.mono t q⟩
 | .rec_ fs, v, h => by
  unfold KIn at h ⊢
  obtain ⟨a, f, xs, e, h, h2, q⟩ := h
  exact ⟨a, f, xs, e, t _ _ h, t _ _ h2, FIn.mono t q⟩
 | .pick fs, v, h => by
  unfold KIn at h ⊢
  obtain ⟨a, f, xs, e, h, h2, q⟩ := h
  exact ⟨a, f, xs, e, t _ _ h, t _ _ h2, FIn.mono t q⟩
theorem FIn.mono {H H' : Hp} (t : Tp H H') : ∀ {fs : List (Str × Kd)} {xs : List V}, FIn H xs fs → FIn H' xs fs
 | [], xs, h => by
  unfold FIn at h ⊢
  exact h
 | (nm, k) :: r, xs, h => by
  unfold FIn at h ⊢
  obtain ⟨p, u, ys, e, h, q, z⟩ := h
  exact ⟨p, u, ys, e, t _ _ h, KIn.mono t q, FIn.mono t z⟩
end
theorem FIn.length {H : Hp} : ∀ {fs : List (Str × Kd)} {xs : List V}, FIn H xs fs → xs.length = fs.length
 | [], xs, h => by unfold FIn at h; subst h; rfl
 | (nm, k) :: r, xs, h => by
  unfold FIn at h
  obtain ⟨p, u, ys, e, _, _, z⟩ := h
  rw [e, List.length_cons, List.length_cons, FIn.length z]
theorem FIn.get {H : Hp} : ∀ {fs : List (Str × Kd)} {xs : List V} {i : Nat} {x : V}, FIn H xs fs → xs[i]? = some x → ∃ p nm u k, x = .ref p ∧ H p = some (.tup [.str nm, u]) ∧ KIn H u k ∧ fs[i]? = some (nm, k)
 | [], xs, i, x, h, e => by unfold FIn at h; rw [h] at e; cases e
 | (nm, k) :: r, xs, i, x, h, e => by
  unfold FIn at h
  obtain ⟨p, u, ys, e1, h1, h2, z⟩ := h
  subst e1
  cases i with
  | zero => cases e; exact ⟨p, nm, u, k, rfl, h1, h2, rfl⟩
  | succ i => exact FIn.get (i := i) z e
theorem FIn.snoc {H : Hp} {nm : Str} {k : Kd} {p : Addr} {u : V} : ∀ {fs : List (Str × Kd)} {xs : List V}, FIn H xs fs → H p = some (.tup [.str nm, u]) → KIn H u k → FIn H (xs ++ [.ref p]) (fs ++ [(nm, k)])
 | [], xs, h, h1, h2 => by
  unfold FIn at h
  subst h
  show FIn H [.ref p] [(nm, k)]
  unfold FIn
  exact ⟨p, u, [], rfl, h1, h2, by unfold FIn; rfl⟩
 | (nm', k') :: r, xs, h, h1, h2 => by
  unfold FIn at h
  obtain ⟨q, u', ys, e1, g1, g2, z⟩ := h
  subst e1
  show FIn H (.ref q :: (ys ++ [.ref p])) ((nm', k') :: (r ++ [(nm, k)]))
  unfold FIn
  exact ⟨q, u', _, rfl, g1, g2, FIn.snoc z h1 h2⟩
end Tg
set_option Elab.async false
set_option linter.all false
set_option maxRecDepth 100000
namespace Tg
open PySem L2
def Lets (z : Str) : Prop := ∀ c ∈ z.cps.toList, 97 ≤ c ∧ c ≤ 122
theorem app_codes (x y : Str) : (x ++ y).cps.toList = x.cps.toList ++ y.cps.toList := by rw [Str.cps_append, Array.toList_append]
theorem Lets.app {x y : Str} (a : Lets x) (b : Lets y) : Lets (x ++ y) := fun c h => by
 rw [app_codes] at h
 rcases List.mem_append.mp h with h | h
 ·exact a c h
 ·exact b c h
theorem Lets.cut {x y : Str} {lo hi : Option Int} (a : Lets x) (e : y.cps.toList = cutN x.cps.toList lo hi) : Lets y := fun c h => by
 rw [e] at h
 exact a c (List.mem_of_mem_drop (List.mem_of_mem_take h))
theorem at_some {α : Type} {xs : List α} {r : Int} (h0 : 0 ≤ r) (h1 : r < xs.length) : ∃ x, atI xs r = some x ∧ x ∈ xs := by
 have hk : r.toNat < xs.length := by omega
 have e : r = ((r.toNat : Nat) : Int) := by omega
 have q : atI xs ((r.toNat : Nat) : Int) = some xs[r.toNat] := atI_nat (by rw [List.getElem?_eq_getElem hk] <;> rfl)
 rw [← e] at q
 exact ⟨_, q, List.getElem_mem hk⟩
end Tg
set_option Elab.async false
set_option linter.all false
set_option maxRecDepth 100000
set_option maxHeartbeats 1000000
namespace L2
open PySem PySem.Spec PyProof.Rows PySem.W
theorem exc_obj {K : Frag} {h : Heap} {C : Addr} {bmB : List Value} {newId : String} (X : K.In h) (q : excIn K C bmB newId = true) :
  ∃ bm N nm q bs hdct sn sub ab col dd k0 k1 k2 k3 k5 mN, h.get? C = some (excClassObj nm q C N bs bm hdct sn sub ab col dd k0 k1 k2 k3 k5 newId) ∧ h.Ns N mN ∧ mN "__init__" = none ∧ OwnTail h bmB bm := by
 unfold excIn at q
 split at q
 ·rename_i dd cd sl ho
  split at q
  ·rename_i C' bm k0 k1 k2 k3 n k5 hm hs
   simp only [Bool.and_eq_true, beq_iff_eq, Bool.not_eq_true'] at q
   obtain ⟨⟨⟨⟨⟨rfl, rfl⟩, hdel⟩, ht⟩, hok⟩, hni⟩ := q
   obtain ⟨nm, bs, mro, ns, qn, hd, sn, sub, ab, col, del⟩ := cd
   dsimp only at hm hdel hok hni
   subst hm hdel
   have hsl : sl = #[k0, k1, k2, k3, some (.builtin n), k5] := by
    obtain ⟨l⟩ := sl
    simp only at hs
    rw [hs]
   subst hsl
   exact ⟨bm, ns, nm, qn, bs, hd, sn, sub, ab, col, dd, k0, k1, k2, k3, k5, _, X _ _ ho, .of_isNs (isNs_of_in X hok), nsMap_none_of_in X hok hni, tail_of_in X ht⟩
  ·cases q
 ·cases q
structure UnB (fs : List Addr) (H H' : Hp) (h B h' : Heap) : Prop where
 keep : ∀ b o, h.get? b = some o → H b = none → b ∉ fs → B.get? b = some o
 slot : ∀ b o, h.get? b = some o → H b = none → b ∈ fs → ∃ sl, h'.get? b = some { o with slots := sl }
 free : ∀ b o, h.get? b = some o → H b = none → H' b = none
 there : ∀ b o, h.get? b = some o → b ∉ fs → ∃ o', B.get? b = some o'
 tups : ∀ b xs, H b = some (.tup xs) → H' b = some (.tup xs)
 frzs : ∀ b o u, H b = some (.frz o u) → H' b = some (.frz o u)
 tbls : ∀ b ps, H b = some (.tbl ps) → ∃ more, H' b = some (.tbl (ps ++ more))
theorem UnB.un {fs : List Addr} {H H' : Hp} {h B h' : Heap} (u : UnB fs H H' h B h') (st : B.StaysIn h') (hf : ∀ b ∈ fs, H b = none) : Un fs [] H H' h h' :=
 ⟨fun b o e n hb _ => st b o (u.keep b o e n hb), fun b o e n hb _ => u.slot b o e n hb, fun b o e n _ => u.free b o e n, fun b o e _ => by
  by_cases hb : b ∈ fs
  ·obtain ⟨sl, q⟩ := u.slot b o e (hf b hb) hb
   exact ⟨_, q⟩
  ·obtain ⟨o', q⟩ := u.there b o e hb
   exact ⟨o', st b o' q⟩, u.tups, u.frzs, u.tbls⟩
def CXe (P : Program) (w : World) : CXT := fun outer H s E e s' => ∃ (x : Addr) (C a0 : Value) (H' : Hp) (B : Heap), e = .ref x ∧ s'.os = s.os ∧ AllBare s'.gens ∧
 Heap.FlyingW B outer x C a0 s'.heap ∧ HOk P w H' B ∧ UnB (frs outer) H H' s.heap B s'.heap ∧ E C none H'
def Raises (X : Cx) (E : XK) : Prop := ∀ (pins : List (Addr × Obj)) (σ : St) (H : Hp) (s : Shared) (h' : Heap) (x : Addr) (C : Value) (vs : List Value), Inv X pins σ H s → Heap.MadeExcOf s.heap h' x C vs → E C none H → X.xe (.ref x) { s with heap := h' }
section
variable {X : Cx} {x : Str} {C : Addr} {bmB : List Value} {B newId initId : String} {np cpos pos : Pos} {e₀ : Expr} {rest : List Expr} {t : TA} {E : XK}
def tRaise (E : XK) (C : Addr) (t : TA) : TS := fun _ σ H => t σ H fun vs H1 => vs.length ≤ sizeLine ∧ E (.ref C) none H1
theorem ps_raise (hc : X.calm = true) (hg : Gl X x) (hm : X.mg x = some (.ref C)) (hx : excIn X.K C bmB newId = true) (FB : ExcBaseFacts B newId initId bmB) (ha : PA X (e₀ :: rest) t) (hE : Raises X E)
  (hd : (x == ("__debug__" : Str)) = false := by decide) (he : starEach (e₀ :: rest) X.env = (false, eval e₀ X.env) :: starEach rest X.env := by rfl) (hpl : (backTo cpos (starEach rest X.env)).any (·.1) = false := by rfl) :
  PS X (.Raise (some (.Call (.Name x np) (e₀ :: rest) [] cpos)) none pos) (tRaise E C t) := by
 refine .mk ?_
 intro pins s σ H D I h
 obtain ⟨bm, N, nm, q, bs, hdct, sn, sub, ab, col, dd, k0, k1, k2, k3, k5, mN, hC, hN, hni, T⟩ := exc_obj I.mod.kin hx
 refine wpAny_Raise_call_subT (C := C) (nm := nm) (q := q) (N := N) (bs := bs) (bm := bm) (hdct := hdct) (sn := sn) (sub := sub) (ab := ab) (col := col) (dd := dd) (k0 := k0) (k1 := k1) (k2 := k2) (k3 := k3) (k5 := k5)
  FB (mN := mN) (T.hasType FB.hasBase) (I.ok.hd hc) (by rw [he]; show (false || (backTo cpos (starEach rest X.env)).any (·.1)) = false; rw [hpl]; rfl) hni (ld_glob I hg hm ⟨rfl, ?_⟩ hd)
 have hA := ha cpos pins s σ H _ I h
 rw [he] at hA ⊢
 refine Calls.evalArgs_plain (thn hA fun us s2 ⟨vs, H1, I1, r1, hz, q1⟩ => ?_)
 refine ⟨rfl, by rw [← r1.length]; exact hz, I1.bk _ _ hC, hN.keeps I1.bk, T.keeps I1.bk, fun h' e hM => hE pins σ H1 s2 h' e _ _ I1 hM q1⟩
end
section
variable {P : Program} {w : World} {K : PySem.W.Frag} {mg : Str → Option Value} {base : Heap} {N : List Str} {qual : Str} {scope : Scope} {f : Addr} {cd : Value} {A : Around} {outer : List Env} {s : Shared} {H : Hp} {E : XK}
abbrev cxE (P : Program) (w : World) (K : PySem.W.Frag) (mg : Str → Option Value) (base : Heap) (N : List Str) (qual : Str) (scope : Scope) (f : Addr) (cd : Value) (A : Around) (outer : List Env) (s : Shared) (H : Hp) (E : XK) : Cx :=
 cxOf (CXe P w) P w K mg base N qual scope f cd A outer s H E
theorem entry_notin {pins : List (Addr × Obj)} {σ : St} {H1 : Hp} {s1 : Shared} (I : Inv (cxE P w K mg base N qual scope f cd A outer s H E) pins σ H1 s1) {b : Addr} {o : Obj} (e : s.heap.get? b = some o) (hb : b ∉ frs outer) :
  b ∉ frs (envOfC qual scope s.heap.objs.size f cd :: outer) := fun hm => by
 rcases List.mem_cons.mp (I.stkSub b hm) with z | z
 ·exact absurd (Heap.lt_size e) (by rw [z]; exact Nat.lt_irrefl _)
 ·exact hb z
theorem frame_data {pins : List (Addr × Obj)} {σ : St} {H1 : Hp} {s1 : Shared} (I : Inv (cxE P w K mg base N qual scope f cd A outer s H E) pins σ H1 s1) {b : Addr} {o : Obj} (e : s.heap.get? b = some o) (hb : b ∈ frs outer) : ∀ vs, o.data ≠ .fields vs := by
 obtain ⟨_, o', ho', hd'⟩ := I.ok.funs.mem hb
 have e' : s.heap.get? b = some o' := ho'
 rw [e] at e'
 cases e'
 exact hd'
theorem raise_def : Raises (cxE P w K mg base N qual scope f cd A outer s H E) E := by
 intro pins σ H1 s1 h' x C vs I M hE
 show wpAny (model P w) (A.deeper (envOfC qual scope s.heap.objs.size f cd)) (leaving (envOfC qual scope s.heap.objs.size f cd) (.ref x)) (fun _ s'' => CXe P w outer H s E (.ref x) s'') (fun e' s'' => CXe P w outer H s E e' s'') { s1 with heap := h' }
 have hin : ∀ env' ∈ envOfC qual scope s.heap.objs.size f cd :: outer, ∀ a, env'.frame = some a → a ∈ frs (envOfC qual scope s.heap.objs.size f cd :: outer) := fun env' he a ha => List.mem_filterMap.mpr ⟨env', he, ha⟩
 refine wpAny_leaves_madeW (base := hideAll s1.heap (frs (envOfC qual scope s.heap.objs.size f cd :: outer))) (h := s1.heap) I.ok.frames rfl (fun b o q => of_hideAll _ q) (funFrames_hide I.stack hin) M fun h2 t x1 x2 x3 x4 => ?_
 have nf : ∀ b u, H1 b = some u → b ∉ frs (envOfC qual scope s.heap.objs.size f cd :: outer) := fun b u q hm => by
  have z := I.stkFree b hm
  rw [q] at z; cases z
 refine ⟨x, C, .ref t, H1, _, rfl, I.os, I.bare, x1, fun a o q => ?_, ⟨fun b o q n hb => ?_, fun b o q n hb => ?_, fun b o q n => ?_, fun b o q hb => ?_, I.base.tups, I.base.frzs, I.base.tbls⟩, hE⟩
 ·refine (I.hok a o q).stay (fun b u hb z => hideAll_get _ z ?_) (fun _ z => z) fun _ _ z => z
  rcases hb with rfl | hb
  ·exact nf _ _ q
  ·exact nf _ _ hb
 ·exact hideAll_get _ (I.base.keep b o q n hb (by exact List.not_mem_nil)) (entry_notin I q hb)
 ·obtain ⟨sl, z⟩ := I.base.slot b o q n hb (by exact List.not_mem_nil)
  obtain ⟨sl2, z2⟩ := x4 b _ (M.keeps _ _ z) (have fd := frame_data I q hb; fun vs => fd vs)
  exact ⟨sl2, z2⟩
 ·exact I.base.free b o q n (by exact List.not_mem_nil)
 ·obtain ⟨o', z⟩ := I.base.there b o q (by exact List.not_mem_nil)
  exact ⟨o', hideAll_get _ z (entry_notin I q hb)⟩
theorem pass_def : Passes (CXe P w) (cxE P w K mg base N qual scope f cd A outer s H E) E := by
 intro pins σ H1 s1 e s2 I h
 obtain ⟨x, C, a0, H', B, rfl, os, bare, fl, hok, u, hE⟩ := h
 show wpAny (model P w) (A.deeper (envOfC qual scope s.heap.objs.size f cd)) (leaving (envOfC qual scope s.heap.objs.size f cd) (.ref x)) (fun _ s'' => CXe P w outer H s E (.ref x) s'') (fun e' s'' => CXe P w outer H s E e' s'') s2
 refine wpAny_leaves_onW I.ok.frames rfl fl fun h2 f2 up => ?_
 refine ⟨x, C, a0, H', B, rfl, os.trans I.os, bare, f2, hok, ⟨fun b o q n hb => ?_, fun b o q n hb => ?_, fun b o q n => ?_, fun b o q hb => ?_, fun b xs q => u.tups b xs (I.base.tups b xs q), fun b o v q => u.frzs b o v (I.base.frzs b o v q), fun b ps q => ?_⟩, hE⟩
 ·exact u.keep b o (I.base.keep b o q n hb (by exact List.not_mem_nil)) (I.base.free b o q n (by exact List.not_mem_nil)) (entry_notin I q hb)
 ·obtain ⟨sl, z⟩ := I.base.slot b o q n hb (by exact List.not_mem_nil)
  have hm : b ∈ frs (envOfC qual scope s.heap.objs.size f cd :: outer) := by
   obtain ⟨env', he, ha⟩ := List.mem_filterMap.mp hb
   exact List.mem_filterMap.mpr ⟨env', List.mem_cons_of_mem _ he, ha⟩
  obtain ⟨sl2, z2⟩ := u.slot b _ z (I.base.free b o q n (by exact List.not_mem_nil)) hm
  obtain ⟨sl3, z3⟩ := up b _ z2 (have fd := frame_data I q hb; fun vs => fd vs)
  exact ⟨sl3, z3⟩
 ·obtain ⟨o', z⟩ := I.base.there b o q (by exact List.not_mem_nil)
  exact u.free b o' z (I.base.free b o q n (by exact List.not_mem_nil))
 ·obtain ⟨o', z⟩ := I.base.there b o q (by exact List.not_mem_nil)
  exact u.there b o' z (entry_notin I q hb)
 ·obtain ⟨m1, z1⟩ := I.base.tbls b ps q
  obtain ⟨m2, z2⟩ := u.tbls b _ z1
  exact ⟨m1 ++ m2, by rw [z2, Array.append_assoc]⟩
theorem own_def : PassesOwn (model P w) (cxE P w K mg base N qual scope f cd A outer s H E).A (cxE P w K mg base N qual scope f cd A outer s H E).env (cxE P w K mg base N qual scope f cd A outer s H E).xe := PassesOwn.leaving
end
theorem Fun.okX {P : Program} {w : World} {K : PySem.W.Frag} {mg : Str → Option Value} {base : Heap} {x qual : Str} {st : Stmt} {f : Addr} {fd : FuncData} {N ps : List Str} {k : Nat} {sp : Sp} (F : Fun K x qual st f fd) (S : FnScope N ps (defScope st)) (len : ∀ vs H Q E, sp vs H Q E → vs.length = ps.length)
  (hbody : ∀ (cdv : Value) (A : Around) (outer : List Env) (s : Shared) (H : Hp) (vs : List V) (Q : VK) (E : XK), Room k (A.deeper (envOfC qual (defScope st) s.heap.objs.size f cdv)) → sp vs H Q E →
   ∃ t, PSs (cxE P w K mg base N qual (defScope st) f cdv A outer s H E) (defBody st) t ∧ t { nx := fun _ H' => Q .non H', rt := Q } (start N vs) H) : FnOk P w K mg base (CXe P w) (k + 1) f fd ps sp := by
 obtain ⟨oc, od, kV, doc, pm, an, cdv, ct, osl, rfl, lk, hcd⟩ := F.ex
 exact fn_of lk hcd S len fun A outer s H vs Q E hr hsp => hbody cdv A outer s H vs Q E hr hsp
section
variable {X : Cx} {x : Str} {k j : Nat} {ps : List Str} {sp : Sp} {p pos : Pos} {e : Expr} {es : List Expr} {t : TA} {E : XK}
end
end L2
set_option Elab.async false
set_option linter.all false
set_option maxRecDepth 100000
set_option maxHeartbeats 1000000
namespace L2
open PySem PySem.Spec PyProof.Rows PySem.W
theorem ObjOk.got {P : Program} {w : World} {H : Hp} {h : Heap} {a : Addr} {o : HO} (x : ObjOk P w H h a o) : ∃ u, h.get? a = some u := by
 cases o with
 | lst xs => obtain ⟨_, _, _, _, e⟩ := x; exact ⟨_, e⟩
 | tup xs => obtain ⟨_, _, _, o, e, _⟩ := x; exact ⟨_, e⟩
 | dK kvs => obtain ⟨_, _, _, _, o, _, _, e, _⟩ := x; exact ⟨_, e⟩
 | dT kvs => obtain ⟨_, _, _, _, o, _, _, e, _⟩ := x; exact ⟨_, e⟩
 | set S n => obtain ⟨o, _, _, _, e, _⟩ := x; exact ⟨_, e⟩
 | ins C dx fs => obtain ⟨_, _, _, e, _⟩ := x; exact ⟨_, e⟩
 | own y => exact x
 | xd fs => obtain ⟨_, ⟨_, _, _, e, _⟩, _⟩ := x; exact ⟨_, e⟩
 | rng lo hi => obtain ⟨_, _, _, e⟩ := x; exact ⟨_, e⟩
 | frz ob u => obtain ⟨e, _⟩ := x; exact ⟨_, e⟩
 | tbl ps => exact ⟨_, (show h.get? a = some _ from x)⟩
 | met f y => exact ⟨_, (show h.get? a = some _ from x)⟩
 | ext φ => obtain ⟨_, e, _⟩ := x; exact e
def excAt (x : Addr) (C : Value) : Heap → Prop := fun h => ∃ ob, h.get? x = some ob ∧ ob.cls = C
section
variable {X : Cx} {pins : List (Addr × Obj)} {σ : St} {H : Hp} {s : Shared}
theorem Inv.track {a : Addr} {φ : Heap → Prop} (I : Inv X pins σ H s) (hn : H a = none) (h0 : ∀ b o, X.s₀.heap.get? b = some o → b ∉ X.ex → b ≠ a) (hL : a ≠ X.env.locals) (hC : ∀ x c, X.env.cells.lookup x = some c → c ≠ a)
  (hp : ∀ p ∈ X.pn ++ pins, p.1 ≠ a) (new : ObjOk X.prog X.w (upd H a (.ext φ)) s.heap a (.ext φ)) : Inv X pins σ (upd H a (.ext φ)) s where
 ok := I.ok
 os := I.os
 bare := I.bare
 base := ⟨I.base.keep, I.base.slot, fun b o e n hx => by rw [upd_ne (h0 b o e hx)]; exact I.base.free b o e n hx, I.base.there,
  fun b xs q => by have z := I.base.tups b xs q; rw [upd_ne (ne_of_none z hn)]; exact z, fun b o u q => by have z := I.base.frzs b o u q; rw [upd_ne (ne_of_none z hn)]; exact z,
  fun b ps q => by obtain ⟨m, z⟩ := I.base.tbls b ps q; exact ⟨m, by rw [upd_ne (ne_of_none z hn)]; exact z⟩⟩
 loc := I.loc
 cell := I.cell
 free := by rw [upd_ne hL.symm]; exact I.free
 freeC := fun x c e => by rw [upd_ne (hC x c e)]; exact I.freeC x c e
 pin := fun p hp' => by
  obtain ⟨a1, a2, a3⟩ := I.pin p hp'
  exact ⟨a1, by rw [upd_ne (hp p hp')]; exact a2, a3⟩
 hok := fun b o e => by
  by_cases hb : b = a
  ·subst hb; rw [upd_same] at e; cases e; exact new
  ·rw [upd_ne hb] at e
   exact (I.hok b o e).stay (fun _ _ _ q => q) (fun c q => by rw [upd_ne (ne_of_none q hn)]; exact q) fun c xs q => by rw [upd_ne (ne_of_none q hn)]; exact q
 len := I.len
abbrev Cx.tr (X : Cx) (E' : Value → Shared → Prop) (pn : List (Addr × Obj)) : Cx := { X with xe := E', pn := pn }
abbrev Cx.su (X : Cx) (x : Addr) : Cx := { X with A := X.A.mark (some (.ref x)), calm := false, xe := fun _ _ => False }
theorem Cx.Ok.tr (ok : X.Ok) (E' : Value → Shared → Prop) (pn : List (Addr × Obj)) : (X.tr E' pn).Ok :=
 ⟨ok.mod, ok.kind, ok.glob, ok.blt, ok.above, ok.inj, ok.has, ok.cab, ok.hd, ok.frames, ok.stk, ok.exf, ok.bs, ok.bsz, ok.noex, ok.exfs, ok.funs, ok.frf⟩
theorem Cx.Ok.su (ok : X.Ok) (x : Addr) : (X.su x).Ok :=
 ⟨ok.mod, ok.kind, ok.glob, ok.blt, ok.above, ok.inj, ok.has, ok.cab, (fun z => absurd (show false = true from z) (by decide)), ok.frames, ok.stk, ok.exf, ok.bs, ok.bsz, ok.noex, ok.exfs, ok.funs, ok.frf⟩
theorem Inv.tr (I : Inv X pins σ H s) (E' : Value → Shared → Prop) : Inv (X.tr E' (X.pn ++ pins)) [] σ H s :=
 ⟨I.ok.tr E' _, I.os, I.bare, I.base, I.loc, I.cell, I.free, I.freeC, fun p hp => I.pin p (by simpa using hp), I.hok, I.len⟩
theorem Inv.untr {E' : Value → Shared → Prop} {pins' : List (Addr × Obj)} (ok : X.Ok) (I : Inv (X.tr E' (X.pn ++ pins)) pins' σ H s) : Inv X pins σ H s :=
 ⟨ok, I.os, I.bare, I.base, I.loc, I.cell, I.free, I.freeC, fun p hp => I.pin p (List.mem_append_left _ hp), I.hok, I.len⟩
theorem Inv.su (I : Inv X pins σ H s) (x : Addr) : Inv (X.su x) pins σ H s := ⟨I.ok.su x, I.os, I.bare, I.base, I.loc, I.cell, I.free, I.freeC, I.pin, I.hok, I.len⟩
theorem Inv.unsu {x : Addr} (ok : X.Ok) (I : Inv (X.su x) pins σ H s) : Inv X pins σ H s := ⟨ok, I.os, I.bare, I.base, I.loc, I.cell, I.free, I.freeC, I.pin, I.hok, I.len⟩
theorem goes_ok {M : Model} {A : Around} {E : Value → Shared → Prop} {j : Nat} {n : Str} {pos : Pos} {Q : Unit → Shared → Prop} (I : Inv X pins σ H s) (hN : X.N.Nodup) (hi : X.N[j]? = some n) (hk : X.env.scope.names.lookup n = some .local)
  (h : ∀ s', Inv X pins (σ.set j none) H s' → Q () s') : wpAny M A (do bindName X.env n .none; unbindBehindTheSuite X.env n pos) Q E s := by
 obtain ⟨m, hn, hl⟩ := id I.loc
 have hcls : (X.env.scope.kind == .class || (X.env.scope.kind == .module && X.env.locals != X.env.globals)) = false := by rw [I.ok.kind]; rfl
 have hjσ : j < σ.length := by rw [I.len]; exact (List.getElem?_eq_some_iff.mp hi).1
 refine wpAny_nameGoes_keeps hk hn hcls fun h' v hn' hs => h _ ?_
 have nL : ∀ b o, X.s₀.heap.get? b = some o → b ≠ X.env.locals := fun b o e => Nat.ne_of_lt (Nat.lt_of_lt_of_le (Heap.lt_size e) I.ok.above)
 refine ⟨I.ok, I.os, I.bare, ⟨fun b o e n' hb hx => (hs.2 b (nL b o e)).trans (I.base.keep b o e n' hb hx), fun b o e n' hb hx => ?_, I.base.free, fun b o e hx => ?_, I.base.tups, I.base.frzs, I.base.tbls⟩, ⟨_, hn', fun i y v' e1 e2 e3 => ?_⟩, fun y c e => ?_, I.free, I.freeC, fun p hp => ?_, fun b ob e => ?_, by simpa using I.len⟩
 ·obtain ⟨sl, e1⟩ := I.base.slot b o e n' hb hx
  exact ⟨sl, (hs.2 b (nL b o e)).trans e1⟩
 ·obtain ⟨o', e1⟩ := I.base.there b o e hx
  exact ⟨o', (hs.2 b (nL b o e)).trans e1⟩
 ·by_cases hj : i = j
  ·subst hj
   rw [List.getElem?_set_self hjσ] at e2
   cases e2
  ·rw [List.getElem?_set_ne (Ne.symm hj)] at e2
   obtain ⟨u', r', q⟩ := hl i y v' e1 e2 e3
   refine ⟨u', r', ?_⟩
   rcases q with ⟨k, e⟩ | ⟨k, c, e, z⟩
   ·refine .inl ⟨k, ?_⟩
    have ny : y ≠ n := fun e => hj (nodup_ix hN e1 (e ▸ hi))
    simp [ny, e]
   ·exact .inr ⟨k, c, e, z.sameBut hs (I.cne y c e)⟩
 ·obtain ⟨w', z⟩ := I.cell y c e
  exact ⟨w', z.sameBut hs (I.cne y c e)⟩
 ·obtain ⟨e, n', ne, nf, d⟩ := I.pin p hp
  exact ⟨(hs.2 p.1 ne).trans e, n', ne, nf, d⟩
 ·refine (I.hok b ob e).stay (fun c w' hc q => (hs.2 c ?_).trans q) (fun _ q => q) fun _ _ q => q
  rintro rfl
  rcases hc with z | z
  ·rw [← z, I.free] at e; cases e
  ·rw [I.free] at z; cases z
end
section
variable {X : Cx} {body suite : List Stmt} {b₀ : Stmt} {y n : Str} {np hpos pos : Pos} {Cy : Addr} {j : Nat} {tb : (St → XK) → TS} {ts : TS}
def wTry (K : PySem.W.Frag) (Cy : Addr) (j : Nat) (ts : TS) (D : Ends) : St → XK := fun σ C _ H' => exmOne K C (.ref Cy) = some true ∧ ∀ x, H' x = none →
 ts { nx := fun σ2 H2 => D.nx (σ2.set j none) H2, rt := D.rt, bk := fun σ2 H2 => D.bk (σ2.set j none) H2, ct := fun σ2 H2 => D.ct (σ2.set j none) H2 } (σ.set j (some (.ref x))) (upd H' x (.ext (excAt x C)))
def tTry (K : PySem.W.Frag) (Cy : Addr) (j : Nat) (tb : (St → XK) → TS) (ts : TS) : TS := fun D σ H => tb (wTry K Cy j ts D) D σ H
def eTry (X : Cx) (pins : List (Addr × Obj)) (D : Ends) (hs : List ExceptHandler) : Value → Shared → Prop := fun e s₁ =>
 wpAny (model X.prog X.w) X.A (noteFrame e X.env) (fun _ s₂ => wpAny (model X.prog X.w) X.A (setFlight e none) (fun _ s₃ => wpAny (model X.prog X.w) X.A (handleBy e X.env hs) (SP X pins D) X.xe s₃) X.xe s₂) X.xe s₁
theorem catch_as {pins : List (Addr × Obj)} {D : Ends} (ok : X.Ok) (hst : X.stack = X.env :: X.outer) (hfr : X.env.frame = some X.env.locals) (hy : Gl X y) (hmy : X.mg y = some (.ref Cy)) (hN : X.N.Nodup) (hj : X.N[j]? = some n) (hl : X.env.scope.names.lookup n = some .local)
  (hs : ∀ x, PSs (X.su x) (b₀ :: suite) ts) (hd : (y == ("__debug__" : Str)) = false) {σ1 : St} {H1 : Hp} {s1 : Shared} {e : Value} {s2 : Shared} (J1 : Inv X pins σ1 H1 s1) (hcx : CXe X.prog X.w X.stack H1 s1 (wTry X.K Cy j ts D σ1) e s2) :
  eTry X pins D [.ExceptHandler (some (.Name y np)) (some n) (b₀ :: suite) hpos] e s2 := by
 obtain ⟨x, C, a0, H', B, rfl, os, bare, fl, hok, u, hm, hw⟩ := hcx
 have hfrm : X.A.frames = some (X.env :: X.outer) := by rw [← hst]; exact ok.frames
 have fl' : Heap.FlyingW B (X.env :: X.outer) x C a0 s2.heap := by rw [← hst]; exact fl
 have data : ∀ b ∈ frs X.stack, ∀ o, s1.heap.get? b = some o → ∀ vs, o.data ≠ .fields vs := fun b hb o q => by
  obtain ⟨_, o', ho', hd'⟩ := J1.stack.mem hb
  rw [q] at ho'; cases ho'; exact hd'
 have mkI : ∀ h5 : Heap, B.StaysIn h5 → s2.heap.UpToSlots h5 → Inv X pins σ1 H' { s2 with heap := h5 } := fun h5 st up => by
  have u5 : UnB (frs X.stack) H1 H' s1.heap B h5 := ⟨u.keep, fun b o q n' hb => by
   obtain ⟨sl, z⟩ := u.slot b o q n' hb
   obtain ⟨sl2, z2⟩ := up b _ z (have dd := data b hb o q; fun vs => dd vs)
   exact ⟨sl2, z2⟩, u.free, u.there, u.tups, u.frzs, u.tbls⟩
  exact J1.call' (s' := { s2 with heap := h5 }) (ch := []) os (u5.un st J1.stkFree) (hok.kept st) bare (fun b hb => nomatch hb)
 have hxB : B.get? x = none := fl'.2.1
 have Hx : H' x = none := by
  cases q : H' x with
  | none => rfl
  | some o =>
   obtain ⟨z, hz⟩ := (hok x o q).got
   rw [hxB] at hz; cases hz
 refine wpAny_looks_onW hfrm hfr fl' fun h4 held4 up4 => ?_
 refine wpAny_landsW held4 fun h5 fl5 up5 => ?_
 have nx1 : ∀ o, s1.heap.get? x = some o → False := fun o q => by
  by_cases hm' : x ∈ frs X.stack
  ·rw [hst] at hm'
   obtain ⟨_, o', ho', hd'⟩ := fl5.2.2.1.mem hm'
   obtain ⟨oe, vs, _, _, _, he, _, hdat, _⟩ := fl5.2.2.2
   rw [ho'] at he; cases he
   exact hd' vs hdat
  ·obtain ⟨o', z⟩ := u.there x o q hm'
   rw [hxB] at z; cases z
 have I5 := mkI h5 fl5.1 (up4.trans up5)
 obtain ⟨ob, hob, hoc⟩ := fl5.there
 have LT : Looks (model X.prog X.w) h5 (typeOf (.ref x)) C := by rw [← hoc]; exact (Looks.ld hob).andThen .now
 refine wpAny_handleBy_cons (codeAny_handlers_test (ld_glob (X := X.su x) (I5.su x) hy hmy ?_ hd)) (by intro q; cases q)
 refine (exm_one I5.kIn LT hm).here ?_
 refine codeAny_handlers_suite_as ?_
 refine lands_againW fl5 fun h6 fl6 up6 => ?_
 have I6 := mkI h6 fl6.1 ((up4.trans up5).trans up6)
 obtain ⟨ob6, hob6, hoc6⟩ := fl6.there
 have It : Inv X pins σ1 (upd H' x (.ext (excAt x C))) { s2 with heap := h6 } := by
  refine I6.track Hx (fun b o q hx' z => ?_) (fun z => ?_) (fun x' c q z => ?_) (fun p hp z => ?_) ⟨⟨ob6, hob6, hoc6⟩, ⟨ob6, hob6⟩, fun h1 h2 ⟨o, a, b⟩ k => ⟨o, k o a, b⟩⟩
  ·subst z
   obtain ⟨o', z⟩ := J1.base.there _ o q hx'
   exact nx1 o' z
  ·obtain ⟨m, ⟨o, _, _, ho, _⟩, _⟩ := J1.loc
   rw [← z] at ho
   exact nx1 o ho
  ·obtain ⟨v, o, ho, _⟩ := J1.cell x' c q
   rw [z] at ho
   exact nx1 o ho
  ·have q := (J1.pin p hp).1
   rw [z] at q
   exact nx1 _ q
 refine store_ok (X := X.su x) (v := .ref x) (It.su x) hN hj (.inl hl) rfl (fun s7 I7 => ?_) (.inr hl)
 refine wpAny_mono ((hs x).run pins s7 _ _ _ I7 (hw x Hx)) (fun f s8 q => ?_) (fun _ _ z => z.elim)
 cases f with
 | next => obtain ⟨σ2, H2, I8, q⟩ := q; exact goes_ok (Inv.unsu ok I8) hN hj hl fun s9 I9 => ⟨_, _, I9, q⟩
 | brk => obtain ⟨σ2, H2, I8, q⟩ := q; exact goes_ok (Inv.unsu ok I8) hN hj hl fun s9 I9 => ⟨_, _, I9, q⟩
 | cont => obtain ⟨σ2, H2, I8, q⟩ := q; exact goes_ok (Inv.unsu ok I8) hN hj hl fun s9 I9 => ⟨_, _, I9, q⟩
 | ret v => obtain ⟨v', σ2, H2, I8, r, q⟩ := q; exact goes_ok (Inv.unsu ok I8) hN hj hl fun s9 I9 => ⟨v', _, _, I9, r, q⟩
theorem ps_try (hst : X.stack = X.env :: X.outer) (hfr : X.env.frame = some X.env.locals) (hy : Gl X y) (hmy : X.mg y = some (.ref Cy)) (hN : X.N.Nodup) (hj : X.N[j]? = some n) (hl : X.env.scope.names.lookup n = some .local)
  (hb : ∀ (E' : Value → Shared → Prop) (pn : List (Addr × Obj)) (W : St → XK), (∀ pins σ H s e s', Inv (X.tr E' pn) pins σ H s → CXe X.prog X.w X.stack H s (W σ) e s' → E' e s') → PSs (X.tr E' pn) body (tb W))
  (hs : ∀ x, PSs (X.su x) (b₀ :: suite) ts) (hd : (y == ("__debug__" : Str)) = false := by decide) :
  PS X (.Try body [.ExceptHandler (some (.Name y np)) (some n) (b₀ :: suite) hpos] [] [] pos) (tTry X.K Cy j tb ts) := by
 refine .mk ?_
 intro pins s σ H D I h
 have ok := I.ok
 refine wpAny_Try_except ?_
 have fin := (hb (eTry X pins D [.ExceptHandler (some (.Name y np)) (some n) (b₀ :: suite) hpos]) (X.pn ++ pins) (wTry X.K Cy j ts D) (fun pins' σ1 H1 s1 e s2 J hcx => catch_as ok hst hfr hy hmy hN hj hl hs hd (Inv.untr ok J) hcx)).run [] s σ H D (I.tr _) h
 refine wpAny_mono fin (fun f s1 q => ?_) fun e s1 q => q
 cases f with
 | next =>
  obtain ⟨σ', H', I', q⟩ := q
  exact wpAny_execs_nil ⟨σ', H', Inv.untr ok I', q⟩
 | brk => obtain ⟨σ', H', I', q⟩ := q; exact ⟨σ', H', Inv.untr ok I', q⟩
 | cont => obtain ⟨σ', H', I', q⟩ := q; exact ⟨σ', H', Inv.untr ok I', q⟩
 | ret v => obtain ⟨v', σ', H', I', r, q⟩ := q; exact ⟨v', σ', H', Inv.untr ok I', r, q⟩
end
end L2
set_option Elab.async false
set_option linter.all false
set_option maxRecDepth 100000
set_option maxHeartbeats 1000000
namespace L2
open PySem PySem.Spec PyProof.Rows PySem.W
section
variable {X : Cx} {x : Str} {k j : Nat} {ps : List Str} {sp : Sp} {p pos : Pos} {e : Expr} {es : List Expr} {t : TA} {W : St → XK}
def PassesW (X : Cx) (W : St → XK) : Prop := ∀ (pins : List (Addr × Obj)) (σ : St) (H : Hp) (s : Shared) (e : Value) (s' : Shared), Inv X pins σ H s → CXe X.prog X.w X.stack H s (W σ) e s' → X.xe e s'
end
section
variable {X : Cx} {body suite : List Stmt} {b₀ : Stmt} {y : Str} {np hpos pos : Pos} {Cy : Addr} {tb : (St → XK) → TS} {ts : TS}
def wTry0 (K : PySem.W.Frag) (Cy : Addr) (ts : TS) (D : Ends) : St → XK := fun σ C _ H' => exmOne K C (.ref Cy) = some true ∧ ts D σ H'
def tTry0 (K : PySem.W.Frag) (Cy : Addr) (tb : (St → XK) → TS) (ts : TS) : TS := fun D σ H => tb (wTry0 K Cy ts D) D σ H
theorem catch_0 {pins : List (Addr × Obj)} {D : Ends} (ok : X.Ok) (hst : X.stack = X.env :: X.outer) (hfr : X.env.frame = some X.env.locals) (hy : Gl X y) (hmy : X.mg y = some (.ref Cy))
  (hs : ∀ x, PSs (X.su x) (b₀ :: suite) ts) (hd : (y == ("__debug__" : Str)) = false) {σ1 : St} {H1 : Hp} {s1 : Shared} {e : Value} {s2 : Shared} (J1 : Inv X pins σ1 H1 s1) (hcx : CXe X.prog X.w X.stack H1 s1 (wTry0 X.K Cy ts D σ1) e s2) :
  eTry X pins D [.ExceptHandler (some (.Name y np)) none (b₀ :: suite) hpos] e s2 := by
 obtain ⟨x, C, a0, H', B, rfl, os, bare, fl, hok, u, hm, hw⟩ := hcx
 have hfrm : X.A.frames = some (X.env :: X.outer) := by rw [← hst]; exact ok.frames
 have fl' : Heap.FlyingW B (X.env :: X.outer) x C a0 s2.heap := by rw [← hst]; exact fl
 have data : ∀ b ∈ frs X.stack, ∀ o, s1.heap.get? b = some o → ∀ vs, o.data ≠ .fields vs := fun b hb o q => by
  obtain ⟨_, o', ho', hd'⟩ := J1.stack.mem hb
  rw [q] at ho'; cases ho'; exact hd'
 have mkI : ∀ h5 : Heap, B.StaysIn h5 → s2.heap.UpToSlots h5 → Inv X pins σ1 H' { s2 with heap := h5 } := fun h5 st up => by
  have u5 : UnB (frs X.stack) H1 H' s1.heap B h5 := ⟨u.keep, fun b o q n' hb => by
   obtain ⟨sl, z⟩ := u.slot b o q n' hb
   obtain ⟨sl2, z2⟩ := up b _ z (have dd := data b hb o q; fun vs => dd vs)
   exact ⟨sl2, z2⟩, u.free, u.there, u.tups, u.frzs, u.tbls⟩
  exact J1.call' (s' := { s2 with heap := h5 }) (ch := []) os (u5.un st J1.stkFree) (hok.kept st) bare (fun b hb => nomatch hb)
 have hxB : B.get? x = none := fl'.2.1
 have Hx : H' x = none := by
  cases q : H' x with
  | none => rfl
  | some o =>
   obtain ⟨z, hz⟩ := (hok x o q).got
   rw [hxB] at hz; cases hz
 refine wpAny_looks_onW hfrm hfr fl' fun h4 held4 up4 => ?_
 refine wpAny_landsW held4 fun h5 fl5 up5 => ?_
 have I5 := mkI h5 fl5.1 (up4.trans up5)
 obtain ⟨ob, hob, hoc⟩ := fl5.there
 have LT : Looks (model X.prog X.w) h5 (typeOf (.ref x)) C := by rw [← hoc]; exact (Looks.ld hob).andThen .now
 refine wpAny_handleBy_cons (codeAny_handlers_test (ld_glob (X := X.su x) (I5.su x) hy hmy ?_ hd)) (by intro q; cases q)
 refine (exm_one I5.kIn LT hm).here ?_
 refine codeAny_handlers_suite ?_
 refine lands_againW fl5 fun h6 fl6 up6 => ?_
 have I6 := mkI h6 fl6.1 ((up4.trans up5).trans up6)
 refine wpAny_mono ((hs x).run pins { s2 with heap := h6 } _ _ _ (I6.su x) hw) (fun f s8 q => ?_) (fun _ _ z => z.elim)
 cases f with
 | next => obtain ⟨σ2, H2, I8, q⟩ := q; exact ⟨_, _, Inv.unsu ok I8, q⟩
 | brk => obtain ⟨σ2, H2, I8, q⟩ := q; exact ⟨_, _, Inv.unsu ok I8, q⟩
 | cont => obtain ⟨σ2, H2, I8, q⟩ := q; exact ⟨_, _, Inv.unsu ok I8, q⟩
 | ret v => obtain ⟨v', σ2, H2, I8, r, q⟩ := q; exact ⟨v', _, _, Inv.unsu ok I8, r, q⟩
theorem ps_try0 (hst : X.stack = X.env :: X.outer) (hfr : X.env.frame = some X.env.locals) (hy : Gl X y) (hmy : X.mg y = some (.ref Cy))
  (hb : ∀ (E' : Value → Shared → Prop) (pn : List (Addr × Obj)) (W : St → XK), (∀ pins σ H s e s', Inv (X.tr E' pn) pins σ H s → CXe X.prog X.w X.stack H s (W σ) e s' → E' e s') → PSs (X.tr E' pn) body (tb W))
  (hs : ∀ x, PSs (X.su x) (b₀ :: suite) ts) (hd : (y == ("__debug__" : Str)) = false := by decide) :
  PS X (.Try body [.ExceptHandler (some (.Name y np)) none (b₀ :: suite) hpos] [] [] pos) (tTry0 X.K Cy tb ts) := by
 refine .mk ?_
 intro pins s σ H D I h
 have ok := I.ok
 refine wpAny_Try_except ?_
 have fin := (hb (eTry X pins D [.ExceptHandler (some (.Name y np)) none (b₀ :: suite) hpos]) (X.pn ++ pins) (wTry0 X.K Cy ts D) (fun pins' σ1 H1 s1 e s2 J hcx => catch_0 ok hst hfr hy hmy hs hd (Inv.untr ok J) hcx)).run [] s σ H D (I.tr _) h
 refine wpAny_mono fin (fun f s1 q => ?_) fun e s1 q => q
 cases f with
 | next =>
  obtain ⟨σ', H', I', q⟩ := q
  exact wpAny_execs_nil ⟨σ', H', Inv.untr ok I', q⟩
 | brk => obtain ⟨σ', H', I', q⟩ := q; exact ⟨σ', H', Inv.untr ok I', q⟩
 | cont => obtain ⟨σ', H', I', q⟩ := q; exact ⟨σ', H', Inv.untr ok I', q⟩
 | ret v => obtain ⟨v', σ', H', I', r, q⟩ := q; exact ⟨v', σ', H', Inv.untr ok I', r, q⟩
end
end L2
set_option Elab.async false
set_option linter.all false
set_option maxRecDepth 100000
namespace L2
open PySem PySem.Spec PyProof.Rows
section
variable {X : Cx}
def CDivG (i j : Int) : Prop := 0 < j ∧ j < 2 ^ 200
theorem CDivG.noPy {i j : Int} (h : CDivG i j) : Builtin.divisionGoesByPylong i j = false := by
 refine PyProof.noPylong_of_log2 ?_
 have h1 : j.natAbs < 2 ^ 200 := by have := h.1; have := h.2; omega
 have h2 : j.natAbs ≠ 0 := by have := h.1; omega
 have := (Nat.log2_lt h2).mpr h1
 omega
theorem op_fdivG : OpR X (binaryOp .FloorDiv) (rI CDivG fun i j => .int (i / j)) := opI fun i j _ _ _ _ _ hc q => by
 have h1 : (0 : Int) < j := hc.1
 exact floordiv_int (by omega) (by rw [Int.fdiv_eq_ediv_of_nonneg i (by omega)]; exact q) (.inl hc.noPy)
theorem bools_of {bs : List Bool} : ∀ {us : List Value}, Vals (bs.map V.bl) us → us = bs.map Value.bool := by
 induction bs with
 | nil => intro us r; rw [List.map_nil] at r; cases r; rfl
 | cons n ns ih =>
  intro us r
  rw [List.map_cons] at r
  cases r with
  | cons r1 r2 =>
   rw [ih r2]
   cases r1
   rfl
theorem range_all {bs : List Bool} : (List.range bs.length).all (fun i => bs.getD i true) = bs.all id := by
 rw [Bool.eq_iff_iff, List.all_eq_true, List.all_eq_true]
 constructor
 ·intro h b hb
  obtain ⟨i, hi, rfl⟩ := List.getElem_of_mem hb
  have := h i (List.mem_range.mpr hi)
  simpa [List.getD, List.getElem?_eq_getElem hi] using this
 ·intro h i hi
  have hi' := List.mem_range.mp hi
  have := h bs[i] (List.getElem_mem hi')
  simpa [List.getD, List.getElem?_eq_getElem hi'] using this
theorem kept_it {s : Shared} {o₀ : Obj} {h' : Heap} (hk : ∀ b o, b ∉ [s.heap.objs.size] → (s.heap.push o₀).get? b = some o → h'.get? b = some o) : ∀ b o, s.heap.get? b = some o → h'.get? b = some o := fun b o e => by
 refine hk b o (fun hm => ?_) (Heap.get?_push_of_some _ e)
 exact absurd ((List.mem_singleton.mp hm) ▸ Heap.lt_size e) (Nat.lt_irrefl _)
theorem call_allL (hc : X.calm = true) : CallR X (.builtin "all") (fun xs H Q => ∃ (p : Addr) (bs : List Bool), xs = [.ref p] ∧ SqL X.K H p (bs.map V.bl) ∧ Q (.bl (bs.all id)) H) := by
 intro pins s σ H xs us Q I r h
 obtain ⟨p, bs, rfl, hq, q⟩ := h
 obtain ⟨u, rfl, ru⟩ := vals1 r
 cases ru
 obtain ⟨its, rv, pl, hz⟩ := I.list hq
 have eb := bools_of rv
 have hl : s.heap.IsList p its.toArray := pl.isList
 have hlt : p < s.heap.objs.size := by obtain ⟨_, e, _⟩ := hl; exact Heap.lt_size e
 refine call_all_walk (wpAny_pyIter_list hl ?_)
 refine ⟨s.heap.objs.size, _, _, _, _, _, fun i => bs.getD i true, rfl, Walks.list (prog := X.prog) (w := X.w) (A := X.A.in1) (I.ok.hd hc) s.heap.objs.size p (Nat.ne_of_lt hlt) its.toArray, ⟨⟨_, Heap.get?_push_size _ rfl, rfl, rfl⟩, hl.push _⟩, ?_, ?_⟩
 ·intro i v s' Q' E' hP hQ
  have e : v = .bool (bs.getD i true) := by
   rw [eb] at hP
   simp only [List.getElem?_toArray, List.getElem?_map, Option.map_eq_some_iff] at hP
   obtain ⟨b, hb, rfl⟩ := hP
   simp [List.getD, hb]
  rw [e]
  exact wpAny_truthy_bool hQ
 ·intro h' tk hk
  refine ⟨.bl (bs.all id), H, I.kept (kept_it hk), ?_, q⟩
  have e2 : its.toArray.size = bs.length := by rw [eb]; simp
  rw [e2, range_all]
  rfl
def eqL (xs ys : List V) : Bool := (List.range (min xs.length ys.length)).all (fun j => eqV (xs.getD j .non) (ys.getD j .non)) && xs.length == ys.length
theorem Vals.at {xs : List V} {us : List Value} (r : Vals xs us) : ∀ {j : Nat} (h : j < us.length), RelV (xs.getD j .non) us[j] := by
 induction r with
 | nil => intro j h; exact absurd h (Nat.not_lt_zero _)
 | cons r1 r2 ih =>
  intro j h
  cases j with
  | zero => exact r1
  | succ j => exact ih (Nat.lt_of_succ_lt_succ h)
theorem flat_at {xs : List V} (h : xs.all flatV = true) (j : Nat) : flatV (xs.getD j .non) = true := by
 by_cases hj : j < xs.length
 ·simp only [List.getD, List.getElem?_eq_getElem hj, Option.getD_some]
  exact List.all_eq_true.mp h _ (List.getElem_mem hj)
 ·rw [List.getD, List.getElem?_eq_none (Nat.le_of_not_lt hj)]
  rfl
theorem flat_ints (ns : List Int) : (ns.map V.int).all flatV = true := by
 rw [List.all_eq_true]
 intro v hv
 obtain ⟨i, _, rfl⟩ := List.mem_map.mp hv
 rfl
end
section
variable {own : List Str} {cap : List (Nat × Str)} {σ : St} {H1 : Hp} {D : Addr} {g : TG} {tc : TT} {te : TE} {QD : Hp → Prop}
end
end L2
set_option Elab.async false
set_option linter.all false
set_option maxRecDepth 100000
namespace Tg
def val : List Int → Int
 | [] => 0
 | d :: ds => d + 65536 * val ds
end Tg
set_option Elab.async false
set_option linter.all false
set_option maxRecDepth 100000
namespace L2
open PySem PySem.Spec PyProof.Rows
section
variable {X : Cx}
theorem all_eq_int : ∀ (ns ms : List Int), ns.length = ms.length → (List.range ns.length).all (fun j => eqV ((ns.map V.int).getD j .non) ((ms.map V.int).getD j .non)) = decide (ns = ms) := by
 intro ns ms hl
 rw [Bool.eq_iff_iff, List.all_eq_true, decide_eq_true_iff]
 constructor
 ·intro h
  apply List.ext_getElem hl
  intro i h1 h2
  have := h i (List.mem_range.mpr h1)
  simpa [List.getD, List.getElem?_eq_getElem h1, List.getElem?_eq_getElem h2, eqV] using this
 ·rintro rfl j hj
  have h1 := List.mem_range.mp hj
  simp [List.getD, List.getElem?_eq_getElem h1, eqV]
theorem op_eqLI (hu : X.A.units < cLine) : OpR X (compareOp .Eq) (fun x y H Q => ∃ (a b : Addr) (ns ms : List Int), x = .ref a ∧ y = .ref b ∧ H a = some (.lst (ns.map V.int)) ∧ H b = some (.lst (ms.map V.int)) ∧ Q (.bl (decide (ns = ms))) H) := by
 intro pins s σ H x y v u Q I rx ry h
 obtain ⟨a, b, ns, ms, rfl, rfl, ha, hb, q⟩ := h
 cases rx
 cases ry
 obtain ⟨its, rv, pl, hz⟩ := I.list (SqL.of (K := X.K) ha)
 obtain ⟨its2, rv2, pl2, hz2⟩ := I.list (SqL.of (K := X.K) hb)
 have l1 := rv.length
 have l2 := rv2.length
 rw [List.length_map] at l1 l2
 by_cases e : ns.length = ms.length
 ·refine SeqAt.eq_listAt (e := fun j => eqV ((ns.map V.int).getD j .non) ((ms.map V.int).getD j .non)) pl.isList pl2.isList (by rw [List.size_toArray, List.size_toArray]; omega) hu (fun j h1 h2 => ?_) ⟨.bl (decide (ns = ms)), H, I, ?_, q⟩
  ·exact eqAt_V (Vals.at rv (by simpa using h1)) (Vals.at rv2 (by simpa using h2)) (flat_at (flat_ints ns) j) (flat_at (flat_ints ms) j)
  ·rw [List.size_toArray, ← l1, all_eq_int ns ms e]
   rfl
 ·refine SeqAt.eq_list_lengthsAt pl.isList pl2.isList (by rw [List.size_toArray, List.size_toArray, ← l1, ← l2]; simpa using e) hu ⟨.bl (decide (ns = ms)), H, I, ?_, q⟩
  rw [decide_eq_false (fun z => e (by rw [z]))]
  rfl
def tDNew : TE := fun _ H Q => ∀ p, H p = none → Q (.ref p) (upd H p (.dK []))
theorem pe_dnew {pos : Pos} : PE X (.Dict [] [] pos) tDNew := by
 refine .mk ?_
 intro pins s σ H Q I h
 refine wpAny_Dict_empty ⟨.ref s.heap.objs.size, _, I.laid (a := s.heap.objs.size) (o := .dK []) (t' := s.toks) (fun _ _ q => Heap.get?_push_of_some _ q) (Nat.le_refl _) ?_, rfl, h _ (I.hok.fresh (Nat.le_refl _))⟩
 have hb : sysModules < s.heap.objs.size := Nat.lt_trans (by decide) (I.mod.glob.keeps I.bk).lt
 exact ⟨Nat.zero_le _, beq_eq_false_iff_ne.mpr fun z => Nat.ne_of_lt hb z.symm, [], .nil, Heap.DictOf.new s.heap⟩
end
end L2
set_option Elab.async false
set_option linter.all false
set_option maxRecDepth 100000
namespace L2
open PySem PySem.Spec PyProof.Rows
section
variable {X : Cx} {pins : List (Addr × Obj)} {σ : St} {H : Hp} {s : Shared} {h' : Heap}
theorem Inv.turnedNew {t' : Nat} {ch : List Addr} {a : Addr} {o : HO} (I : Inv X pins σ H s) (k : ∀ b u, b ∉ ch → s.heap.get? b = some u → h'.get? b = some u) (hf : ∀ b ∈ ch, FpOk X pins H b) (ha : s.heap.objs.size ≤ a)
  (new : ObjOk X.prog X.w (upd H a o) h' a o) : Inv X pins σ (upd H a o) { s with heap := h', toks := t' } := by
 have hn : H a = none := I.hok.fresh ha
 have nch : ∀ b u, H b = some u → b ∉ ch := fun b u e z => by rw [(hf b z).1] at e; cases e
 refine I.step (g' := s.gens) (d' := s.drawn) (ch := ch) (fun b hb => ?_) (fun b o _ _ hc e _ => k b o hc e) (fun b o _ _ hc e _ => ⟨o.slots, k b o hc e⟩) (fun b o _ e n => ?_)
  (fun b o hc e => ⟨o, k b o hc e⟩) (fun b xs e => by rw [upd_ne (ne_of_none e hn)]; exact e) (fun b u v e => by rw [upd_ne (ne_of_none e hn)]; exact e) (fun b ps e => ⟨#[], by rw [upd_ne (ne_of_none e hn), e]; simp⟩) (fun m hm => ?_) (fun b u e => ?_) I.bare
 ·obtain ⟨f0, f1, f2, f3, f4, f5⟩ := hf b hb
  exact ⟨f3, f1, f4, f5⟩
 ·rw [upd_ne (Nat.ne_of_lt (Nat.lt_of_lt_of_le (Heap.lt_size e) ha))]
  exact n
 ·obtain ⟨o, es, ep, ho, r⟩ := hm
  exact ⟨o, es, ep, k _ o (fun z => (hf _ z).2.1 rfl) ho, r⟩
 ·by_cases hb : b = a
  ·subst hb; rw [upd_same] at e; cases e; exact new
  ·rw [upd_ne hb] at e
   refine (I.hok b u e).stay (fun c v hc q => k c v ?_ q) (fun c q => by rw [upd_ne (ne_of_none q hn)]; exact q) fun c xs q => by rw [upd_ne (ne_of_none q hn)]; exact q
   rcases hc with z | z
   ·rw [z]; exact nch b u e
   ·exact nch c _ z
theorem Inv.turnedAll {t' : Nat} {ch : List Addr} (I : Inv X pins σ H s) (k : ∀ b u, b ∉ ch → s.heap.get? b = some u → h'.get? b = some u) (hf : ∀ b ∈ ch, FpOk X pins H b) : Inv X pins σ H { s with heap := h', toks := t' } := by
 have nch : ∀ b u, H b = some u → b ∉ ch := fun b u e z => by rw [(hf b z).1] at e; cases e
 refine I.step (g' := s.gens) (d' := s.drawn) (ch := ch) (fun b hb => ?_) (fun b o _ _ hc e _ => k b o hc e) (fun b o _ _ hc e _ => ⟨o.slots, k b o hc e⟩) (fun b o _ e n => n)
  (fun b o hc e => ⟨o, k b o hc e⟩) (fun b xs e => e) (fun b u v e => e) (fun b ps e => ⟨#[], by rw [e]; simp⟩) (fun m hm => ?_) (fun b u e => ?_) I.bare
 ·obtain ⟨f0, f1, f2, f3, f4, f5⟩ := hf b hb
  exact ⟨f3, f1, f4, f5⟩
 ·obtain ⟨o, es, ep, ho, r⟩ := hm
  exact ⟨o, es, ep, k _ o (fun z => (hf _ z).2.1 rfl) ho, r⟩
 ·refine (I.hok b u e).stay (fun c v hc q => k c v ?_ q) (fun _ q => q) fun _ _ q => q
  rcases hc with z | z
  ·rw [z]; exact nch b u e
  ·exact nch c _ z
end
section
variable {X : Cx} {tg : Expr}
end
section
variable {own : List Str} {cap : List (Nat × Str)} {σ : St} {H1 : Hp} {D : Addr} {g : TG} {tc : TT} {te : TE} {QD : Hp → Prop}
end
end L2
set_option Elab.async false
set_option linter.all false
set_option maxRecDepth 100000
namespace L2
open PySem PySem.Spec PyProof.Rows
section
variable {prog : Program} {w : World} {A : Around} {E : Value → Shared → Prop} {s : Shared}
theorem nextT_item {j u : Addr} {i : Nat} {vs : Array Value} {v : Value} {Q : Value → Shared → Prop} (hj : s.heap.IsTupleIter j u i) (hu : s.heap.IsTuple u vs) (hv : vs[i]? = some v)
  (q : ∀ h', h'.IsTupleIter j u (i + 1) → Heap.SameBut j s.heap h' → Q v { s with heap := h' }) : wpAny (model prog w) A (Builtin.SmallTypes.nextOf (.ref j)) Q E s := by
 obtain ⟨ob, b1, b2, b3⟩ := id hj
 obtain ⟨ou, c1, _, nu, c3⟩ := hu
 unfold Builtin.SmallTypes.nextOf
 refine wpAny_bind (wpAny_callSpecial?_slot (name := Str.ofString "__next__") hj.typeIs F.slot_tuple_iterator_next (wpAny_call_entry F.slot_tuple_iterator_next hj.typeIs F.entry_tuple_iterator_next ?_ (F.args_tuple_iterator_next_1 _)))
 show wpAny _ _ (field (.ref j) 0 >>= _) _ _ s
 refine wpAny_bind (wpAny_field b1 b3 (x := .ref u) rfl ?_)
 show wpAny _ _ (if (Value.ref u == Value.none) = true then _ else _) _ _ s
 rw [if_neg (show ¬ ((Value.ref u == Value.none) = true) from Bool.false_ne_true)]
 show wpAny _ _ (field (.ref j) 1 >>= _) _ _ s
 refine wpAny_bind (wpAny_field b1 b3 (x := .int i 0) rfl ?_)
 show wpAny _ _ (seqItems? (.ref u) >>= _) _ _ s
 refine wpAny_bind (wpAny_seqItems c1 c3 ?_)
 simp only [Int.toNat_natCast, hv]
 refine wpAny_bind (wpAny_setField b1 b3 (by simp) (wpAny_pure ⟨v, rfl, wpAny_pure (q _ ?_ (Heap.SameBut.update ..))⟩))
 exact ⟨_, Heap.get?_update_self _ b1 (Obj.isFreed_of_fields (Obj.data_mapFields b3 _)), (Obj.cls_mapFields ..).trans b2, by rw [Obj.data_mapFields b3]; simp [rawInt]⟩
theorem nextT_end {j u : Addr} {i : Nat} {vs : Array Value} {Q : Value → Shared → Prop} (hh : A.handled = none) (hj : s.heap.IsTupleIter j u i) (hu : s.heap.IsTuple u vs) (hv : vs[i]? = none)
  (q : ∀ h' e, Heap.ExtBut j s.heap h' → (∃ o, h'.get? e = some o ∧ o.cls = .type "StopIteration") → E (.ref e) { s with heap := h' }) : wpAny (model prog w) A (Builtin.SmallTypes.nextOf (.ref j)) Q E s := by
 obtain ⟨ob, b1, b2, b3⟩ := id hj
 obtain ⟨ou, c1, _, nu, c3⟩ := hu
 unfold Builtin.SmallTypes.nextOf
 refine wpAny_bind (wpAny_callSpecial?_slot (name := Str.ofString "__next__") hj.typeIs F.slot_tuple_iterator_next (wpAny_call_entry F.slot_tuple_iterator_next hj.typeIs F.entry_tuple_iterator_next ?_ (F.args_tuple_iterator_next_1 _)))
 show wpAny _ _ (field (.ref j) 0 >>= _) _ _ s
 refine wpAny_bind (wpAny_field b1 b3 (x := .ref u) rfl ?_)
 show wpAny _ _ (if (Value.ref u == Value.none) = true then _ else _) _ _ s
 rw [if_neg (show ¬ ((Value.ref u == Value.none) = true) from Bool.false_ne_true)]
 show wpAny _ _ (field (.ref j) 1 >>= _) _ _ s
 refine wpAny_bind (wpAny_field b1 b3 (x := .int i 0) rfl ?_)
 show wpAny _ _ (seqItems? (.ref u) >>= _) _ _ s
 refine wpAny_bind (wpAny_seqItems c1 c3 ?_)
 simp only [Int.toNat_natCast, hv]
 refine wpAny_bind (wpAny_rule (wpAny_bind (wpAny_setField b1 b3 (by simp) ?_)))
 show wpAny _ _ (newExc (.type "StopIteration") [] >>= _) _ _ _
 refine wpAny_bind ?_
 simp only [newExc, newTuple]
 refine wpAny_bind (wpAny_newObj_type ?_ (by show 0 ≤ sizeLine; exact Nat.zero_le _))
 refine wpAny_bind (m := firstArgMember _ _) (wpAny_of_eq (a := Value.none) (by first | rfl | (simp only [firstArgMember] <;> rfl)) ?_)
 refine wpAny_newObj_type ?_ (by size_fits)
 simp only [raiseNew]
 refine wpAny_bind (wpAny_handled ?_)
 first | rw [show A.in1.handled = none from hh] | rw [hh]
 refine wpAny_bind (wpAny_pure (wpAny_throw ?_))
 exact q _ _ (((Heap.SameBut.update ..).extBut.push _).push _) ⟨_, Heap.get?_push_size _ rfl, rfl⟩
structure Apart (z p r j1 j2 u1 u2 : Addr) : Prop where
 pz : p ≠ z
 rz : r ≠ z
 j1z : j1 ≠ z
 j2z : j2 ≠ z
 pr : p ≠ r
 pj1 : p ≠ j1
 pj2 : p ≠ j2
 rj1 : r ≠ j1
 rj2 : r ≠ j2
 j12 : j1 ≠ j2
 u1z : u1 ≠ z
 u1r : u1 ≠ r
 u1j1 : u1 ≠ j1
 u1j2 : u1 ≠ j2
 u2z : u2 ≠ z
 u2r : u2 ≠ r
 u2j1 : u2 ≠ j1
 u2j2 : u2 ≠ j2
theorem itAt {h h' : Heap} {a t : Addr} {i : Nat} (x : h.IsTupleIter a t i) (e : ∀ o, h.get? a = some o → h'.get? a = some o) : h'.IsTupleIter a t i := let ⟨o, ho, r⟩ := x; ⟨o, e o ho, r⟩
theorem zipT_item {z p r j1 j2 u1 u2 : Addr} {i : Nat} {vs ws : Array Value} {x y a b : Value} {Q : Value → Shared → Prop} (D : Apart z p r j1 j2 u1 u2)
  (hz : IsZip s.heap z p r .none) (hp : IsPair s.heap p (.ref j1) (.ref j2)) (hr : IsPair s.heap r a b)
  (h1 : s.heap.IsTupleIter j1 u1 i) (h2 : s.heap.IsTupleIter j2 u2 i) (l1 : s.heap.IsTuple u1 vs) (l2 : s.heap.IsTuple u2 ws) (hx : vs[i]? = some x) (hy : ws[i]? = some y)
  (q : ∀ h', IsZip h' z p r (rawInt s.heap.objs.size) → IsPair h' r x y → h'.IsTupleIter j1 u1 (i + 1) → h'.IsTupleIter j2 u2 (i + 1) → IsPair h' s.heap.objs.size x y → h'.objs.size = s.heap.objs.size + 1 →
   (∀ c o, c ≠ z → c ≠ r → c ≠ j1 → c ≠ j2 → s.heap.get? c = some o → h'.get? c = some o) → Q (.ref s.heap.objs.size) { s with heap := h' }) :
  wpAny (model prog w) A (Builtin.«zip.__next__» ⟨[.ref z], []⟩) (fun fin s' => ∃ v, fin = .done (.ret v) ∧ Q v s') E s := by
 show wpAny _ _ (field (.ref z) 2 >>= _) _ _ _
 refine wpAny_bind (wpAny_field hz rfl (x := .bool false) rfl ?_)
 show wpAny _ _ (field (.ref z) 3 >>= _) _ _ _
 refine wpAny_bind (wpAny_field hz rfl (x := .ref p) rfl ?_)
 refine wpAny_bind (wpAny_seqItems hp rfl ?_)
 show wpAny _ _ (Builtin.SmallTypes.ownedTupleIsFree (.ref z) >>= _) _ _ _
 refine wpAny_bind ?_
 unfold Builtin.SmallTypes.ownedTupleIsFree
 refine wpAny_bind (wpAny_field hz rfl (x := .none) rfl (wpAny_pure ?_))
 simp only [if_true]
 refine wpAny_bind (wpAny_rule ?_)
 refine wpAny_bind (wpAny_field hz rfl (x := .ref r) rfl ?_)
 refine wpAny_bind (wpAny_setField_rec hz (by simp) fun g1 z1 e1 => ?_)
 replace z1 : IsZip g1 z p r .ellipsis := z1
 refine wpAny_bind ?_
 simp only [List.zipIdx_cons, List.zipIdx_nil, List.forIn_cons, List.forIn_nil]
 refine wpAny_bind (wpAny_bind (wpAny_onRaise ?_))
 show wpAny _ _ (Builtin.SmallTypes.nextOf (.ref j1) >>= _) _ _ _
 refine wpAny_bind (nextT_item (h1.extBut e1.extBut D.j1z) (l1.extBut e1.extBut D.u1z) hx fun g2 a2 e2 => wpAny_pure ?_)
 have r2 : IsPair g2 r a b := e2.extBut _ _ D.rj1 (e1.extBut _ _ D.rz hr)
 refine wpAny_bind (wpAny_seqItems r2 rfl ?_)
 refine wpAny_bind (wpAny_updateSeq_pair r2 fun g3 r3 e3 => ?_)
 replace r3 : IsPair g3 r x b := r3
 refine wpAny_bind (wpAny_letGo (wpAny_pure ?_))
 refine wpAny_bind (wpAny_bind (wpAny_onRaise ?_))
 show wpAny _ _ (Builtin.SmallTypes.nextOf (.ref j2) >>= _) _ _ _
 refine wpAny_bind (nextT_item (((h2.extBut e1.extBut D.j2z).extBut e2.extBut D.j12.symm).extBut e3.extBut D.rj2.symm) (((l2.extBut e1.extBut D.u2z).extBut e2.extBut D.u2j1).extBut e3.extBut D.u2r) hy fun g4 a4 e4 => wpAny_pure ?_)
 have r4 : IsPair g4 r x b := e4.extBut _ _ D.rj2 r3
 refine wpAny_bind (wpAny_seqItems r4 rfl ?_)
 refine wpAny_bind (wpAny_updateSeq_pair r4 fun g5 r5 e5 => ?_)
 replace r5 : IsPair g5 r x y := r5
 refine wpAny_bind (wpAny_letGo (wpAny_pure (wpAny_pure ?_)))
 refine wpAny_bind (wpAny_seqItems r5 rfl ?_)
 refine wpAny_bind (wpAny_newTuple ?_)
 have sz : g5.objs.size = s.heap.objs.size := by rw [e5.1, e4.1, e3.1, e2.1, e1.1]
 have z5 : IsZip g5 z p r .ellipsis := e5.extBut _ _ D.rz.symm (e4.extBut _ _ D.j2z.symm (e3.extBut _ _ D.rz.symm (e2.extBut _ _ D.j1z.symm z1)))
 have k5 : ∀ c o, c ≠ z → c ≠ r → c ≠ j1 → c ≠ j2 → s.heap.get? c = some o → g5.get? c = some o := fun c o n1 n2 n3 n4 e =>
  e5.extBut _ _ n2 (e4.extBut _ _ n4 (e3.extBut _ _ n2 (e2.extBut _ _ n3 (e1.extBut _ _ n1 e))))
 have b1 : g5.IsTupleIter j1 u1 (i + 1) := ((a2.extBut e3.extBut D.rj1.symm).extBut e4.extBut D.j12).extBut e5.extBut D.rj1.symm
 have b2 : g5.IsTupleIter j2 u2 (i + 1) := a4.extBut e5.extBut D.rj2.symm
 have zl : z < g5.objs.size := Heap.lt_size z5
 show wpAny _ _ (Builtin.SmallTypes.ownedTupleHandOut (.ref z) (.ref g5.objs.size) >>= _) _ _ _
 refine wpAny_bind ?_
 unfold Builtin.SmallTypes.ownedTupleHandOut
 have z6 : IsZip (g5.push { cls := .type "tuple", data := .seq #[x, y] }) z p r .ellipsis := Heap.get?_push_of_some _ z5
 refine wpAny_bind (wpAny_setField_rec z6 (by simp) fun g7 z7 e7 => ?_)
 replace z7 : IsZip g7 z p r (rawInt g5.objs.size) := z7
 refine wpAny_setField_rec z7 (by simp) fun g8 z8 e8 => ?_
 replace z8 : IsZip g8 z p r (rawInt g5.objs.size) := z8
 have up : ∀ c o, c ≠ z → g5.get? c = some o → g8.get? c = some o := fun c o n1 e => e8.extBut _ _ n1 (e7.extBut _ _ n1 (Heap.get?_push_of_some _ e))
 have t8 : IsPair g8 g5.objs.size x y := e8.extBut _ _ (Nat.ne_of_gt zl) (e7.extBut _ _ (Nat.ne_of_gt zl) (Heap.get?_push_size _ rfl))
 have s8 : g8.objs.size = g5.objs.size + 1 := by rw [e8.1, e7.1, Heap.size_push]
 rw [sz] at z8 t8 s8
 refine wpAny_pure ⟨_, rfl, ?_⟩
 show Q (.ref g5.objs.size) _
 rw [sz]
 exact q g8 z8 (up _ _ D.rz r5) (itAt b1 fun o e => up _ o D.j1z e) (itAt b2 fun o e => up _ o D.j2z e) t8 s8 fun c o n1 n2 n3 n4 e => up c o n1 (k5 c o n1 n2 n3 n4 e)
theorem zipT_end {z p r j1 j2 u1 u2 : Addr} {i : Nat} {vs ws : Array Value} {a b : Value} {Q : Fin → Shared → Prop} (hh : A.handled = none) (D : Apart z p r j1 j2 u1 u2)
  (hz : IsZip s.heap z p r .none) (hp : IsPair s.heap p (.ref j1) (.ref j2)) (hr : IsPair s.heap r a b)
  (h1 : s.heap.IsTupleIter j1 u1 i) (h2 : s.heap.IsTupleIter j2 u2 i) (l1 : s.heap.IsTuple u1 vs) (l2 : s.heap.IsTuple u2 ws) (hend : vs[i]? = none ∨ ws[i]? = none)
  (q : ∀ h' e, (∀ c o, c ≠ z → c ≠ r → c ≠ j1 → c ≠ j2 → s.heap.get? c = some o → h'.get? c = some o) → (∃ o, h'.get? e = some o ∧ o.cls = .type "StopIteration") → E (.ref e) { s with heap := h' }) :
  wpAny (model prog w) A (Builtin.«zip.__next__» ⟨[.ref z], []⟩) Q E s := by
 show wpAny _ _ (field (.ref z) 2 >>= _) _ _ _
 refine wpAny_bind (wpAny_field hz rfl (x := .bool false) rfl ?_)
 show wpAny _ _ (field (.ref z) 3 >>= _) _ _ _
 refine wpAny_bind (wpAny_field hz rfl (x := .ref p) rfl ?_)
 refine wpAny_bind (wpAny_seqItems hp rfl ?_)
 show wpAny _ _ (Builtin.SmallTypes.ownedTupleIsFree (.ref z) >>= _) _ _ _
 refine wpAny_bind ?_
 unfold Builtin.SmallTypes.ownedTupleIsFree
 refine wpAny_bind (wpAny_field hz rfl (x := .none) rfl (wpAny_pure ?_))
 simp only [if_true]
 refine wpAny_bind (wpAny_rule ?_)
 refine wpAny_bind (wpAny_field hz rfl (x := .ref r) rfl ?_)
 refine wpAny_bind (wpAny_setField_rec hz (by simp) fun g1 z1 e1 => ?_)
 replace z1 : IsZip g1 z p r .ellipsis := z1
 refine wpAny_bind ?_
 simp only [List.zipIdx_cons, List.zipIdx_nil, List.forIn_cons, List.forIn_nil]
 refine wpAny_bind (wpAny_bind (wpAny_onRaise ?_))
 show wpAny _ _ (Builtin.SmallTypes.nextOf (.ref j1) >>= _) _ _ _
 cases hx : vs[i]? with
 | none =>
  refine wpAny_bind (nextT_end hh (h1.extBut e1.extBut D.j1z) (l1.extBut e1.extBut D.u1z) hx fun g2 e e2 he => ?_)
  obtain ⟨oe, he1, he2⟩ := he
  have z2 : IsZip g2 z p r .ellipsis := e2 _ _ D.j1z.symm z1
  have nez : e ≠ z := fun x => by subst x; rw [z2] at he1; cases he1; simp at he2
  refine wpAny_setField_rec z2 (by simp) fun g3 _ e3 => q g3 e (fun c o n1 _ n3 _ x => e3.extBut _ _ n1 (e2 _ _ n3 (e1.extBut _ _ n1 x))) ⟨oe, e3.extBut _ _ nez he1, he2⟩
 | some x =>
  have hy : ws[i]? = none := by rcases hend with h | h; rw [hx] at h; cases h; exact h
  refine wpAny_bind (nextT_item (h1.extBut e1.extBut D.j1z) (l1.extBut e1.extBut D.u1z) hx fun g2 a2 e2 => wpAny_pure ?_)
  have r2 : IsPair g2 r a b := e2.extBut _ _ D.rj1 (e1.extBut _ _ D.rz hr)
  refine wpAny_bind (wpAny_seqItems r2 rfl ?_)
  refine wpAny_bind (wpAny_updateSeq_pair r2 fun g3 r3 e3 => ?_)
  refine wpAny_bind (wpAny_letGo (wpAny_pure ?_))
  refine wpAny_bind (wpAny_bind (wpAny_onRaise ?_))
  show wpAny _ _ (Builtin.SmallTypes.nextOf (.ref j2) >>= _) _ _ _
  refine wpAny_bind (nextT_end hh (((h2.extBut e1.extBut D.j2z).extBut e2.extBut D.j12.symm).extBut e3.extBut D.rj2.symm) (((l2.extBut e1.extBut D.u2z).extBut e2.extBut D.u2j1).extBut e3.extBut D.u2r) hy fun g4 e e4 he => ?_)
  obtain ⟨oe, he1, he2⟩ := he
  have z4 : IsZip g4 z p r .ellipsis := e4 _ _ D.j2z.symm (e3.extBut _ _ D.rz.symm (e2.extBut _ _ D.j1z.symm z1))
  have nez : e ≠ z := fun x => by subst x; rw [z4] at he1; cases he1; simp at he2
  refine wpAny_setField_rec z4 (by simp) fun g5 _ e5 => q g5 e (fun c o n1 n2 n3 n4 x => e5.extBut _ _ n1 (e4 _ _ n4 (e3.extBut _ _ n2 (e2.extBut _ _ n3 (e1.extBut _ _ n1 x))))) ⟨oe, e5.extBut _ _ nez he1, he2⟩
end
def Itz (K : PySem.W.Frag) (a b : Addr) : It :=
  ⟨fun i H => ∃ xs ys x y, SqT K H a xs ∧ SqT K H b ys ∧ xs[i]? = some x ∧ ys[i]? = some y,
   fun i H v H' => ∃ p x y, H p = none ∧ v = .ref p ∧ H' = upd H p (.tup [x, y]) ∧ (∀ xs, SqT K H a xs → xs[i]? = some x) ∧ (∀ ys, SqT K H b ys → ys[i]? = some y),
   fun i H => ∃ xs ys, SqT K H a xs ∧ SqT K H b ys ∧ (xs.length ≤ i ∨ ys.length ≤ i)⟩
theorem turn_zip {P : Program} {w : World} {K : PySem.W.Frag} {elts : List Expr} {kk : Nat} {pos : Pos} (a b z p r j1 j2 : Addr) (D : Apart z p r j1 j2 a b) :
  Turn P w K (.Tuple elts kk pos) (Itz K a b) [z, p, r, j1, j2] z (fun i h => IsZip h z p r .none ∧ IsPair h p (.ref j1) (.ref j2) ∧ (∃ u v, IsPair h r u v) ∧ h.IsTupleIter j1 a i ∧ h.IsTupleIter j2 b i) where
 mem := by simp
 obj := fun i h st c hc => by
  obtain ⟨hz, hp, ⟨u, v, hr⟩, ⟨o1, e1, _, d1⟩, ⟨o2, e2, _, d2⟩⟩ := st
  simp only [List.mem_cons, List.not_mem_nil, or_false] at hc
  rcases hc with rfl | rfl | rfl | rfl | rfl
  ·exact ⟨_, hz, fun v z => by have z' : Data.fields _ = Data.cell v := z; cases z'⟩
  ·exact ⟨_, hp, fun v z => by have z' : Data.seq _ _ = Data.cell v := z; cases z'⟩
  ·exact ⟨_, hr, fun v z => by have z' : Data.seq _ _ = Data.cell v := z; cases z'⟩
  ·exact ⟨o1, e1, fun v z => by rw [d1] at z; cases z⟩
  ·exact ⟨o2, e2, fun v z => by rw [d2] at z; cases z⟩
 keep := fun i h h' st k => by
  obtain ⟨hz, hp, ⟨u, v, hr⟩, h1, h2⟩ := st
  exact ⟨k z (by simp) _ hz, k p (by simp) _ hp, ⟨u, v, k r (by simp) _ hr⟩, itAt h1 fun o e => k j1 (by simp) o e, itAt h2 fun o e => k j2 (by simp) o e⟩
 item := by
  intro X hP hw hK hc i pins s σ H E I hf st hg
  subst hP hw hK
  obtain ⟨hz, hp, ⟨u, v, hr⟩, h1, h2⟩ := st
  obtain ⟨xs, ys, x, y, hxs, hys, hx, hy⟩ := hg
  obtain ⟨its, rv, pl, _⟩ := I.tuple hxs
  obtain ⟨its2, rv2, pl2, _⟩ := I.tuple hys
  obtain ⟨vx, ex, rx⟩ := rv.get hx
  obtain ⟨vy, ey, ry⟩ := rv2.get hy
  have hT : s.TypeIs (.ref z) "zip" := ⟨_, hz, rfl⟩
  have n0 : H s.heap.objs.size = none := I.hok.fresh (Nat.le_refl _)
  unfold pyNext
  refine wpAny_bind (wpAny_attempt (wpAny_callSpecial?_slot (name := Str.ofString "__next__") hT F.slot_zip_next (wpAny_call_entry F.slot_zip_next hT F.entry_zip_next
   (zipT_item D hz hp hr h1 h2 pl pl2 (by simpa using ex) (by simpa using ey) fun g a1 a2 a3 a4 a5 a6 a7 => wpAny_pure ?_) (F.args_zip_next_1 _))))
  refine ⟨_, rfl, ?_⟩
  refine wpAny_letOwnedTupleGo_zip a1 fun g2 b1 b2 => ?_
  have zl : z < s.heap.objs.size := Heap.lt_size hz
  have lt : ∀ c ∈ [z, p, r, j1, j2], c < s.heap.objs.size := fun c hc => by
   simp only [List.mem_cons, List.not_mem_nil, or_false] at hc
   obtain ⟨_, q1, _⟩ := h1
   obtain ⟨_, q2, _⟩ := h2
   rcases hc with rfl | rfl | rfl | rfl | rfl
   ·exact zl
   ·exact Heap.lt_size hp
   ·exact Heap.lt_size hr
   ·exact Heap.lt_size q1
   ·exact Heap.lt_size q2
  refine ⟨.ref s.heap.objs.size, upd H s.heap.objs.size (.tup [x, y]), ?_, rfl, ⟨_, x, y, n0, rfl, rfl, fun zs hzs => by rw [I.tuple_inj hzs hxs]; exact hx, fun zs hzs => by rw [I.tuple_inj hzs hys]; exact hy⟩, ⟨b1, ?_, ⟨vx, vy, ?_⟩, ?_, ?_⟩, fun c hc => ?_⟩
  ·refine I.turnedNew (t' := s.toks) (ch := [z, r, j1, j2]) (fun c o hc e => ?_) (fun c hc => hf c ?_) (Nat.le_refl _) ⟨by show 2 ≤ sizeLine; decide, [vx, vy], .cons rx (.cons ry .nil), ?_⟩
   ·simp only [List.mem_cons, List.not_mem_nil, or_false, not_or] at hc
    exact b2.extBut _ _ hc.1 (a7 c o hc.1 hc.2.1 hc.2.2.1 hc.2.2.2 e)
   ·simp only [List.mem_cons, List.not_mem_nil, or_false] at hc ⊢
    rcases hc with rfl | rfl | rfl | rfl <;> simp
   ·exact ⟨_, b2.extBut _ _ (Nat.ne_of_gt zl) a5, rfl, 0, rfl⟩
  ·exact b2.extBut _ _ D.pz (a7 _ _ D.pz D.pr D.pj1 D.pj2 hp)
  ·exact b2.extBut _ _ D.rz a2
  ·exact a3.extBut b2.extBut D.j1z
  ·exact a4.extBut b2.extBut D.j2z
  ·rw [upd_ne (Nat.ne_of_lt (lt c hc))]
   exact (hf c hc).1
 done := by
  intro X hP hw hK hc i pins s σ H E I hf st hg
  subst hP hw hK
  obtain ⟨hz, hp, ⟨u, v, hr⟩, h1, h2⟩ := st
  obtain ⟨xs, ys, hxs, hys, he⟩ := hg
  obtain ⟨its, rv, pl, _⟩ := I.tuple hxs
  obtain ⟨its2, rv2, pl2, _⟩ := I.tuple hys
  have l1 := rv.length
  have l2 := rv2.length
  have hend : its.toArray[i]? = none ∨ its2.toArray[i]? = none := he.imp (fun e => by simp; omega) (fun e => by simp; omega)
  have hT : s.TypeIs (.ref z) "zip" := ⟨_, hz, rfl⟩
  unfold pyNext
  refine wpAny_bind (wpAny_attempt (wpAny_callSpecial?_slot (name := Str.ofString "__next__") hT F.slot_zip_next (wpAny_call_entry F.slot_zip_next hT F.entry_zip_next
   (zipT_end (I.ok.hd hc) D hz hp hr h1 h2 pl pl2 hend fun g e kk he => ?_) (F.args_zip_next_1 _))))
  obtain ⟨o, ho, hcl⟩ := he
  refine wpAny_bind (wpAny_isInstance (T := "StopIteration") (b := true) ⟨o, ho, hcl⟩ isSubtype_stop ?_)
  refine wpAny_pure ⟨rfl, I.turnedAll (t' := s.toks) (ch := [z, r, j1, j2]) (fun c o hc e => ?_) (fun c hc => hf c ?_)⟩
  ·simp only [List.mem_cons, List.not_mem_nil, or_false, not_or] at hc
   exact kk c o hc.1 hc.2.1 hc.2.2.1 hc.2.2.2 e
  ·simp only [List.mem_cons, List.not_mem_nil, or_false] at hc ⊢
   rcases hc with rfl | rfl | rfl | rfl <;> simp
 self := fun _ _ _ _ _ st h => wpAny_pyIter_zip st.1 h
abbrev zH1 (h : Heap) (a : Addr) : Heap := h.push { cls := .type "tuple_iterator", data := .fields #[.ref a, .int 0 0] }
abbrev zH2 (h : Heap) (a b : Addr) : Heap := (zH1 h a).push { cls := .type "tuple_iterator", data := .fields #[.ref b, .int 0 0] }
abbrev zH3 (h : Heap) (a b : Addr) : Heap := (zH2 h a b).push { cls := .type "tuple", data := .seq #[.ref h.objs.size, .ref (zH1 h a).objs.size] }
abbrev zH4 (h : Heap) (a b : Addr) : Heap := (zH3 h a b).push { cls := .type "tuple", data := .seq #[.none, .none] }
abbrev zH5 (h : Heap) (a b : Addr) : Heap := (zH4 h a b).push { cls := .type "zip", data := .fields #[.none, .bool false, .bool false, .ref (zH2 h a b).objs.size, .ref (zH3 h a b).objs.size] }
theorem zipT_new (a b : Addr) (vs ws : Array Value) :
  Meets (Builtin.«zip.__new__» ⟨[.type "zip", .ref a, .ref b], []⟩) (fun _ R s => s.heap.IsTuple a vs ∧ s.heap.IsTuple b ws ∧ R (.ok (.ret (.ref (zH4 s.heap a b).objs.size))) { s with heap := zH5 s.heap a b }) :=
 .of_wp fun prog w A R s h => by
  obtain ⟨hp, g, d, tk, os⟩ := s; obtain ⟨la, lb, h⟩ := h
  have hsub := sub_zip
  have L1 : Heap.IsTuple (Shared.heap ⟨hp, g, d, tk, os⟩) a vs := la
  have L2 : Heap.IsTuple (Shared.heap ⟨hp.push { cls := .type "tuple_iterator", data := .fields #[.ref a, .int 0 0] }, g, d, tk, os⟩) b ws := Heap.IsTuple.push lb _
  wp_walk using wpAny_pyIter_tuple L1, wpAny_pyIter_tuple L2
  exact ⟨_, rfl, h⟩
theorem call_zipT {prog : Program} {w : World} {A : Around} {E : Value → Shared → Prop} {s : Shared} {a b : Addr} {vs ws : Array Value} {Q : Value → Shared → Prop} (la : s.heap.IsTuple a vs) (lb : s.heap.IsTuple b ws)
  (q : ∀ h', IsZip h' (s.heap.objs.size + 4) (s.heap.objs.size + 2) (s.heap.objs.size + 3) .none → IsPair h' (s.heap.objs.size + 2) (.ref s.heap.objs.size) (.ref (s.heap.objs.size + 1)) →
   IsPair h' (s.heap.objs.size + 3) .none .none → h'.IsTupleIter s.heap.objs.size a 0 → h'.IsTupleIter (s.heap.objs.size + 1) b 0 → (∀ c o, s.heap.get? c = some o → h'.get? c = some o) → Q (.ref (s.heap.objs.size + 4)) { s with heap := h' }) :
  wpAny (model prog w) A (call (.type "zip") [.ref a, .ref b]) Q E s := by
 refine callType_new F.called_zip (by decide) (F.typeCall_zip_2 _ _) (F.newCall_zip_2 _ _) (fun obj => F.args_object_init_3 obj _ _) F.entry_zip_new (zipT_new a b vs ws) ⟨la, lb, ?_⟩
 have z1 : (zH1 s.heap a).objs.size = s.heap.objs.size + 1 := Heap.size_push ..
 have z2 : (zH2 s.heap a b).objs.size = s.heap.objs.size + 2 := by rw [Heap.size_push, z1]
 have z3 : (zH3 s.heap a b).objs.size = s.heap.objs.size + 3 := by rw [Heap.size_push, z2]
 have z4 : (zH4 s.heap a b).objs.size = s.heap.objs.size + 4 := by rw [Heap.size_push, z3]
 have g5 : (zH5 s.heap a b).get? (zH4 s.heap a b).objs.size = some _ := Heap.get?_push_size _ rfl
 have g4 : (zH5 s.heap a b).get? (zH3 s.heap a b).objs.size = some _ := Heap.get?_push_of_some _ (Heap.get?_push_size _ rfl)
 have g3 : (zH5 s.heap a b).get? (zH2 s.heap a b).objs.size = some _ := Heap.get?_push_of_some _ (Heap.get?_push_of_some _ (Heap.get?_push_size _ rfl))
 have g2 : (zH5 s.heap a b).get? (zH1 s.heap a).objs.size = some _ := Heap.get?_push_of_some _ (Heap.get?_push_of_some _ (Heap.get?_push_of_some _ (Heap.get?_push_size _ rfl)))
 have g1 : (zH5 s.heap a b).get? s.heap.objs.size = some _ := Heap.get?_push_of_some _ (Heap.get?_push_of_some _ (Heap.get?_push_of_some _ (Heap.get?_push_of_some _ (Heap.get?_push_size _ rfl))))
 show _ ∧ _
 rw [z2, z3, z4] at g5
 rw [z1, z2] at g3
 rw [z3] at g4
 rw [z1] at g2
 rw [z4]
 exact ⟨⟨_, g5, rfl⟩, q _ g5 g3 g4 ⟨_, g1, rfl, rfl⟩ ⟨_, g2, rfl, rfl⟩ fun c o x => Heap.get?_push_of_some _ (Heap.get?_push_of_some _ (Heap.get?_push_of_some _ (Heap.get?_push_of_some _ (Heap.get?_push_of_some _ x))))⟩
theorem apart_new {n a b : Addr} (ha : a < n) (hb : b < n) : Apart (n + 4) (n + 2) (n + 3) n (n + 1) a b := by
 have ne : ∀ i j : Nat, i ≠ j → (Nat.add n i : Addr) ≠ Nat.add n j := fun i j h e => h (Nat.add_left_cancel e)
 have lo : ∀ (c : Addr) (i : Nat), c < n → c ≠ Nat.add n i := fun c i h => Nat.ne_of_lt (Nat.lt_of_lt_of_le h (Nat.le_add_right n i))
 exact ⟨ne 2 4 (by decide), ne 3 4 (by decide), ne 0 4 (by decide), ne 1 4 (by decide), ne 2 3 (by decide), ne 2 0 (by decide), ne 2 1 (by decide), ne 3 0 (by decide), ne 3 1 (by decide), ne 0 1 (by decide),
  lo a 4 ha, lo a 3 ha, lo a 0 ha, lo a 1 ha, lo b 4 hb, lo b 3 hb, lo b 0 hb, lo b 1 hb⟩
section
variable {X : Cx} {elts : List Expr} {kk : Nat} {tpos : Pos}
def iZip (K : PySem.W.Frag) (ta : TA) : TI := fun σ H R => ta σ H fun vs H1 => ∃ a b xs ys, vs = [.ref a, .ref b] ∧ SqT K H1 a xs ∧ SqT K H1 b ys ∧ R (Itz K a b) H1
theorem pi_zip {a b : Expr} {ta : TA} {p pos : Pos} (hg : Gl X "zip") (hm : X.mg "zip" = none) (ha : PA X [a, b] ta) (hs : starEach [a, b] X.env = [(false, eval a X.env), (false, eval b X.env)] := by rfl) (hs2 : starEach [b] X.env = [(false, eval b X.env)] := by rfl) :
  PI X (.Tuple elts kk tpos) (.Call (.Name "zip" p) [a, b] [] pos) (iZip X.K ta) := by
 refine .mk ?_
 intro pins s σ H R I h
 refine Call_ (ld_blt I hg hm boot_zip (PyProof.Rows.callWith_type1 (thn (ha pos pins s σ H _ I h) fun us s1 ⟨vs, H1, I1, r1, q1⟩ => ?_) (by rw [hs, hs2]) (by rw [hs2]; rfl)))
 obtain ⟨u1, u2, xs, ys, e, hx, hy, q⟩ := q1
 subst e
 cases r1 with
 | cons r rr =>
  cases rr with
  | cons r' rr =>
   cases rr
   cases r
   cases r'
   obtain ⟨its, rv, pl, _⟩ := I1.tuple hx
   obtain ⟨its2, rv2, pl2, _⟩ := I1.tuple hy
   obtain ⟨o1, e1, _⟩ := id pl
   obtain ⟨o2, e2, _⟩ := id pl2
   refine call_zipT pl pl2 fun h' hz hp hr j1 j2 k => ?_
   refine wpAny_pyIter_zip hz ?_
   refine ⟨s1.heap.objs.size + 4, [s1.heap.objs.size + 4, s1.heap.objs.size + 2, s1.heap.objs.size + 3, s1.heap.objs.size, s1.heap.objs.size + 1], _, _, H1, rfl, I1.kept (t' := s1.toks) k, turn_zip u1 u2 _ _ _ _ _ (apart_new (Heap.lt_size e1) (Heap.lt_size e2)), ⟨hz, hp, ⟨_, _, hr⟩, j1, j2⟩, fun c hc => ?_, q⟩
   have hc' : s1.heap.objs.size ≤ c := by
    simp only [List.mem_cons, List.not_mem_nil, or_false] at hc
    rcases hc with rfl | rfl | rfl | rfl | rfl <;> first | exact Nat.le_refl _ | exact Nat.le_add_right _ _
   exact I1.fpOk hc' (I1.hok.fresh hc')
end
section
variable {own : List Str} {cap : List (Nat × Str)} {σ : St} {H1 : Hp} {D : Addr} {g : TG} {tc : TT} {te : TE} {QD : Hp → Prop} {K : PySem.W.Frag} {a b : Addr} {xs ys : List V}
end
end L2
set_option Elab.async false
set_option linter.all false
set_option maxRecDepth 100000
namespace L2
open PySem PySem.Spec PyProof.Rows PySem.W PySem.Calls PySem.Builtin PySem.Builtin.ObjectAttr PySem.Builtin.Getset_descriptor
structure ExC (K : Frag) (D : Addr) : Prop where
 ga : findIn K (.ref D) "__getattribute__" = some (some (.builtin "BaseException.__getattribute__"))
 hk : findIn K (.ref D) "__getattr__" = some none
 cl : findIn K (.ref D) "__class__" = some (some (.builtin "object.__class__"))
 gt : specialIn K (.builtin "object.__class__") "__get__" = some (some (.builtin "getset_descriptor.__get__"))
 tk : takesIn K (.builtin "object.__class__") = some true
 ob : mroIn K D (.type "object") = some true
 bx : mroIn K D (.type "BaseException") = some true
 cd : (clsIn K D).isSome = true
def ExAt (x D : Addr) : Heap → Prop := fun h => ∃ o, h.get? x = some o ∧ o.cls = .ref D
section
variable {K : Frag} {x D : Addr}
theorem ExAt.type {M : Model} {h : Heap} (I : ExAt x D h) : Looks M h (typeOf (.ref x)) (.ref D) := by
 obtain ⟨o, e, c⟩ := I
 exact c ▸ (Looks.ld e).andThen .now
theorem exc_find {M : Model} {h : Heap} (X : K.In h) (F : ExC K D) : Looks M h (find (.ref x) (.ref D) "__class__") (.bind (.builtin "getset_descriptor.__get__") (.builtin "object.__class__")) := by
 have n1 := looks_findIn (M := M) X F.cl
 have n2 : Looks M h (getOf (some (.builtin "object.__class__"))) (some (.builtin "getset_descriptor.__get__")) := looks_specialIn X F.gt
 have n3 := looks_takesIn (M := M) X F.tk
 have n4 : Looks M h (dataDescriptor? (some (.builtin "object.__class__")) (some (.builtin "getset_descriptor.__get__"))) (some (.builtin "getset_descriptor.__get__", .builtin "object.__class__")) := n3.andThen .now
 exact n1.andThen (n2.andThen (n4.andThen (Looks.tag .now)))
variable {prog : Program} {w : World} {A : Around} {E : Value → Shared → Prop} {s : Shared}
theorem exc_class_get {tp : Value} {R : Result → Shared → Prop} (X : K.In s.heap) (F : ExC K D) (I : ExAt x D s.heap) (h : R (.ok (.ret (.ref D))) s) :
  codeAny (model prog w) A (.call (.builtin "getset_descriptor.__get__") ⟨[.builtin "object.__class__", .ref x, tp], []⟩) R s := by
 obtain ⟨hh, gg, dr, tt, os⟩ := s
 have n0 := I.type (M := model prog w)
 have n1 := looks_mroIn (M := model prog w) X F.ob
 refine codeAny_call_builtin KF.slot_gs.plain KF.entry_gs (KF.slot_gs.check _ _ _ _ _ _ _ _ KF.type_class (KF.args_gs _ _ _) ?_)
 unfold Builtin.«getset_descriptor.__get__» descrGet
 rw [dga_obj]
 refine wpAny_bind (wpAny_pure ?_)
 unfold descrGetter descrCheckInstance descrNameAndClass isInstance
 simp only [KF.owner_class]
 repeat lk
 refine ⟨Code.quiet_builtin _ (by decide +kernel), codeAny_builtin KF.entry_class ?_⟩
 unfold Builtin.«object.__class__» shownTypeOf
 repeat lk
 exact h
theorem exc_entry {tk : Tok} {Q : Fin → Shared → Prop} (X : K.In s.heap) (F : ExC K D) (I : ExAt x D s.heap) (h : Q (.done (.ret (.ref D))) s) :
  wpAny (model prog w) A (Builtin.«object.__getattribute__» ⟨[.ref x, .str "__class__" tk], []⟩) Q E s := by
 have n0 := I.type (M := model prog w)
 have n1 := exc_find (M := model prog w) (x := x) X F
 refine wpAny_bind (wpAny_pure ?_)
 refine wpAny_bind (wpAny_pure ?_)
 refine wpAny_bind (n0.at ?_)
 refine wpAny_bind (n1.at ?_)
 show wpAny _ _ (holding [.builtin "object.__class__"] (call (.builtin "getset_descriptor.__get__") [.builtin "object.__class__", .ref x, .ref D]) >>= ret) _ _ _
 exact wpAny_bind (wpAny_holding (wpAny_call (exc_class_get X F I (wpAny_pure h))))
theorem exc_check {nameV : Value} {Q : Unit → Shared → Prop} (X : K.In s.heap) (F : ExC K D) (I : ExAt x D s.heap) (h : Q () s) : wpAny (model prog w) A (checkBuiltinCall "BaseException.__getattribute__" ⟨[.ref x, nameV], []⟩) Q E s := by
 have b1 : builtinKind "BaseException.__getattribute__" = some .slot := by decide +kernel
 have b2 : splitId "BaseException.__getattribute__" = some ("BaseException", "__getattribute__") := by decide +kernel
 have n0 := I.type (M := model prog w)
 have n1 := looks_mroIn (M := model prog w) X F.bx
 have b3 := PySem.F.args_bexc_ga (.ref x) nameV
 obtain ⟨hh, gg, dr, tt, os⟩ := s
 simp only [checkBuiltinCall, b1, b2]
 refine wpAny_bind ?_
 unfold isInstance
 refine wpAny_bind (n0.at ?_)
 refine n1.at ?_
 rw [if_neg (by decide)]
 cases hsig : Manifest.signature? "BaseException.__getattribute__" with
 | none => exact wpAny_pure h
 | some sig =>
  simp only [argsOk, hsig] at b3
  have b4 : Bind.checkArgs "BaseException.__getattribute__" sig ⟨[.ref x, nameV], []⟩ = pure () := b3
  show wpAny _ _ (Bind.checkArgs "BaseException.__getattribute__" sig ⟨[.ref x, nameV], []⟩) _ _ _
  rw [b4]
  exact wpAny_pure h
theorem exc_call {tk : Tok} {R : Result → Shared → Prop} (X : K.In s.heap) (F : ExC K D) (I : ExAt x D s.heap) (h : R (.ok (.ret (.ref D))) s) :
  codeAny (model prog w) A (.call (.builtin "BaseException.__getattribute__") ⟨[.ref x, .str "__class__" tk], []⟩) R s :=
 codeAny_call_builtin (by decide +kernel) PySem.F.entry_bexc_ga (exc_check X F I (exc_entry X F I h))
theorem exc_ca {Q : Option Value → Shared → Prop} (X : K.In s.heap) (F : ExC K D) (I : ExAt x D s.heap) (h : Q (some (.ref D)) { s with toks := s.toks + 1 }) : wpAny (model prog w) A (getAttr? (.ref x) "__class__") Q E s := by
 obtain ⟨hh, gg, dr, tt, os⟩ := s
 have n0 := I.type (M := model prog w)
 have n1 := looks_findIn (M := model prog w) X F.ga
 have n2 := looks_findIn (M := model prog w) X F.hk
 unfold getAttr? getAttrBy? getAttrBy
 refine wpAny_bind (wpAny_mkText (wpAny_bind (wpAny_attempt (wpAny_holding (wpAny_bind (n0.at (wpAny_bind (n1.at ?_))))))))
 show wpAny _ _ (getAttrByItsOwn _ _ _ _ _ _) _ _ _
 unfold getAttrByItsOwn hookBefore
 refine wpAny_bind ?_
 refine n2.at ?_
 refine wpAny_bind (wpAny_attempt (wpAny_holding ?_))
 have b1 : bindSpecial (.builtin "BaseException.__getattribute__") (.ref x) = pure (.builtin "BaseException.__getattribute__", [.ref x]) := by kernel_rfl
 show wpAny _ _ (bindSpecial (.builtin "BaseException.__getattribute__") (.ref x) >>= _) _ _ _
 rw [b1]
 refine wpAny_bind (wpAny_pure ?_)
 refine wpAny_call (exc_call X F I ?_)
 exact wpAny_of_eq (handedOut_of rfl) (wpAny_pure h)
theorem kitx_exc (F : ExC K D) : KitX K (.ref x) (.ref D) (ExAt x D) where
 ty := fun _ _ _ I => I.type
 it := fun _ _ X _ => by
  obtain ⟨cd, hc⟩ := Option.isSome_iff_exists.mp F.cd
  unfold clsIn at hc
  split at hc
  ·rename_i c' d' cd' sl' ho
   intro A' Q' E' s' k q
   unfold isType loadHead
   exact wpAny_bind (wpAny_loadPart (k _ _ (X _ _ ho)) (wpAny_pure q))
  ·cases hc
 ne := fun h tp dd its n sl X htp => by
  obtain ⟨cd, hc⟩ := Option.isSome_iff_exists.mp F.cd
  refine Bool.eq_false_iff.mpr fun q => ?_
  have e : D = tp := Value.ref.inj (beq_iff_eq.mp q)
  subst e
  unfold clsIn at hc
  split at hc
  ·rename_i c' d' cd' sl' ho
   have z := (X _ _ ho).symm.trans htp
   cases z
  ·cases hc
 ca := fun X I k => exc_ca X F I k
end
end L2
set_option Elab.async false
set_option linter.all false
set_option maxRecDepth 100000
namespace L2
open PySem PySem.Spec PyProof.Rows
section
variable {X : Cx} {pins : List (Addr × Obj)} {σ : St} {H : Hp} {s : Shared} {scope : Scope} {cl : List (Str × Addr)} {own : List Str} {cap : List (Nat × Str)} {fp : List Addr} {E : Value → Shared → Prop}
end
def more (S : Str → Bool) (n : Nat) (k : Str) : Nat := if S k then n else n + 1
section
variable {X : Cx} {scope : Scope} {cl : List (Str × Addr)} {own : List Str} {cap : List (Nat × Str)} {tg iter elt : Expr} {wi : TI} {g : TG} {te : TE} {pos : Pos}
end
section
variable {P : Program} {w : World} {K : PySem.W.Frag} {a : Addr} {xs : List V} {g : TG} {te : TE} {own : List Str} {cap : List (Nat × Str)} {σ : St} {H1 : Hp} {QD : Hp → Prop} {D : Addr}
end
end L2
set_option Elab.async false
set_option linter.all false
set_option maxRecDepth 100000
namespace L2
open PySem PySem.Spec PyProof.Rows
section
variable {X : Cx}
end
end L2
set_option Elab.async false
set_option linter.all false
set_option maxRecDepth 100000
namespace L2
open PySem PySem.Spec PyProof.Rows
inductive ClsV : V → Value → Prop
 | own (a : Addr) : ClsV (.ref a) (.ref a)
 | ty (T : String) : ClsV (.ty T) (.type T)
inductive ClsVs : List V → List Value → Prop
 | nil : ClsVs [] []
 | cons {v : V} {c : Value} {vs : List V} {cs : List Value} : ClsV v c → ClsVs vs cs → ClsVs (v :: vs) (c :: cs)
theorem ClsV.rel {v : V} {c u : Value} (h : ClsV v c) (r : RelV v u) : u = c := by
 cases h with
 | own a => exact r
 | ty T => exact r
theorem ClsVs.rel : ∀ {vs : List V} {cs us : List Value}, ClsVs vs cs → Vals vs us → us = cs
 | _, _, _, .nil, .nil => rfl
 | _, _, _, .cons h t, .cons r rs => by rw [h.rel r, t.rel rs]
section
variable {X : Cx}
theorem call_instX : CallR X (.builtin "isinstance") (fun xs H Q => ∃ (x D : Addr) (cv : V) (c : Value) (b : Bool), xs = [.ref x, cv] ∧ ClsV cv c ∧ ExC X.K D ∧ H x = some (.ext (ExAt x D)) ∧ PySem.W.kitOne X.K (.ref D) c = some b ∧ Q (.bl b) H) := by
 intro pins s σ H xs us Q I r h
 obtain ⟨x, D, cv, c, b, rfl, hc, F, hx, e, q⟩ := h
 obtain ⟨u, w', rfl, ru, rw'⟩ := vals2 r
 cases ru
 have := hc.rel rw'
 subst this
 exact PySem.W.kia_one (kitx_exc F) I.kIn (I.hok x _ hx).1 e (fun z => nomatch z) fun tk => ⟨.bl b, H, I.tok tk, rfl, q⟩
theorem call_instXT : CallR X (.builtin "isinstance") (fun xs H Q => ∃ (x D p : Addr) (cvs : List V) (cs : List Value) (b : Bool), xs = [.ref x, .ref p] ∧ H p = some (.tup cvs) ∧ ClsVs cvs cs ∧ ExC X.K D ∧ H x = some (.ext (ExAt x D)) ∧ PySem.W.kitAny X.K (.ref D) cs = some b ∧ Q (.bl b) H) := by
 intro pins s σ H xs us Q I r h
 obtain ⟨x, D, p, cvs, cs, b, rfl, hp, hc, F, hx, e, q⟩ := h
 obtain ⟨u, w', rfl, ru, rw'⟩ := vals2 r
 cases ru
 cases rw'
 obtain ⟨_, its, rv, o, h1, h2, n, h3⟩ := (show ObjOk X.prog X.w H s.heap p (.tup cvs) from I.hok p _ hp)
 have := hc.rel rv
 subst this
 obtain ⟨oc, od, odt, osl⟩ := o
 cases h2
 cases h3
 exact PySem.W.kia_tup (kitx_exc F) I.kIn (I.hok x _ hx).1 h1 e (fun z => nomatch z) fun tk => ⟨.bl b, H, I.tok tk, rfl, q⟩
end
section
variable {X : Cx} {elts : List Expr} {kk : Nat} {tpos : Pos}
end
end L2
set_option Elab.async false
set_option linter.all false
set_option maxRecDepth 100000
namespace L2
open PySem PySem.Spec PyProof.Rows
section
variable {prog : Program} {w : World} {A : Around} {E : Value → Shared → Prop} {s : Shared}
end
section
variable {X : Cx} {pins : List (Addr × Obj)} {σ : St} {H : Hp} {s : Shared} {z p r j1 j2 u1 u2 t : Addr} {xs ys : List V}
theorem FpOk.upd {b T : Addr} {o : HO} (h : FpOk X pins H b) (n : b ≠ T) : FpOk X pins (L2.upd H T o) b := ⟨by rw [upd_ne n]; exact h.1, h.2⟩
def Prs (H : Hp) (xs ys : List V) (ts : List Addr) : Prop := ∀ (j : Nat) (t : Addr), ts[j]? = some t → ∃ x y, xs[j]? = some x ∧ ys[j]? = some y ∧ H t = some (.tup [x, y])
theorem Prs.keep {H' : Hp} {ts : List Addr} (h : Prs H xs ys ts) (k : ∀ b v, H b = some (.tup v) → H' b = some (.tup v)) : Prs H' xs ys ts := fun j t e => by
 obtain ⟨x, y, a, b, c⟩ := h j t e
 exact ⟨x, y, a, b, k _ _ c⟩
theorem Prs.snoc {T : Addr} {x y : V} {ts : List Addr} (h : Prs H xs ys ts) (hx : xs[ts.length]? = some x) (hy : ys[ts.length]? = some y) (hT : H T = some (.tup [x, y])) : Prs H xs ys (ts ++ [T]) := fun j t e => by
 by_cases hj : j < ts.length
 ·rw [List.getElem?_append_left hj] at e; exact h j t e
 ·rw [List.getElem?_append_right (by omega)] at e
  have : j - ts.length = 0 := by
   by_cases h0 : j - ts.length = 0
   ·exact h0
   ·rw [List.getElem?_eq_none (by simp; omega)] at e; cases e
  have ej : j = ts.length := by omega
  subst ej
  simp at e
  subst e
  exact ⟨x, y, hx, hy, hT⟩
theorem SqT.step {K : PySem.W.Frag} {H' : Hp} {S a : Addr} {ls vs : List V} (k : ∀ b o, b ≠ S → H b = some o → H' b = some o) (hS : H S = some (.lst ls)) (h : SqT K H a vs) : SqT K H' a vs := by
 rcases h with (h | ⟨o, h⟩) | h
 ·exact .inl (.inl (k a _ (ne_of h hS (by intro z; cases z)) h))
 ·exact .inl (.inr ⟨o, k a _ (ne_of h hS (by intro z; cases z)) h⟩)
 ·exact .inr h
end
section
variable {X : Cx} {pins : List (Addr × Obj)} {σ : St} {H : Hp} {s : Shared} {z p r j1 j2 u1 u2 : Addr} {xs ys : List V}
end
end L2
set_option Elab.async false
set_option linter.all false
set_option maxRecDepth 100000
namespace L2
open PySem PySem.Spec PyProof.Rows
section
variable {X : Cx} {a b : Expr} {ta : TA} {p1 p2 pos1 pos2 : Pos}
end
end L2
set_option Elab.async false
set_option linter.all false
set_option maxRecDepth 100000
namespace L2
open PySem PySem.Spec PyProof.Rows
section
variable {X : Cx}
theorem op_eqNil (hu : X.A.units < cLine) : OpR X (compareOp .Eq) (fun x y H Q => ∃ a b xs, x = .ref a ∧ y = .ref b ∧ SqL X.K H a xs ∧ SqL X.K H b [] ∧ Q (.bl xs.isEmpty) H) := by
 intro pins s σ H x y v u Q I rx ry h
 obtain ⟨a, b, xs, rfl, rfl, ha, hb, q⟩ := h
 cases rx
 cases ry
 obtain ⟨its, rv, pl, hz⟩ := I.list ha
 obtain ⟨its2, rv2, pl2, hz2⟩ := I.list hb
 cases rv2
 cases xs with
 | nil =>
  cases rv
  exact SeqAt.eq_listAt (e := fun _ => true) pl.isList pl2.isList rfl hu (fun j h1 _ => absurd h1 (by simp)) ⟨.bl true, H, I, rfl, q⟩
 | cons x r =>
  cases rv with
  | cons r1 r2 => exact SeqAt.eq_list_lengthsAt pl.isList pl2.isList (by simp) hu ⟨.bl false, H, I, rfl, q⟩
end
end L2
set_option Elab.async false
set_option linter.all false
set_option maxRecDepth 100000
namespace L2
open PySem PySem.Spec PyProof.Rows
section
variable {X : Cx}
end
end L2
namespace L2
open PySem PySem.Spec PyProof.Rows
section
variable {X : Cx}
end
end L2
set_option Elab.async false
set_option linter.all false
set_option maxRecDepth 100000
namespace L3
open PySem PySem.Spec L2
open PyProof.Rows hiding St
inductive T where
 | non | bl (b : Bool) | int (i : Int) | str (z : Str) | tup (ts : List T) | ref (a : Addr) | ty (n : String)
 /-- a list that nobody changes (the script) -/
 | scr (K : PySem.W.Frag) (a : Addr) (ts : List T)
def SqC (K : PySem.W.Frag) (H : Hp) (a : Addr) (vs : List V) : Prop := (∃ o, H a = some (.frz o (.lst vs))) ∨
 ∃ (o : Obj) (its : Array Value) (n : Nat), K.lookup a = some o ∧ o.cls = .type "list" ∧ o.dict = none ∧ o.data = .seq its n ∧ its.size ≤ sizeLine ∧ Vals vs its.toList
inductive O where
 | lst (ts : List T)
 | ins (C dx : Addr) (fs : List (Str × T))
 | own (x : Addr)
 | dK (kvs : List (Key × T))
 | ext (φ : Heap → Prop)
abbrev Gp := Addr → Option O
def up (Γ : Gp) (a : Addr) (o : O) : Gp := fun b => if b = a then some o else Γ b
theorem up_same {Γ : Gp} {a : Addr} {o : O} : up Γ a o a = some o := by unfold up; rw [if_pos rfl]
theorem up_ne {Γ : Gp} {a b : Addr} {o : O} (h : b ≠ a) : up Γ a o b = Γ b := by unfold up; rw [if_neg h]
theorem gne {Γ : Gp} {a b : Addr} {o u : O} (h : Γ a = some o) (h' : Γ b = some u) (d : o ≠ u) : a ≠ b := by
 intro e; subst e; rw [h] at h'; exact d (Option.some.inj h')
theorem gnn {Γ : Gp} {a b : Addr} {o : O} (h : Γ a = some o) (h' : Γ b = none) : a ≠ b := by
 intro e; subst e; rw [h] at h'; cases h'
section
mutual
def R (H : Hp) : V → T → Prop
 | v, .non => v = .non
 | v, .bl b => v = .bl b
 | v, .int i => v = .int i
 | v, .str z => v = .str z
 | v, .ref a => v = .ref a
 | v, .ty n => v = .ty n
 | v, .tup ts => ∃ a vs, v = .ref a ∧ H a = some (.tup vs) ∧ Rs H vs ts
 | v, .scr K a ts => v = .ref a ∧ ∃ vs, SqC K H a vs ∧ Rs H vs ts
def Rs (H : Hp) : List V → List T → Prop
 | vs, [] => vs = []
 | vs, t :: r => ∃ v ws, vs = v :: ws ∧ R H v t ∧ Rs H ws r
end
def Tq (H H' : Hp) : Prop := (∀ a vs, H a = some (.tup vs) → H' a = some (.tup vs)) ∧ ∀ a o u, H a = some (.frz o u) → H' a = some (.frz o u)
end
section
variable {H H' : Hp}
theorem Tq.refl : Tq H H := ⟨fun _ _ h => h, fun _ _ _ h => h⟩
theorem Tq.trans {H1 : Hp} (a : Tq H H1) (b : Tq H1 H') : Tq H H' := ⟨fun x vs h => b.1 x vs (a.1 x vs h), fun x o u h => b.2 x o u (a.2 x o u h)⟩
theorem SqC.mono (t : Tq H H') {K : PySem.W.Frag} {a : Addr} {vs : List V} (h : SqC K H a vs) : SqC K H' a vs := by
 rcases h with ⟨o, h⟩ | h
 ·exact .inl ⟨o, t.2 _ _ _ h⟩
 ·exact .inr h
mutual
theorem R.mono (t : Tq H H') : ∀ {x : T} {v : V}, R H v x → R H' v x
 | .non, v, h => by unfold R at h ⊢; exact h
 | .bl _, v, h => by unfold R at h ⊢; exact h
 | .int _, v, h => by unfold R at h ⊢; exact h
 | .str _, v, h => by unfold R at h ⊢; exact h
 | .ref _, v, h => by unfold R at h ⊢; exact h
 | .ty _, v, h => by unfold R at h ⊢; exact h
 | .tup ts, v, h => by
  unfold R at h ⊢
  obtain ⟨a, vs, e, s, q⟩ := h
  exact ⟨a, vs, e, t.1 a vs s, Rs.mono t q⟩
 | .scr K a ts, v, h => by
  unfold R at h ⊢
  obtain ⟨e, vs, s, q⟩ := h
  exact ⟨e, vs, s.mono t, Rs.mono t q⟩
theorem Rs.mono (t : Tq H H') : ∀ {xs : List T} {vs : List V}, Rs H vs xs → Rs H' vs xs
 | [], vs, h => by unfold Rs at h ⊢; exact h
 | x :: r, vs, h => by
  unfold Rs at h ⊢
  obtain ⟨v, ws, e, p, q⟩ := h
  exact ⟨v, ws, e, R.mono t p, Rs.mono t q⟩
end
theorem Rs.length : ∀ {xs : List T} {vs : List V}, Rs H vs xs → vs.length = xs.length
 | [], vs, h => by unfold Rs at h; subst h; rfl
 | x :: r, vs, h => by
  unfold Rs at h
  obtain ⟨v, ws, e, _, q⟩ := h
  rw [e, List.length_cons, List.length_cons, Rs.length q]
theorem Rs.get : ∀ {xs : List T} {vs : List V} {i : Nat} {x : T}, Rs H vs xs → xs[i]? = some x → ∃ v, vs[i]? = some v ∧ R H v x
 | [], vs, i, x, h, e => by simp at e
 | y :: r, vs, i, x, h, e => by
  unfold Rs at h
  obtain ⟨v, ws, e1, p, q⟩ := h
  subst e1
  cases i with
  | zero => cases e; exact ⟨v, rfl, p⟩
  | succ i => exact Rs.get (i := i) q e
theorem Rs.getV {xs : List T} {vs : List V} {i : Nat} {v : V} (h : Rs H vs xs) (e : vs[i]? = some v) : ∃ x, xs[i]? = some x ∧ R H v x := by
 have hl := h.length
 obtain ⟨hi, _⟩ := List.getElem?_eq_some_iff.mp e
 have hi' : i < xs.length := by omega
 obtain ⟨v', e', r⟩ := h.get (i := i) (x := xs[i]) (by simp [hi'])
 rw [e] at e'; cases e'
 exact ⟨xs[i], by simp [hi'], r⟩
theorem Rs.app : ∀ {xs ys : List T} {vs ws : List V}, Rs H vs xs → Rs H ws ys → Rs H (vs ++ ws) (xs ++ ys)
 | [], ys, vs, ws, h, h' => by unfold Rs at h; subst h; exact h'
 | x :: r, ys, vs, ws, h, h' => by
  unfold Rs at h
  obtain ⟨v, us, e, p, q⟩ := h
  subst e
  show Rs H (v :: (us ++ ws)) (x :: (r ++ ys))
  unfold Rs
  exact ⟨v, _, rfl, p, Rs.app q h'⟩
theorem rs_nil : Rs H [] [] := by unfold Rs; rfl
theorem rs_cons {v : V} {x : T} {vs : List V} {xs : List T} (a : R H v x) (b : Rs H vs xs) : Rs H (v :: vs) (x :: xs) := by
 unfold Rs; exact ⟨v, vs, rfl, a, b⟩
theorem rs_inv {vs : List V} {x : T} {xs : List T} (h : Rs H vs (x :: xs)) : ∃ v ws, vs = v :: ws ∧ R H v x ∧ Rs H ws xs := by unfold Rs at h; exact h
theorem rs_inv0 {vs : List V} (h : Rs H vs []) : vs = [] := by unfold Rs at h; exact h
theorem Rs.drop : ∀ {xs : List T} {vs : List V} (n : Nat), Rs H vs xs → Rs H (vs.drop n) (xs.drop n)
 | xs, vs, 0, h => h
 | [], vs, n + 1, h => by rw [rs_inv0 h]; exact rs_nil
 | x :: r, vs, n + 1, h => by
  obtain ⟨v, ws, e, _, q⟩ := rs_inv h
  subst e
  exact Rs.drop n q
theorem Rs.take : ∀ {xs : List T} {vs : List V} (n : Nat), Rs H vs xs → Rs H (vs.take n) (xs.take n)
 | xs, vs, 0, h => by rw [List.take_zero, List.take_zero]; exact rs_nil
 | [], vs, n + 1, h => by rw [rs_inv0 h]; exact rs_nil
 | x :: r, vs, n + 1, h => by
  obtain ⟨v, ws, e, p, q⟩ := rs_inv h
  subst e
  exact rs_cons p (Rs.take n q)
theorem Rs.set : ∀ {xs : List T} {vs : List V} {v : V} {x : T} (n : Nat), Rs H vs xs → R H v x → Rs H (vs.set n v) (xs.set n x)
 | [], vs, v, x, n, h, p => by rw [rs_inv0 h]; exact rs_nil
 | y :: r, vs, v, x, 0, h, p => by
  obtain ⟨u, ws, e, _, q⟩ := rs_inv h
  subst e
  exact rs_cons p q
 | y :: r, vs, v, x, n + 1, h, p => by
  obtain ⟨u, ws, e, p', q⟩ := rs_inv h
  subst e
  exact rs_cons p' (Rs.set n q p)
end
def Fs (H : Hp) : List (Str × V) → List (Str × T) → Prop := Paired fun (p : Str × V) (q : Str × T) => p.1 = q.1 ∧ R H p.2 q.2
def Ks (H : Hp) : List (Key × V) → List (Key × T) → Prop := Paired fun (p : Key × V) (q : Key × T) => p.1 = q.1 ∧ R H p.2 q.2
theorem paired_imp {α β : Type} {P Q : α → β → Prop} (h : ∀ a b, P a b → Q a b) : ∀ {xs : List α} {ys : List β}, Paired P xs ys → Paired Q xs ys
 | _, _, .nil => .nil
 | _, _, .cons a b => .cons (h _ _ a) (paired_imp h b)
theorem Fs.mono {H H' : Hp} (t : Tq H H') {a : List (Str × V)} {b : List (Str × T)} (h : Fs H a b) : Fs H' a b := paired_imp (fun _ _ q => ⟨q.1, q.2.mono t⟩) h
theorem Ks.mono {H H' : Hp} (t : Tq H H') {a : List (Key × V)} {b : List (Key × T)} (h : Ks H a b) : Ks H' a b := paired_imp (fun _ _ q => ⟨q.1, q.2.mono t⟩) h
def Ho (H : Hp) (a : Addr) : O → Prop
 | .lst ts => ∃ vs, H a = some (.lst vs) ∧ Rs H vs ts
 | .ins C dx fs => ∃ gs, H a = some (.ins C dx gs) ∧ Fs H gs fs
 | .own x => H a = some (.own x)
 | .dK kvs => ∃ us, H a = some (.dK us) ∧ Ks H us kvs
 | .ext φ => H a = some (.ext φ)
def HR (H : Hp) (Γ : Gp) : Prop := ∀ a o, Γ a = some o → Ho H a o
structure Stp (H : Hp) (Γ : Gp) (H' : Hp) (Γ' : Gp) : Prop where
 tq : Tq H H'
 dom : ∀ a, H a ≠ none → H' a ≠ none
 new : ∀ a, H a ≠ none → Γ a = none → Γ' a = none
 frm : ∀ a o, H a = some o → Γ a = none → H' a = some o
section
variable {H H' H1 : Hp} {Γ Γ' Γ1 : Gp}
theorem Stp.refl : Stp H Γ H Γ := ⟨.refl, fun _ h => h, fun _ _ h => h, fun _ _ h _ => h⟩
theorem Stp.trans (a : Stp H Γ H1 Γ1) (b : Stp H1 Γ1 H' Γ') : Stp H Γ H' Γ' :=
 ⟨a.tq.trans b.tq, fun x h => b.dom x (a.dom x h), fun x h g => b.new x (a.dom x h) (a.new x h g), fun x o h g => b.frm x o (a.frm x o h g) (a.new x (by rw [h]; exact fun z => (nomatch z)) g)⟩
theorem Ho.mono {a : Addr} {o : O} (t : Tq H H') (e : ∀ u, H a = some u → H' a = some u) (h : Ho H a o) : Ho H' a o := by
 cases o with
 | lst ts => obtain ⟨vs, h, r⟩ := h; exact ⟨vs, e _ h, r.mono t⟩
 | ins C dx fs => obtain ⟨vs, h, r⟩ := h; exact ⟨vs, e _ h, r.mono t⟩
 | own x => exact e _ h
 | dK kvs => obtain ⟨vs, h, r⟩ := h; exact ⟨vs, e _ h, r.mono t⟩
 | ext φ => exact e _ h
theorem Ho.some {a : Addr} {o : O} (h : Ho H a o) : ∃ u, H a = some u ∧ (∀ vs : List V, u ≠ .tup vs) ∧ ∀ b w, u ≠ .frz b w := by
 cases o with
 | lst ts => obtain ⟨vs, h, r⟩ := h; exact ⟨_, h, ⟨fun _ z => (nomatch z), fun _ _ z => (nomatch z)⟩⟩
 | ins C dx fs => obtain ⟨vs, h, r⟩ := h; exact ⟨_, h, ⟨fun _ z => (nomatch z), fun _ _ z => (nomatch z)⟩⟩
 | own x => exact ⟨_, h, ⟨fun _ z => (nomatch z), fun _ _ z => (nomatch z)⟩⟩
 | dK kvs => obtain ⟨vs, h, r⟩ := h; exact ⟨_, h, ⟨fun _ z => (nomatch z), fun _ _ z => (nomatch z)⟩⟩
 | ext φ => exact ⟨_, h, ⟨fun _ z => (nomatch z), fun _ _ z => (nomatch z)⟩⟩
theorem HR.free (h : HR H Γ) {a : Addr} (n : H a = none) : Γ a = none := by
 cases e : Γ a with
 | none => rfl
 | some o =>
  obtain ⟨u, hu, _⟩ := (h a o e).some
  rw [n] at hu; cases hu
theorem tq_kp (k : ∀ b o, H b = some o → H' b = some o) : Tq H H' := ⟨fun a vs h => k _ _ h, fun a o u h => k _ _ h⟩
theorem Stp.keep (k : ∀ b o, H b = some o → H' b = some o) : Stp H Γ H' Γ :=
 ⟨tq_kp k, fun a h z => by
  cases e : H a with
  | none => exact h e
  | some o => exact (by rw [k a o e] at z; cases z), fun _ _ h => h, fun a o h _ => k a o h⟩
theorem HR.keep (h : HR H Γ) (k : ∀ b o, H b = some o → H' b = some o) : HR H' Γ := fun a o e => (h a o e).mono (tq_kp k) (k a)
theorem keep_new {p : Addr} {o : HO} (h : H p = none) : ∀ b u, H b = some u → upd H p o b = some u := fun b u q => by rw [upd_ne (ne_of_none q h)]; exact q
theorem Stp.make {p : Addr} {o : HO} {o3 : O} (h : H p = none) : Stp H Γ (upd H p o) (up Γ p o3) := by
 refine ⟨tq_kp (keep_new h), fun a q z => ?_, fun a q g => ?_, fun a u q _ => keep_new h a u q⟩
 ·by_cases e : a = p
  ·subst e; exact q h
  ·rw [upd_ne e] at z; exact q z
 ·have e : a ≠ p := fun e => q (by rw [e]; exact h)
  rw [up_ne e]; exact g
theorem HR.make (hr : HR H Γ) {p : Addr} {o : HO} {o3 : O} (h : H p = none) (k : Ho (upd H p o) p o3) : HR (upd H p o) (up Γ p o3) := fun a u e => by
 by_cases z : a = p
 ·subst z; rw [up_same] at e; cases e; exact k
 ·rw [up_ne z] at e
  exact (hr a u e).mono (tq_kp (keep_new h)) fun _ q => by rw [upd_ne z]; exact q
theorem tq_set {a : Addr} {o u : HO} (h : H a = some u) (n : (∀ vs : List V, u ≠ .tup vs) ∧ ∀ b w, u ≠ .frz b w) : Tq H (upd H a o) := ⟨fun x vs q => by
 have : x ≠ a := fun e => by subst e; rw [h] at q; exact n.1 vs (Option.some.inj q)
 rw [upd_ne this]; exact q, fun x b w q => by
 have : x ≠ a := fun e => by subst e; rw [h] at q; exact n.2 b w (Option.some.inj q)
 rw [upd_ne this]; exact q⟩
theorem Stp.set {a : Addr} {o : HO} {o2 o3 : O} (hr : HR H Γ) (g : Γ a = some o2) : Stp H Γ (upd H a o) (up Γ a o3) := by
 obtain ⟨u, hu, n⟩ := (hr a o2 g).some
 refine ⟨tq_set hu n, fun x q z => ?_, fun x q g' => ?_, fun x w q g' => ?_⟩
 ·by_cases e : x = a
  ·subst e; rw [upd_same] at z; cases z
  ·rw [upd_ne e] at z; exact q z
 ·have e : x ≠ a := fun e => by subst e; rw [g] at g'; cases g'
  rw [up_ne e]; exact g'
 ·have e : x ≠ a := fun e => by subst e; rw [g] at g'; cases g'
  rw [upd_ne e]; exact q
theorem HR.set {a : Addr} {o : HO} {o2 o3 : O} (hr : HR H Γ) (g : Γ a = some o2) (k : Ho (upd H a o) a o3) : HR (upd H a o) (up Γ a o3) := fun x u e => by
 obtain ⟨w, hw, n⟩ := (hr a o2 g).some
 by_cases z : x = a
 ·subst z; rw [up_same] at e; cases e; exact k
 ·rw [up_ne z] at e
  exact (hr x u e).mono (tq_set hw n) fun _ q => by rw [upd_ne z]; exact q
theorem HR.hide {a : Addr} {o u : HO} (hr : HR H Γ) (g : Γ a = none) (h : H a = some u) (n : (∀ vs : List V, u ≠ .tup vs) ∧ ∀ b w, u ≠ .frz b w) : HR (upd H a o) Γ := fun x w e => by
 have z : x ≠ a := fun z => by subst z; rw [g] at e; cases e
 exact (hr x w e).mono (tq_set h n) fun _ q => by rw [upd_ne z]; exact q
end
abbrev S3 := List (Option T)
abbrev X3 := S3 → Value → Gp → Prop
abbrev K3 := T → Gp → Prop
abbrev E3 := X3 → S3 → Gp → K3 → Prop
abbrev T3 := X3 → S3 → Gp → (Bool → Gp → Prop) → Prop
abbrev A3 := X3 → S3 → Gp → (List T → Gp → Prop) → Prop
structure D3 where
 nx : S3 → Gp → Prop
 rt : K3
 bk : S3 → Gp → Prop := fun _ _ => False
 ct : S3 → Gp → Prop := fun _ _ => False
abbrev C3 := X3 → D3 → S3 → Gp → Prop
def RO1 (H : Hp) : Option V → Option T → Prop
 | _, none => True
 | some v, some x => R H v x
 | none, some _ => False
def RS (H : Hp) : St → S3 → Prop
 | [], [] => True
 | v :: r, x :: q => RO1 H v x ∧ RS H r q
 | _, _ => False
section
variable {H H' : Hp} {Γ Γ' : Gp}
theorem RO1.mono (t : Tq H H') {v : Option V} {x : Option T} (h : RO1 H v x) : RO1 H' v x := by
 cases x with
 | none => exact trivial
 | some x => cases v with
  | none => exact h.elim
  | some v => exact R.mono t h
theorem RS.mono (t : Tq H H') : ∀ {σ : St} {τ : S3}, RS H σ τ → RS H' σ τ
 | [], [], _ => trivial
 | _ :: _, _ :: _, h => ⟨h.1.mono t, RS.mono t h.2⟩
 | [], _ :: _, h => h.elim
 | _ :: _, [], h => h.elim
theorem RS.get : ∀ {σ : St} {τ : S3} {i : Nat} {x : T}, RS H σ τ → τ[i]? = some (some x) → ∃ v, σ[i]? = some (some v) ∧ R H v x
 | [], [], i, x, _, e => by simp at e
 | v :: r, y :: q, i, x, h, e => by
  cases i with
  | zero =>
   cases e
   cases v with
   | none => exact h.1.elim
   | some v => exact ⟨v, rfl, h.1⟩
  | succ i => exact RS.get (i := i) h.2 e
 | [], _ :: _, _, _, h, _ => h.elim
 | _ :: _, [], _, _, h, _ => h.elim
theorem RS.set {v : V} {x : T} (r : R H v x) : ∀ {σ : St} {τ : S3} (i : Nat), RS H σ τ → RS H (σ.set i (some v)) (τ.set i (some x))
 | [], [], _, _ => trivial
 | _ :: _, _ :: _, 0, h => ⟨r, h.2⟩
 | _ :: _, _ :: _, i + 1, h => ⟨h.1, RS.set r i h.2⟩
 | [], _ :: _, _, h => h.elim
 | _ :: _, [], _, h => h.elim
theorem RS.len : ∀ {σ : St} {τ : S3}, RS H σ τ → σ.length = τ.length
 | [], [], _ => rfl
 | _ :: _, _ :: _, h => by rw [List.length_cons, List.length_cons, RS.len h.2]
 | [], _ :: _, h => h.elim
 | _ :: _, [], h => h.elim
def XR (H : Hp) (Γ : Gp) (Y : X3) (E : St → XK) : Prop := ∀ σ τ C H' Γ', Stp H Γ H' Γ' → HR H' Γ' → RS H' σ τ → Y τ C Γ' → E σ C none H'
theorem XR.mono {Y : X3} {E : St → XK} (x : XR H Γ Y E) (s : Stp H Γ H' Γ') : XR H' Γ' Y E := fun σ τ C H2 Γ2 s2 h2 r y => x σ τ C H2 Γ2 (s.trans s2) h2 r y
def VR (H : Hp) (Γ : Gp) (Z : K3) (Q : VK) : Prop := ∀ v x H' Γ', Stp H Γ H' Γ' → HR H' Γ' → R H' v x → Z x Γ' → Q v H'
theorem VR.mono {Z : K3} {Q : VK} (x : VR H Γ Z Q) (s : Stp H Γ H' Γ') : VR H' Γ' Z Q := fun v x' H2 Γ2 s2 h2 r y => x v x' H2 Γ2 (s.trans s2) h2 r y
def NR (H : Hp) (Γ : Gp) (Z : S3 → Gp → Prop) (Q : St → Hp → Prop) : Prop := ∀ σ τ H' Γ', Stp H Γ H' Γ' → HR H' Γ' → RS H' σ τ → Z τ Γ' → Q σ H'
theorem NR.mono {Z : S3 → Gp → Prop} {Q : St → Hp → Prop} (x : NR H Γ Z Q) (s : Stp H Γ H' Γ') : NR H' Γ' Z Q := fun v x' H2 Γ2 s2 h2 r y => x v x' H2 Γ2 (s.trans s2) h2 r y
structure DR (H : Hp) (Γ : Gp) (Z : D3) (Q : Ends) : Prop where
 nx : NR H Γ Z.nx Q.nx
 rt : VR H Γ Z.rt Q.rt
 bk : NR H Γ Z.bk Q.bk
 ct : NR H Γ Z.ct Q.ct
theorem DR.mono {Z : D3} {Q : Ends} (x : DR H Γ Z Q) (s : Stp H Γ H' Γ') : DR H' Γ' Z Q := ⟨x.nx.mono s, x.rt.mono s, x.bk.mono s, x.ct.mono s⟩
end
section
variable (E : St → XK)
def liE (t : E3) : TE := fun σ H Q => ∃ τ Γ Y Z, RS H σ τ ∧ HR H Γ ∧ t Y τ Γ Z ∧ VR H Γ Z Q ∧ XR H Γ Y E
def liT (t : T3) : TT := fun σ H Q => ∃ τ Γ Y Z, RS H σ τ ∧ HR H Γ ∧ t Y τ Γ Z ∧ (∀ b H' Γ', Stp H Γ H' Γ' → HR H' Γ' → Z b Γ' → Q b H') ∧ XR H Γ Y E
def liA (t : A3) : TA := fun σ H Q => ∃ τ Γ Y Z, RS H σ τ ∧ HR H Γ ∧ t Y τ Γ Z ∧ (∀ vs xs H' Γ', Stp H Γ H' Γ' → HR H' Γ' → Rs H' vs xs → Z xs Γ' → Q vs H') ∧ XR H Γ Y E
def liS (t : C3) : TS := fun D σ H => ∃ τ Γ Y Z, RS H σ τ ∧ HR H Γ ∧ t Y Z τ Γ ∧ DR H Γ Z D ∧ XR H Γ Y E
end
end L3
set_option Elab.async false
set_option linter.all false
set_option maxRecDepth 100000
namespace L3
open PySem PySem.Spec L2
open PyProof.Rows hiding St
section
variable {X : Cx} {E : St → XK}
theorem weakE {e : Expr} {t t' : TE} (h : PE X e t) (w : ∀ σ H Q, t' σ H Q → t σ H Q) : PE X e t' := ⟨fun pins s σ H Q I q => h.run pins s σ H Q I (w _ _ _ q)⟩
theorem weakT {e : Expr} {t t' : TT} (h : PT X e t) (w : ∀ σ H Q, t' σ H Q → t σ H Q) : PT X e t' := ⟨fun pins s σ H Q I q => h.run pins s σ H Q I (w _ _ _ q)⟩
theorem weakW {e : Expr} {t t' : TT} (h : PW X e t) (w : ∀ σ H Q, t' σ H Q → t σ H Q) : PW X e t' := ⟨fun wh pins s σ H Q I q => h.run wh pins s σ H Q I (w _ _ _ q)⟩
theorem weakA {e : List Expr} {t t' : TA} (h : PA X e t) (w : ∀ σ H Q, t' σ H Q → t σ H Q) : PA X e t' := ⟨fun pos pins s σ H Q I q => h.run pos pins s σ H Q I (w _ _ _ q)⟩
theorem weakS {e : Stmt} {t t' : TS} (h : PS X e t) (w : ∀ D σ H, t' D σ H → t D σ H) : PS X e t' := ⟨fun pins s σ H D I q => h.run pins s σ H D I (w _ _ _ q)⟩
theorem weakSs {e : List Stmt} {t t' : TS} (h : PSs X e t) (w : ∀ D σ H, t' D σ H → t D σ H) : PSs X e t' := ⟨fun pins s σ H D I q => h.run pins s σ H D I (w _ _ _ q)⟩
theorem weakG {e : Expr} {t t' : TG} (h : PG X e t) (w : ∀ v σ H Q, t' v σ H Q → t v σ H Q) : PG X e t' := ⟨fun pins s σ H v u Q I r q => h.run pins s σ H v u Q I r (w _ _ _ _ q)⟩
theorem weakGs {e : List Expr} {t t' : TGs} (h : PGs X e t) (w : ∀ v σ H Q, t' v σ H Q → t v σ H Q) : PGs X e t' := ⟨fun pins s σ H v u Q I r q => h.run pins s σ H v u Q I r (w _ _ _ _ q)⟩
theorem weakI {tg e : Expr} {t t' : TI} (h : PI X tg e t) (w : ∀ σ H Q, t' σ H Q → t σ H Q) : PI X tg e t' := ⟨fun pins s σ H Q I q => h.run pins s σ H Q I (w _ _ _ q)⟩
theorem weakTs {e : List Expr} {t t' : TT} (h : PTs X e t) (w : ∀ σ H Q, t' σ H Q → t σ H Q) : PTs X e t' := ⟨fun pins s σ H Q I q => h.run pins s σ H Q I (w _ _ _ q)⟩
theorem weakE3 {e : Expr} {t0 : TE} {t : E3} (h : PE X e t0) (w : ∀ σ H Q τ Γ Y Z, RS H σ τ → HR H Γ → t Y τ Γ Z → VR H Γ Z Q → XR H Γ Y E → t0 σ H Q) : PE X e (liE E t) :=
 weakE h (by rintro σ H Q ⟨τ, Γ, Y, Z, rs, hr, q, vr, xr⟩; exact w σ H Q τ Γ Y Z rs hr q vr xr)
theorem weakT3 {e : Expr} {t0 : TT} {t : T3} (h : PT X e t0) (w : ∀ σ H Q τ Γ Y Z, RS H σ τ → HR H Γ → t Y τ Γ Z → (∀ b H' Γ', Stp H Γ H' Γ' → HR H' Γ' → Z b Γ' → Q b H') → XR H Γ Y E → t0 σ H Q) : PT X e (liT E t) :=
 weakT h (by rintro σ H Q ⟨τ, Γ, Y, Z, rs, hr, q, vr, xr⟩; exact w σ H Q τ Γ Y Z rs hr q vr xr)
theorem weakW3 {e : Expr} {t0 : TT} {t : T3} (h : PW X e t0) (w : ∀ σ H Q τ Γ Y Z, RS H σ τ → HR H Γ → t Y τ Γ Z → (∀ b H' Γ', Stp H Γ H' Γ' → HR H' Γ' → Z b Γ' → Q b H') → XR H Γ Y E → t0 σ H Q) : PW X e (liT E t) :=
 weakW h (by rintro σ H Q ⟨τ, Γ, Y, Z, rs, hr, q, vr, xr⟩; exact w σ H Q τ Γ Y Z rs hr q vr xr)
theorem weakA3 {e : List Expr} {t0 : TA} {t : A3} (h : PA X e t0) (w : ∀ σ H Q τ Γ Y Z, RS H σ τ → HR H Γ → t Y τ Γ Z → (∀ vs xs H' Γ', Stp H Γ H' Γ' → HR H' Γ' → Rs H' vs xs → Z xs Γ' → Q vs H') → XR H Γ Y E → t0 σ H Q) : PA X e (liA E t) :=
 weakA h (by rintro σ H Q ⟨τ, Γ, Y, Z, rs, hr, q, vr, xr⟩; exact w σ H Q τ Γ Y Z rs hr q vr xr)
theorem weakTs3 {e : List Expr} {t0 : TT} {t : T3} (h : PTs X e t0) (w : ∀ σ H Q τ Γ Y Z, RS H σ τ → HR H Γ → t Y τ Γ Z → (∀ b H' Γ', Stp H Γ H' Γ' → HR H' Γ' → Z b Γ' → Q b H') → XR H Γ Y E → t0 σ H Q) : PTs X e (liT E t) :=
 weakTs h (by rintro σ H Q ⟨τ, Γ, Y, Z, rs, hr, q, vr, xr⟩; exact w σ H Q τ Γ Y Z rs hr q vr xr)
theorem weakS3 {e : Stmt} {t0 : TS} {t : C3} (h : PS X e t0) (w : ∀ D σ H τ Γ Y Z, RS H σ τ → HR H Γ → t Y Z τ Γ → DR H Γ Z D → XR H Γ Y E → t0 D σ H) : PS X e (liS E t) :=
 weakS h (by rintro D σ H ⟨τ, Γ, Y, Z, rs, hr, q, dr, xr⟩; exact w D σ H τ Γ Y Z rs hr q dr xr)
theorem weakSs3 {e : List Stmt} {t0 : TS} {t : C3} (h : PSs X e t0) (w : ∀ D σ H τ Γ Y Z, RS H σ τ → HR H Γ → t Y Z τ Γ → DR H Γ Z D → XR H Γ Y E → t0 D σ H) : PSs X e (liS E t) :=
 weakSs h (by rintro D σ H ⟨τ, Γ, Y, Z, rs, hr, q, dr, xr⟩; exact w D σ H τ Γ Y Z rs hr q dr xr)
section
variable {H : Hp}
theorem r_non : R H .non .non := by unfold R; rfl
theorem r_bl {b : Bool} : R H (.bl b) (.bl b) := by unfold R; rfl
theorem r_int {i : Int} : R H (.int i) (.int i) := by unfold R; rfl
theorem r_str {z : Str} : R H (.str z) (.str z) := by unfold R; rfl
theorem r_ref {a : Addr} : R H (.ref a) (.ref a) := by unfold R; rfl
theorem r_ty {a : String} : R H (.ty a) (.ty a) := by unfold R; rfl
theorem r_tup {a : Addr} {vs : List V} {ts : List T} (h : H a = some (.tup vs)) (r : Rs H vs ts) : R H (.ref a) (.tup ts) := by unfold R; exact ⟨a, vs, rfl, h, r⟩
theorem i_non {v : V} (h : R H v .non) : v = .non := by unfold R at h; exact h
theorem i_bl {v : V} {b : Bool} (h : R H v (.bl b)) : v = .bl b := by unfold R at h; exact h
theorem i_int {v : V} {b : Int} (h : R H v (.int b)) : v = .int b := by unfold R at h; exact h
theorem i_str {v : V} {b : Str} (h : R H v (.str b)) : v = .str b := by unfold R at h; exact h
theorem i_ref {v : V} {b : Addr} (h : R H v (.ref b)) : v = .ref b := by unfold R at h; exact h
theorem i_ty {v : V} {b : String} (h : R H v (.ty b)) : v = .ty b := by unfold R at h; exact h
theorem i_scr {K : PySem.W.Frag} {v : V} {a : Addr} {ts : List T} (h : R H v (.scr K a ts)) : v = .ref a ∧ ∃ vs, SqC K H a vs ∧ Rs H vs ts := by unfold R at h; exact h
theorem r_scr {K : PySem.W.Frag} {a : Addr} {vs : List V} {ts : List T} (h : SqC K H a vs) (q : Rs H vs ts) : R H (.ref a) (.scr K a ts) := by unfold R; exact ⟨rfl, vs, h, q⟩
theorem SqC.sq {K : PySem.W.Frag} {a : Addr} {vs : List V} (h : SqC K H a vs) : SqL K H a vs := by
 rcases h with ⟨o, h⟩ | h
 ·exact .inl (.inr ⟨o, h⟩)
 ·exact .inr h
theorem i_tup {v : V} {ts : List T} (h : R H v (.tup ts)) : ∃ a vs, v = .ref a ∧ H a = some (.tup vs) ∧ Rs H vs ts := by unfold R at h; exact h
end
def eVar (i : Nat) : E3 := fun _ τ Γ Z => ∃ x, τ[i]? = some (some x) ∧ Z x Γ
def eC (x : T) : E3 := fun _ _ Γ Z => Z x Γ
theorem qv (i : Nat) {x : Str} {pos : Pos} (hN : X.N[i]? = some x := by rfl) (hv : Vis X.env.scope x := by first | exact Or.inl rfl | exact Or.inr (Or.inl rfl) | exact Or.inr (Or.inr rfl)) (hd : (x == ("__debug__" : Str)) = false := by decide)
  (hcd : (x == ("__classdict__" : Str)) = false := by decide) : PE X (.Name x pos) (liE E (eVar i)) :=
 weakE3 (pe_var hN hv hd hcd) fun σ H Q τ Γ Y Z rs hr q0 vr xr => by
  obtain ⟨x, e, z⟩ := q0
  obtain ⟨v, hv, r⟩ := rs.get e
  exact ⟨v, hv, vr v x H Γ .refl hr r z⟩
theorem q_c {e : Expr} {v : V} {x : T} (h : PE X e (tC v)) (r : ∀ H, R H v x) : PE X e (liE E (eC x)) :=
 weakE3 h fun σ H Q τ Γ Y Z rs hr z vr xr => vr v x H Γ .refl hr (r H) z
theorem qe_int {i j pos} : PE X (.Constant (.int i) j pos) (liE E (eC (.int i))) := q_c pe_int fun _ => r_int
theorem qe_bl {b j pos} : PE X (.Constant (.bool b) j pos) (liE E (eC (.bl b))) := q_c pe_bl fun _ => r_bl
theorem qe_non {j pos} : PE X (.Constant .none j pos) (liE E (eC .non)) := q_c pe_non fun _ => r_non
theorem qe_str {x j pos} : PE X (.Constant (.str x) j pos) (liE E (eC (.str x))) := q_c pe_str fun _ => r_str
def GlobIs (u : Value) (x : T) : Prop := ∃ v, RelV v u ∧ ∀ H, R H v x
theorem qe_glob {x : Str} {t : T} {u : Value} {pos : Pos} (hg : Gl X x) (hm : X.mg x = some u) (r : GlobIs u t) (hd : (x == ("__debug__" : Str)) = false := by decide) : PE X (.Name x pos) (liE E (eC t)) := by
 obtain ⟨v, r, h⟩ := r
 exact q_c (pe_glob hg hm r hd) h
theorem gl_ref {i : Addr} : GlobIs (.ref i) (.ref i) := ⟨.ref i, rfl, fun _ => r_ref⟩
theorem qe_bltn {x : Str} {n : String} {u : Value} {pos : Pos} (hg : Gl X x) (hm : X.mg x = none) (hv : bootBuiltins x = some u) (r : RelV (.ty n) u) (hn : x ≠ "__name__" := by decide) (hd : (x == ("__debug__" : Str)) = false := by decide) : PE X (.Name x pos) (liE E (eC (.ty n))) :=
 q_c (pe_bltn hg hm hv r hn hd) fun _ => r_ty
abbrev R3 := T → T → Gp → K3 → Prop
def OpQ (X : Cx) (f : Value → Value → Sem Value) (r3 : R3) : Prop := ∃ r : R2, OpR X f r ∧ ∀ x y a b H Γ Q Z, R H x a → R H y b → HR H Γ → r3 a b Γ Z → VR H Γ Z Q → r x y H Q
def eOp (r3 : R3) (ta tb : E3) : E3 := fun Y τ Γ Z => ta Y τ Γ fun x Γ1 => tb Y τ Γ1 fun y Γ2 => r3 x y Γ2 Z
theorem op_sim {r : R2} {r3 : R3} {ta tb : E3} (h : ∀ x y a b H Γ Q Z, R H x a → R H y b → HR H Γ → r3 a b Γ Z → VR H Γ Z Q → r x y H Q) (σ : St) (H : Hp) (Q : VK) (q : liE E (eOp r3 ta tb) σ H Q) : tOp r (liE E ta) (liE E tb) σ H Q := by
 obtain ⟨τ, Γ, Y, Z, rs, hr, t, vr, xr⟩ := q
 refine ⟨τ, Γ, Y, _, rs, hr, t, fun v x H1 Γ1 s1 h1 r1 z1 => ?_, xr⟩
 refine ⟨τ, Γ1, Y, _, rs.mono s1.tq, h1, z1, fun u y H2 Γ2 s2 h2 r2 z2 => ?_, xr.mono s1⟩
 exact h v u x y H2 Γ2 Q Z (r1.mono s2.tq) r2 h2 z2 (vr.mono (s1.trans s2))
section
variable {a b c : Expr} {ta tb tc : E3} {pos : Pos} {op op' : CmpOp} {r3 r3' : R3}
theorem qe_op {op : Operator} (ho : OpQ X (binaryOp op) r3) (ha : PE X a (liE E ta)) (hb : PE X b (liE E tb)) : PE X (.BinOp a op b pos) (liE E (eOp r3 ta tb)) := by
 obtain ⟨r, ho, h⟩ := ho
 exact weakE (pe_op ho ha hb) (op_sim h)
theorem qe_cmpR (ho : OpQ X (compareOp op) r3) (ha : PE X a (liE E ta)) (hb : PE X b (liE E tb)) (hm : behindInMarks op b = false) : PE X (.Compare a [op] [b] pos) (liE E (eOp r3 ta tb)) := by
 obtain ⟨r, ho, h⟩ := ho
 exact weakE (pe_cmpR ho ha hb hm) (op_sim h)
def eT (t : E3) : T3 := fun Y τ Γ Z => t Y τ Γ fun x Γ1 => ∃ k, x = .bl k ∧ Z k Γ1
theorem test_sim {t2 : TE} {t : E3} (h : ∀ σ H Q, liE E t σ H Q → t2 σ H Q) (σ : St) (H : Hp) (Q : Bool → Hp → Prop) (q : liT E (eT t) σ H Q) : tTest t2 σ H Q := by
 obtain ⟨τ, Γ, Y, Z, rs, hr, t, vr, xr⟩ := q
 refine h σ H _ ⟨τ, Γ, Y, _, rs, hr, t, fun v x H1 Γ1 s1 h1 r1 z1 => ?_, xr⟩
 obtain ⟨k, rfl, z⟩ := z1
 exact ⟨k, i_bl r1, vr k H1 Γ1 s1 h1 z⟩
theorem qt_cmpR (ho : OpQ X (compareOp op) r3) (ha : PE X a (liE E ta)) (hb : PE X b (liE E tb)) (hm : behindInMarks op b = false) : PT X (.Compare a [op] [b] pos) (liT E (eT (eOp r3 ta tb))) := by
 obtain ⟨r, ho, h⟩ := ho
 exact weakT (pt_cmpR ho ha hb hm) (test_sim (op_sim h))
def eChain (r r' : R3) (ta tb tc : E3) : E3 := fun Y τ Γ Z => ta Y τ Γ fun x Γ1 => tb Y τ Γ1 fun y Γ2 => r x y Γ2 fun z Γ3 => ∃ k, z = .bl k ∧ (if k = true then tc Y τ Γ3 fun w' Γ4 => r' y w' Γ4 Z else Z (.bl false) Γ3)
def eAnd (ta tb : E3) : E3 := fun Y τ Γ Z => ta Y τ Γ fun x Γ1 => ∃ c, x = .bl c ∧ if c = true then tb Y τ Γ1 Z else Z (.bl false) Γ1
def eOr (ta tb : E3) : E3 := fun Y τ Γ Z => ta Y τ Γ fun x Γ1 => ∃ c, x = .bl c ∧ if c = true then Z (.bl true) Γ1 else tb Y τ Γ1 Z
def eNot (ta : E3) : E3 := fun Y τ Γ Z => ta Y τ Γ fun x Γ1 => ∃ c, x = .bl c ∧ Z (.bl (!c)) Γ1
theorem qe_one {op} (h : PE X a (liE E ta)) : PE X (.BoolOp op [a] pos) (liE E ta) := pe_one h
theorem qe_and {rest : List Expr} (ha : PE X a (liE E ta)) (hb : PE X (.BoolOp .And (b :: rest) pos) (liE E tb)) : PE X (.BoolOp .And (a :: b :: rest) pos) (liE E (eAnd ta tb)) :=
 weakE3 (pe_and ha hb) fun σ H Q τ Γ Y Z rs hr t vr xr => by
  refine ⟨τ, Γ, Y, _, rs, hr, t, fun v x H1 Γ1 s1 h1 r1 z1 => ?_, xr⟩
  obtain ⟨k, rfl, z1⟩ := z1
  refine ⟨k, i_bl r1, ?_⟩
  cases k with
  | false => exact vr _ _ H1 Γ1 s1 h1 r_bl z1
  | true => exact ⟨τ, Γ1, Y, Z, rs.mono s1.tq, h1, z1, vr.mono s1, xr.mono s1⟩
theorem qe_not (ha : PE X a (liE E ta)) : PE X (.UnaryOp .Not a pos) (liE E (eNot ta)) :=
 weakE3 (pe_not ha) fun σ H Q τ Γ Y Z rs hr t vr xr => by
  refine ⟨τ, Γ, Y, _, rs, hr, t, fun v x H1 Γ1 s1 h1 r1 z1 => ?_, xr⟩
  obtain ⟨k, rfl, z1⟩ := z1
  exact ⟨k, i_bl r1, vr _ _ H1 Γ1 s1 h1 r_bl z1⟩
variable {tA tB : T3}
def bAnd (t u : T3) : T3 := fun Y τ Γ Z => t Y τ Γ fun c Γ1 => if c = true then u Y τ Γ1 Z else Z false Γ1
def bOr (t u : T3) : T3 := fun Y τ Γ Z => t Y τ Γ fun c Γ1 => if c = true then Z true Γ1 else u Y τ Γ1 Z
def bNot (t : T3) : T3 := fun Y τ Γ Z => t Y τ Γ fun c Γ1 => Z (!c) Γ1
theorem qw_and1 (ha : PT X a (liT E tA)) : PW X (.BoolOp .And [a] pos) (liT E tA) := pw_and1 ha
theorem qw_or1 (ha : PT X a (liT E tA)) : PW X (.BoolOp .Or [a] pos) (liT E tA) := pw_or1 ha
theorem qw_and {rest : List Expr} (ha : PT X a (liT E tA)) (hb : PW X (.BoolOp .And (b :: rest) pos) (liT E tB)) : PW X (.BoolOp .And (a :: b :: rest) pos) (liT E (bAnd tA tB)) :=
 weakW3 (pw_and ha hb) fun σ H Q τ Γ Y Z rs hr t vr xr => by
  refine ⟨τ, Γ, Y, _, rs, hr, t, fun k H1 Γ1 s1 h1 z1 => ?_, xr⟩
  cases k with
  | false => exact vr _ H1 Γ1 s1 h1 z1
  | true => exact ⟨τ, Γ1, Y, Z, rs.mono s1.tq, h1, z1, fun b H2 Γ2 s2 h2 z2 => vr b H2 Γ2 (s1.trans s2) h2 z2, xr.mono s1⟩
theorem qw_or {rest : List Expr} (ha : PT X a (liT E tA)) (hb : PW X (.BoolOp .Or (b :: rest) pos) (liT E tB)) : PW X (.BoolOp .Or (a :: b :: rest) pos) (liT E (bOr tA tB)) :=
 weakW3 (pw_or ha hb) fun σ H Q τ Γ Y Z rs hr t vr xr => by
  refine ⟨τ, Γ, Y, _, rs, hr, t, fun k H1 Γ1 s1 h1 z1 => ?_, xr⟩
  cases k with
  | true => exact vr _ H1 Γ1 s1 h1 z1
  | false => exact ⟨τ, Γ1, Y, Z, rs.mono s1.tq, h1, z1, fun b H2 Γ2 s2 h2 z2 => vr b H2 Γ2 (s1.trans s2) h2 z2, xr.mono s1⟩
theorem qt_not (ha : PT X a (liT E tA)) : PT X (.UnaryOp .Not a pos) (liT E (bNot tA)) :=
 weakT3 (pt_not ha) fun σ H Q τ Γ Y Z rs hr t vr xr => ⟨τ, Γ, Y, _, rs, hr, t, fun k H1 Γ1 s1 h1 z1 => vr _ H1 Γ1 s1 h1 z1, xr⟩
theorem qt_val {e : Expr} {t : E3} (h : PE X e (liE E t)) (he : ∀ whole, isTrue e X.env whole = (do let v ← whole; standAt e.pos; holding [v] (truthy v)) := by intro _; rfl) : PT X e (liT E (eT t)) :=
 weakT (pt_val h he) (test_sim (t2 := liE E t) fun _ _ _ q => q)
def eIf (c : T3) (ta tb : E3) : E3 := fun Y τ Γ Z => c Y τ Γ fun k Γ1 => if k = true then ta Y τ Γ1 Z else tb Y τ Γ1 Z
theorem qe_ifExp {c : Expr} (hc : PT X c (liT E tA)) (ha : PE X a (liE E ta)) (hb : PE X b (liE E tb)) : PE X (.IfExp c a b pos) (liE E (eIf tA ta tb)) :=
 weakE3 (pe_ifExp hc ha hb) fun σ H Q τ Γ Y Z rs hr t vr xr => by
  refine ⟨τ, Γ, Y, _, rs, hr, t, fun k H1 Γ1 s1 h1 z1 => ?_, xr⟩
  cases k with
  | true => exact ⟨τ, Γ1, Y, Z, rs.mono s1.tq, h1, z1, vr.mono s1, xr.mono s1⟩
  | false => exact ⟨τ, Γ1, Y, Z, rs.mono s1.tq, h1, z1, vr.mono s1, xr.mono s1⟩
end
section
variable {e : Expr} {es : List Expr} {te : E3} {t : A3} {pos : Pos}
def aNil : A3 := fun _ _ Γ Z => Z [] Γ
def aCons (ta : E3) (tr : A3) : A3 := fun Y τ Γ Z => ta Y τ Γ fun x Γ1 => tr Y τ Γ1 fun xs Γ2 => Z (x :: xs) Γ2
theorem qa_nil : PA X [] (liA E aNil) := weakA3 pa_nil fun σ H Q τ Γ Y Z rs hr t vr xr => vr [] [] H Γ .refl hr rs_nil t
theorem qa_cons (ha : PE X e (liE E te)) (hr : PA X es (liA E t)) (hs : starEach (e :: es) X.env = (false, eval e X.env) :: starEach es X.env := by rfl) : PA X (e :: es) (liA E (aCons te t)) :=
 weakA3 (pa_cons ha hr hs) fun σ H Q τ Γ Y Z rs hr t vr xr => by
  refine ⟨τ, Γ, Y, _, rs, hr, t, fun v x H1 Γ1 s1 h1 r1 z1 => ?_, xr⟩
  exact ⟨τ, Γ1, Y, _, rs.mono s1.tq, h1, z1, fun vs xs H2 Γ2 s2 h2 r2 z2 => vr (v :: vs) (x :: xs) H2 Γ2 (s1.trans s2) h2 (rs_cons (r1.mono s2.tq) r2) z2, xr.mono s1⟩
def eTup (t : A3) : E3 := fun Y τ Γ Z => t Y τ Γ fun xs Γ1 => xs.length ≤ sizeLine ∧ Z (.tup xs) Γ1
def eLst (t : A3) : E3 := fun Y τ Γ Z => t Y τ Γ fun xs Γ1 => xs.length ≤ sizeLine ∧ ∀ p, Γ1 p = none → Z (.ref p) (up Γ1 p (.lst xs))
theorem qe_tup {x1} (h : PA X es (liA E t)) : PE X (.Tuple es x1 pos) (liE E (eTup t)) :=
 weakE3 (pe_tup h) fun σ H Q τ Γ Y Z rs hr t vr xr => by
  refine ⟨τ, Γ, Y, _, rs, hr, t, fun vs xs H1 Γ1 s1 h1 r1 z1 => ?_, xr⟩
  refine ⟨by rw [r1.length]; exact z1.1, fun p hp => ?_⟩
  have k := keep_new (o := .tup vs) hp
  exact vr _ _ _ Γ1 (s1.trans (.keep k)) (h1.keep k) (r_tup upd_same (r1.mono (tq_kp k))) z1.2
theorem qe_lst (h : PA X es (liA E t)) : PE X (.List es pos) (liE E (eLst t)) :=
 weakE3 (pe_lst h) fun σ H Q τ Γ Y Z rs hr t vr xr => by
  refine ⟨τ, Γ, Y, _, rs, hr, t, fun vs xs H1 Γ1 s1 h1 r1 z1 => ?_, xr⟩
  refine ⟨by rw [r1.length]; exact z1.1, fun p hp => ?_⟩
  have k := keep_new (o := .lst vs) hp
  exact vr _ _ _ _ (s1.trans (.make hp)) (h1.make (o3 := .lst xs) hp ⟨vs, upd_same, r1.mono (tq_kp k)⟩) r_ref (z1.2 p (h1.free hp))
end
abbrev Sp3 := List T → Gp → K3 → (Value → Gp → Prop) → Prop
def liSp (sp : Sp3) : Sp := fun vs H Q E => ∃ ts Γ Z Y, Rs H vs ts ∧ HR H Γ ∧ sp ts Γ Z Y ∧ VR H Γ Z Q ∧ ∀ C H' Γ', Stp H Γ H' Γ' → HR H' Γ' → Y C Γ' → E C none H'
abbrev Cl3 (P : Program) (w : World) (K : PySem.W.Frag) (mg : Str → Option Value) (base : Heap) (x : Str) (k : Nat) (ps : List Str) (sp : Sp3) : Prop := Callee P w K mg base x k ps (liSp sp)
def eCall (sp : Sp3) (t : A3) : E3 := fun Y τ Γ Z => t Y τ Γ fun xs Γ1 => sp xs Γ1 Z fun _ _ => False
def eCallX (sp : Sp3) (t : A3) : E3 := fun Y τ Γ Z => t Y τ Γ fun xs Γ1 => sp xs Γ1 Z (Y τ)
section
variable {x : Str} {k j : Nat} {ps : List Str} {sp : Sp3} {p pos : Pos} {e : Expr} {es : List Expr} {t : A3}
theorem qe_call (c : Cl3 X.prog X.w X.K X.mg X.base x k ps sp) (hr : Room j X.A) (hk : k ≤ j) (hg : Gl X x) (ha : PA X (e :: es) (liA E t)) (hdb : (x == ("__debug__" : Str)) = false := by decide)
  (he : starEach (e :: es) X.env = (false, eval e X.env) :: starEach es X.env := by rfl) (hpl : (backTo pos (starEach es X.env)).any (·.1) = false := by rfl) : PE X (.Call (.Name x p) (e :: es) [] pos) (liE E (eCall sp t)) :=
 weakE3 (pe_callC c hr hk hg ha hdb he hpl) fun σ H Q τ Γ Y Z rs hr t vr xr => by
  refine ⟨τ, Γ, Y, _, rs, hr, t, fun vs xs H1 Γ1 s1 h1 r1 z1 => ?_, xr⟩
  show liSp sp (vs ++ []) H1 Q E0
  rw [List.append_nil]
  exact ⟨xs, Γ1, Z, _, r1, h1, z1, vr.mono s1, fun _ _ _ _ _ z => z.elim⟩
end
end
end L3
set_option Elab.async false
set_option linter.all false
set_option maxRecDepth 100000
namespace L3
open PySem PySem.Spec L2
open PyProof.Rows hiding St
section
variable {X : Cx} {E : St → XK} {st : Stmt} {sts : List Stmt} {e : Expr} {te : E3} {pos : Pos} {t u : C3}
def cNext : C3 := fun _ D τ Γ => D.nx τ Γ
def cCont : C3 := fun _ D τ Γ => D.ct τ Γ
def cSeq (t u : C3) : C3 := fun Y D τ Γ => t Y { D with nx := u Y D } τ Γ
def cDrop (te : E3) : C3 := fun Y D τ Γ => te Y τ Γ fun _ Γ1 => D.nx τ Γ1
def cRet (te : E3) : C3 := fun Y D τ Γ => te Y τ Γ D.rt
def cRetN : C3 := fun _ D _ Γ => D.rt .non Γ
def cIf (c : T3) (t u : C3) : C3 := fun Y D τ Γ => c Y τ Γ fun b Γ1 => if b = true then t Y D τ Γ1 else u Y D τ Γ1
theorem qss_nil : PSs X [] (liS E cNext) := weakSs3 pss_nil fun D σ H τ Γ Y Z rs hr t dr xr => dr.nx σ τ H Γ .refl hr rs t
theorem qss_cons (h1 : PS X st (liS E t)) (h2 : PSs X sts (liS E u)) : PSs X (st :: sts) (liS E (cSeq t u)) :=
 weakSs3 (pss_cons h1 h2) fun D σ H τ Γ Y Z rs hr t dr xr =>
  ⟨τ, Γ, Y, _, rs, hr, t, ⟨fun σ' τ' H' Γ' s h r z => ⟨τ', Γ', Y, Z, r, h, z, dr.mono s, xr.mono s⟩, dr.rt, dr.bk, dr.ct⟩, xr⟩
theorem qs_expr (he : PE X e (liE E te)) (hs : swapsWith e none pos.line X.env = pure false := by rfl) : PS X (.Expr e pos) (liS E (cDrop te)) :=
 weakS3 (ps_expr he hs) fun D σ H τ Γ Y Z rs hr t dr xr => ⟨τ, Γ, Y, _, rs, hr, t, fun v x H' Γ' s h r z => dr.nx σ τ H' Γ' s h (rs.mono s.tq) z, xr⟩
theorem qs_ret (he : PE X e (liE E te)) : PS X (.Return (some e) pos) (liS E (cRet te)) :=
 weakS3 (ps_ret he) fun D σ H τ Γ Y Z rs hr t dr xr => ⟨τ, Γ, Y, _, rs, hr, t, dr.rt, xr⟩
theorem qs_if {c : Expr} {a b : List Stmt} {tc : T3} (hc : PT X c (liT E tc)) (ha : PSs X a (liS E t)) (hb : PSs X b (liS E u)) : PS X (.If c a b pos) (liS E (cIf tc t u)) :=
 weakS3 (ps_if hc ha hb) fun D σ H τ Γ Y Z rs hr t dr xr => by
  refine ⟨τ, Γ, Y, _, rs, hr, t, fun k H1 Γ1 s1 h1 z1 => ?_, xr⟩
  cases k with
  | true => exact ⟨τ, Γ1, Y, Z, rs.mono s1.tq, h1, z1, dr.mono s1, xr.mono s1⟩
  | false => exact ⟨τ, Γ1, Y, Z, rs.mono s1.tq, h1, z1, dr.mono s1, xr.mono s1⟩
def cCut (t : C3) : C3 := fun Y D τ Γ => ∃ P : S3 → Gp → Prop, t Y { D with nx := P } τ Γ ∧ ∀ τ Γ, P τ Γ → D.nx τ Γ
theorem qs_cut (h : PS X st (liS E t)) : PS X st (liS E (cCut t)) :=
 weakS3 h fun D σ H τ Γ Y Z rs hr q0 dr xr => by obtain ⟨P, t, k⟩ := q0; exact ⟨τ, Γ, Y, _, rs, hr, t, ⟨fun σ' τ' H' Γ' s h r z => dr.nx σ' τ' H' Γ' s h r (k _ _ z), dr.rt, dr.bk, dr.ct⟩, xr⟩
abbrev G3 := X3 → T → S3 → Gp → (S3 → Gp → Prop) → Prop
abbrev Gs3 := X3 → List T → S3 → Gp → (S3 → Gp → Prop) → Prop
def liG (E : St → XK) (g : G3) : TG := fun v σ H Q => ∃ x τ Γ Y Z, R H v x ∧ RS H σ τ ∧ HR H Γ ∧ g Y x τ Γ Z ∧ NR H Γ Z Q ∧ XR H Γ Y E
def liGs (E : St → XK) (g : Gs3) : TGs := fun v σ H Q => ∃ x τ Γ Y Z, Rs H v x ∧ RS H σ τ ∧ HR H Γ ∧ g Y x τ Γ Z ∧ NR H Γ Z Q ∧ XR H Γ Y E
theorem weakG3 {e : Expr} {t0 : TG} {t : G3} (h : PG X e t0) (w : ∀ v σ H Q x τ Γ Y Z, R H v x → RS H σ τ → HR H Γ → t Y x τ Γ Z → NR H Γ Z Q → XR H Γ Y E → t0 v σ H Q) : PG X e (liG E t) :=
 weakG h (by rintro v σ H Q ⟨x, τ, Γ, Y, Z, r, rs, hr, q, nr, xr⟩; exact w v σ H Q x τ Γ Y Z r rs hr q nr xr)
theorem weakGs3 {e : List Expr} {t0 : TGs} {t : Gs3} (h : PGs X e t0) (w : ∀ v σ H Q x τ Γ Y Z, Rs H v x → RS H σ τ → HR H Γ → t Y x τ Γ Z → NR H Γ Z Q → XR H Γ Y E → t0 v σ H Q) : PGs X e (liGs E t) :=
 weakGs h (by rintro v σ H Q ⟨x, τ, Γ, Y, Z, r, rs, hr, q, nr, xr⟩; exact w v σ H Q x τ Γ Y Z r rs hr q nr xr)
def hName (i : Nat) : G3 := fun _ x τ Γ Z => Z (τ.set i (some x)) Γ
def hNil : Gs3 := fun _ xs τ Γ Z => xs = [] ∧ Z τ Γ
def hCons (g : G3) (gs : Gs3) : Gs3 := fun Y xs τ Γ Z => ∃ x r, xs = x :: r ∧ g Y x τ Γ fun τ1 Γ1 => gs Y r τ1 Γ1 Z
def hTup (n : Nat) (gs : Gs3) : G3 := fun Y x τ Γ Z => ∃ ts, x = .tup ts ∧ ts.length = n ∧ gs Y ts τ Γ Z
theorem qg_name {i : Nat} {x : Str} (hN : X.N.Nodup) (hi : X.N[i]? = some x) (hx : Loc X.env.scope x) (hf : X.fn x = true ∨ X.env.scope.names.lookup x = some .local := by first | exact .inl rfl | exact .inr rfl | assumption) : PG X (.Name x pos) (liG E (hName i)) :=
 weakG3 (pg_name hN hi hx hf) fun v σ H Q x τ Γ Y Z r rs hr t nr xr => nr _ _ H Γ .refl hr (rs.set r i) t
theorem qgs_nil : PGs X [] (liGs E hNil) := weakGs3 pgs_nil fun v σ H Q x τ Γ Y Z r rs hr q0 nr xr => by
 obtain ⟨e, t⟩ := q0
 subst e
 exact ⟨rs_inv0 r, nr _ _ H Γ .refl hr rs t⟩
theorem qgs_cons {es : List Expr} {g : G3} {gs : Gs3} (h1 : PG X e (liG E g)) (h2 : PGs X es (liGs E gs)) (hs : (assignEach (e :: es) X.env).map (·.2) = assign e X.env :: (assignEach es X.env).map (·.2) := by rfl) : PGs X (e :: es) (liGs E (hCons g gs)) :=
 weakGs3 (pgs_cons h1 h2 hs) fun v σ H Q x τ Γ Y Z r rs hr q0 nr xr => by
  obtain ⟨y, ys, e, t⟩ := q0
  subst e
  obtain ⟨w, ws, rfl, r1, r2⟩ := rs_inv r
  refine ⟨w, ws, rfl, y, τ, Γ, Y, _, r1, rs, hr, t, fun σ' τ' H' Γ' s h r z => ?_, xr⟩
  exact ⟨ys, τ', Γ', Y, Z, r2.mono s.tq, r, h, z, nr.mono s, xr.mono s⟩
theorem qg_tup {es : List Expr} {k : Nat} {gs : Gs3} {n : Nat} (hc : X.calm = true) (h : PGs X es (liGs E gs))
  (hn : (assignEach es X.env).length = n := by rfl) (hst : (assignEach es X.env).findIdx? (·.1) = none := by rfl) : PG X (.Tuple es k pos) (liG E (hTup n gs)) :=
 weakG3 (pg_tup hc h hn hst) fun v σ H Q x τ Γ Y Z r rs hr q0 nr xr => by
  obtain ⟨ts, e, l, t⟩ := q0
  subst e
  obtain ⟨a, vs, rfl, ha, r⟩ := i_tup r
  exact ⟨a, vs, rfl, SqT.of ha, by rw [r.length]; exact l, ts, τ, Γ, Y, Z, r, rs, hr, t, nr, xr⟩
def hSub (to ti : E3) : G3 := fun Y v τ Γ Z => to Y τ Γ fun o Γ1 => ti Y τ Γ1 fun i Γ2 => ∃ a ts k j, o = .ref a ∧ i = .int k ∧ Γ2 a = some (.lst ts) ∧ ixN ts.length k = some j ∧ Z τ (up Γ2 a (.lst (ts.set j v)))
theorem qg_sub {o i : Expr} {to ti : E3} (ho : PE X o (liE E to)) (hi : PE X i (liE E ti))
  (ha : ∀ v, assign (.Subscript o i pos) X.env v = (do
   let ov ← holding [v] (eval o X.env)
   let iv ← holding [v, ov] (eval i X.env)
   standAt pos
   holding [v, ov, iv] (setItem ov iv v)
   release [v, ov, iv] []) := by intro _; rfl) : PG X (.Subscript o i pos) (liG E (hSub to ti)) :=
 weakG3 (pg_sub ho hi set_list ha) fun v σ H Q x τ Γ Y Z r rs hr t nr xr => by
  refine ⟨τ, Γ, Y, _, rs, hr, t, fun ov o H1 Γ1 s1 h1 r1 z1 => ?_, xr⟩
  refine ⟨τ, Γ1, Y, _, rs.mono s1.tq, h1, z1, fun iv i H2 Γ2 s2 h2 r2 z2 => ?_, xr.mono s1⟩
  obtain ⟨a, ts, k, j, rfl, rfl, ga, hj, z⟩ := z2
  obtain ⟨vs, hv, rv⟩ := h2 a _ ga
  refine ⟨a, vs, k, j, i_ref r1, i_int r2, hv, by rw [rv.length]; exact hj, ?_⟩
  have s3 : Stp H2 Γ2 (upd H2 a (.lst (vs.set j v))) (up Γ2 a (.lst (ts.set j x))) := .set h2 ga
  exact nr σ τ _ _ ((s1.trans s2).trans s3) (h2.set ga ⟨_, upd_same, Rs.set j (rv.mono s3.tq) (r.mono ((s1.trans s2).trans s3).tq)⟩) (rs.mono ((s1.trans s2).trans s3).tq) z
def cAsg (te : E3) (g : G3) : C3 := fun Y D τ Γ => te Y τ Γ fun x Γ1 => g Y x τ Γ1 D.nx
theorem asg_sim {te : E3} {g : G3} (D : Ends) (σ : St) (H : Hp) (q : liS E (cAsg te g) D σ H) : tAsg (liE E te) (liG E g) D σ H := by
 obtain ⟨τ, Γ, Y, Z, rs, hr, t, dr, xr⟩ := q
 exact ⟨τ, Γ, Y, _, rs, hr, t, fun v x H1 Γ1 s1 h1 r1 z1 => ⟨x, τ, Γ1, Y, _, r1, rs.mono s1.tq, h1, z1, dr.nx.mono s1, xr.mono s1⟩, xr⟩
theorem qs_asg {tg e : Expr} {te : E3} {g : G3} (he : PE X e (liE E te)) (hg : PG X tg (liG E g)) (hs : swapsWithSole [tg] e pos.line X.env = pure false := by rfl) (hw : swappedStores [tg] e X.env = pure none := by rfl)
  (h1 : (assignEach [tg] X.env).map (·.2) = [assign tg X.env] := by rfl) : PS X (.Assign [tg] e pos) (liS E (cAsg te g)) := weakS (ps_asg he hg hs hw h1) asg_sim
def cSet (i : Nat) (te : E3) : C3 := fun Y D τ Γ => te Y τ Γ fun x Γ1 => D.nx (τ.set i (some x)) Γ1
theorem qs_set {i : Nat} {x : Str} {e : Expr} {te : E3} {pos' : Pos} (hN : X.N.Nodup) (hi : X.N[i]? = some x) (hx : Loc X.env.scope x) (he : PE X e (liE E te)) (hs : swapsWith e (some (.Name x pos')) pos.line X.env = pure false := by rfl) (hf : X.fn x = true ∨ X.env.scope.names.lookup x = some .local := by first | exact .inl rfl | exact .inr rfl | assumption) :
  PS X (.Assign [.Name x pos'] e pos) (liS E (cSet i te)) := weakS3 (ps_set hN hi hx he hs hf) fun D σ H τ Γ Y Z rs hr t dr xr =>
   ⟨τ, Γ, Y, _, rs, hr, t, fun v x H1 Γ1 s1 h1 r1 z1 => dr.nx _ _ H1 Γ1 s1 h1 ((rs.mono s1.tq).set r1 i) z1, xr⟩
def cAug (i : Nat) (te : E3) (r : R3) : C3 := fun Y D τ Γ => ∃ x, τ[i]? = some (some x) ∧ te Y τ Γ fun y Γ1 => r x y Γ1 fun z Γ2 => D.nx (τ.set i (some z)) Γ2
theorem qs_aug {i : Nat} {x : Str} {e : Expr} {te : E3} {op : Operator} {r3 : R3} {pos' : Pos} (hN : X.N.Nodup) (hi : X.N[i]? = some x) (hx : Loc X.env.scope x) (he : PE X e (liE E te)) (ho : OpQ X (inplaceOp op) r3) (hf : X.fn x = true ∨ X.env.scope.names.lookup x = some .local := by first | exact .inl rfl | exact .inr rfl | assumption) :
  PS X (.AugAssign (.Name x pos') op e pos) (liS E (cAug i te r3)) := by
 obtain ⟨r, ho, h⟩ := ho
 refine weakS (ps_aug (ti := r) hN hi hx he ho hf) fun D σ H ⟨τ, Γ, Y, Z, rs, hr, ⟨x, e, t⟩, dr, xr⟩ => ?_
 obtain ⟨v, ev, rv⟩ := rs.get e
 refine ⟨v, ev, τ, Γ, Y, _, rs, hr, t, fun w y H1 Γ1 s1 h1 r1 z1 => ?_, xr⟩
 refine h v w x y H1 Γ1 _ _ (rv.mono s1.tq) r1 h1 z1 fun u z H2 Γ2 s2 h2 r2 z2 => ?_
 exact dr.nx _ _ H2 Γ2 (s1.trans s2) h2 ((rs.mono (s1.trans s2).tq).set r2 i) z2
structure Walks (J : It) (ts : List T) (gd : Gp → Prop) (H0 : Hp) : Prop where
 go : ∀ i H Γ, Tq H0 H → HR H Γ → gd Γ → i < ts.length → J.go i H
 yld : ∀ i H Γ x H', Tq H0 H → HR H Γ → gd Γ → i < ts.length → J.yld i H x H' → Stp H Γ H' Γ ∧ HR H' Γ ∧ ∃ t, ts[i]? = some t ∧ R H' x t
 stop : ∀ H Γ, Tq H0 H → HR H Γ → gd Γ → J.stop ts.length H
abbrev I3 := X3 → S3 → Gp → (List T → (Gp → Prop) → Gp → Prop) → Prop
def liI (E : St → XK) (wi : I3) : TI := fun σ H Q => ∃ τ Γ Y Z, RS H σ τ ∧ HR H Γ ∧ wi Y τ Γ Z ∧ (∀ J ts gd H' Γ', Stp H Γ H' Γ' → HR H' Γ' → Walks J ts gd H' → Z ts gd Γ' → Q J H') ∧ XR H Γ Y E
theorem weakI3 {tg e : Expr} {t0 : TI} {t : I3} (h : PI X tg e t0) (w : ∀ σ H Q τ Γ Y Z, RS H σ τ → HR H Γ → t Y τ Γ Z → (∀ J ts gd H' Γ', Stp H Γ H' Γ' → HR H' Γ' → Walks J ts gd H' → Z ts gd Γ' → Q J H') → XR H Γ Y E → t0 σ H Q) : PI X tg e (liI E t) :=
 weakI h (by rintro σ H Q ⟨τ, Γ, Y, Z, rs, hr, q, vr, xr⟩; exact w σ H Q τ Γ Y Z rs hr q vr xr)
def wFor (gd : Gp → Prop) (g : G3) (tb : C3) (Y : X3) (D : D3) (ts : List T) (τ : S3) (Γ : Gp) : Prop := ∃ P : List T → S3 → Gp → Prop, P ts τ Γ ∧ (∀ τ Γ, P [] τ Γ → gd Γ ∧ D.nx τ Γ) ∧
 ∀ x r τ Γ, P (x :: r) τ Γ → gd Γ ∧ g Y x τ Γ fun τ2 Γ2 => tb Y { D with nx := P r, ct := P r, bk := D.nx } τ2 Γ2
def cFor (wi : I3) (g : G3) (tb : C3) : C3 := fun Y D τ Γ => wi Y τ Γ fun ts gd Γ1 => wFor gd g tb Y D ts τ Γ1
theorem drop_cons {α : Type} {xs : List α} {i : Nat} (h : i < xs.length) : xs.drop i = xs[i] :: xs.drop (i + 1) := List.drop_eq_getElem_cons h
theorem qs_for {iter : Expr} {body : List Stmt} {wi : I3} {g : G3} {tb : C3} {tg : Expr} (hp : PassesOwn (model X.prog X.w) X.A X.env X.xe) (hc : X.calm = true) (hi : PI X tg iter (liI E wi)) (hg : PG X tg (liG E g)) (hb : PSs X body (liS E tb))
  (hs : ∀ x, foldedSetIterable iter X.env x = pure x := by intro _; rfl) : PS X (.For tg iter body [] pos) (liS E (cFor wi g tb)) :=
 weakS3 (ps_for hp hc hi hg hb hs) fun D σ H τ Γ Y Z rs hr t dr xr => by
  refine ⟨τ, Γ, Y, _, rs, hr, t, fun J ts gd H1 Γ1 s1 h1 wk ⟨P, z1, p0, pc⟩ => ?_, xr⟩
  refine ⟨fun i m σ' H' => ∃ τ' Γ', i ≤ ts.length ∧ m = ts.length - i ∧ RS H' σ' τ' ∧ HR H' Γ' ∧ Stp H1 Γ1 H' Γ' ∧ P (ts.drop i) τ' Γ', ⟨ts.length, τ, Γ1, Nat.zero_le _, rfl, rs.mono s1.tq, h1, .refl, z1⟩, ?_⟩
  rintro i m σ2 H2 ⟨τ2, Γ2, hi, rfl, rs2, h2, s2, w2⟩
  by_cases hlt : i < ts.length
  ·rw [drop_cons hlt] at w2
   obtain ⟨g2, w2⟩ := pc _ _ _ _ w2
   refine .inr ⟨wk.go i H2 Γ2 s2.tq h2 g2 hlt, fun σ' H' => ∃ τ' Γ', RS H' σ' τ' ∧ HR H' Γ' ∧ Stp H1 Γ1 H' Γ' ∧ P (ts.drop (i + 1)) τ' Γ', fun σ' H' ⟨τ', Γ', a, b, c, d⟩ => ⟨ts.length - (i + 1), by omega, τ', Γ', hlt, rfl, a, b, c, d⟩, fun x H3 yl => ?_⟩
   obtain ⟨s3, h3, x3, e3, r3⟩ := wk.yld i H2 Γ2 x H3 s2.tq h2 g2 hlt yl
   rw [List.getElem?_eq_getElem hlt] at e3
   cases e3
   refine ⟨_, τ2, Γ2, Y, _, r3, rs2.mono s3.tq, h3, w2, fun σ4 τ4 H4 Γ4 s4 h4 r4 z4 => ?_, xr.mono ((s1.trans s2).trans s3)⟩
   have s5 := (s2.trans s3).trans s4
   refine ⟨τ4, Γ4, Y, _, r4, h4, z4, ⟨fun σ' τ' H' Γ' s h r z => ⟨τ', Γ', r, h, s5.trans s, z⟩, dr.rt.mono (s1.trans s5), dr.nx.mono (s1.trans s5), fun σ' τ' H' Γ' s h r z => ⟨τ', Γ', r, h, s5.trans s, z⟩⟩, xr.mono (s1.trans s5)⟩
  ·have e : i = ts.length := by omega
   subst e
   rw [List.drop_length] at w2
   have w2 := p0 _ _ w2
   exact .inl ⟨wk.stop H2 Γ2 s2.tq h2 w2.1, dr.nx σ2 τ2 H2 Γ2 (s1.trans s2) h2 rs2 w2.2⟩
def cWhile (c : T3) (tb : C3) : C3 := fun Y D τ Γ => ∃ W : Nat → S3 → Gp → Prop, (∃ m, W m τ Γ) ∧ ∀ m τ Γ, W m τ Γ →
 c Y τ Γ fun b Γ1 => if b = true then ∃ N : S3 → Gp → Prop, (∀ τ' Γ', N τ' Γ' → ∃ m', m' < m ∧ W m' τ' Γ') ∧ tb Y { D with nx := N, ct := N, bk := D.nx } τ Γ1 else D.nx τ Γ1
theorem qs_while {c : Expr} {body : List Stmt} {tc : T3} {tb : C3} (hp : PassesOwn (model X.prog X.w) X.A X.env X.xe) (hc : PT X c (liT E tc)) (hb : PSs X body (liS E tb)) : PS X (.While c body [] pos) (liS E (cWhile tc tb)) :=
 weakS3 (ps_while hp hc hb) fun D σ H τ Γ Y Z rs hr q0 dr xr => by
  obtain ⟨W, ⟨m0, w0⟩, turn⟩ := q0
  refine ⟨fun m σ' H' => ∃ τ' Γ', RS H' σ' τ' ∧ HR H' Γ' ∧ Stp H Γ H' Γ' ∧ W m τ' Γ', ⟨m0, τ, Γ, rs, hr, .refl, w0⟩, ?_⟩
  rintro m σ1 H1 ⟨τ1, Γ1, rs1, h1, s1, w1⟩
  refine ⟨τ1, Γ1, Y, _, rs1, h1, turn m τ1 Γ1 w1, fun k H2 Γ2 s2 h2 z2 => ?_, xr.mono s1⟩
  cases k with
  | false => exact dr.nx σ1 τ1 H2 Γ2 (s1.trans s2) h2 (rs1.mono s2.tq) z2
  | true =>
   obtain ⟨N, hN, z2⟩ := z2
   refine ⟨fun σ' H' => ∃ τ' Γ', RS H' σ' τ' ∧ HR H' Γ' ∧ Stp H Γ H' Γ' ∧ N τ' Γ', fun σ' H' ⟨τ', Γ', a, b, c, d⟩ => ?_, ?_⟩
   ·obtain ⟨m', hm, w'⟩ := hN τ' Γ' d
    exact ⟨m', hm, τ', Γ', a, b, c, w'⟩
   ·have s3 := s1.trans s2
    exact ⟨τ1, Γ2, Y, _, rs1.mono s2.tq, h2, z2, ⟨fun σ' τ' H' Γ' s h r z => ⟨τ', Γ', r, h, s3.trans s, z⟩, dr.rt.mono s3, dr.nx.mono s3, fun σ' τ' H' Γ' s h r z => ⟨τ', Γ', r, h, s3.trans s, z⟩⟩, xr.mono s3⟩
def cSt (own : List Str) (cap : List (Nat × Str)) (τ : S3) : S3 := List.replicate own.length none ++ cap.map fun p => (τ[p.1]?).getD none
theorem rs_app {H : Hp} : ∀ {a : St} {b : S3} {c : St} {d : S3}, RS H a b → RS H c d → RS H (a ++ c) (b ++ d)
 | [], [], _, _, _, h => h
 | _ :: _, _ :: _, _, _, h, q => ⟨h.1, rs_app h.2 q⟩
 | [], _ :: _, _, _, h, _ => h.elim
 | _ :: _, [], _, _, h, _ => h.elim
theorem rs_rep {H : Hp} : ∀ n : Nat, RS H (List.replicate n none) (List.replicate n none)
 | 0 => trivial
 | n + 1 => ⟨trivial, rs_rep n⟩
theorem rs_comp {H : Hp} {σ : St} {τ : S3} (own : List Str) (h : RS H σ τ) : ∀ cap : List (Nat × Str), RS H (compSt own cap σ) (cSt own cap τ) := fun cap => by
 refine rs_app (rs_rep _) ?_
 induction cap with
 | nil => exact trivial
 | cons p r ih =>
  refine ⟨?_, ih⟩
  show RO1 H ((σ[p.1]?).getD none) ((τ[p.1]?).getD none)
  cases e : τ[p.1]? with
  | none => exact trivial
  | some o =>
   cases o with
   | none => exact trivial
   | some x =>
    obtain ⟨v, ev, rv⟩ := h.get e
    rw [ev]
    exact rv
abbrev Y0 : X3 := fun _ _ _ => False
def wComp (gd : Gp → Prop) (g : G3) (tc : T3) (te : E3) (C : List T → Gp → Prop) (ts : List T) (τ : S3) (ys : List T) (Γ : Gp) : Prop := ∃ P : List T → S3 → List T → Gp → Prop, P ts τ ys Γ ∧ (∀ τ ys Γ, P [] τ ys Γ → gd Γ ∧ C ys Γ) ∧
 ∀ x r τ ys Γ, P (x :: r) τ ys Γ → gd Γ ∧ g Y0 x τ Γ fun τ3 Γ3 => tc Y0 τ3 Γ3 fun b Γ4 => if b = true then te Y0 τ3 Γ4 fun y Γ5 => P r τ3 (ys ++ [y]) Γ5 else P r τ3 ys Γ4
def eComp (wi : I3) (g : G3) (tc : T3) (te : E3) (own : List Str) (cap : List (Nat × Str)) : E3 := fun Y τ Γ Z => wi Y τ Γ fun ts gd Γ1 => ts.length ≤ sizeLine ∧
 wComp gd g tc te (fun ys Γ2 => ∀ D, Γ2 D = none → Z (.ref D) (up Γ2 D (.lst ys))) ts (cSt own cap τ) [] Γ1
abbrev EN : St → XK := fun _ => E0
theorem xr0 {H : Hp} {Γ : Gp} : XR H Γ Y0 EN := fun _ _ _ _ _ _ _ _ z => z.elim
theorem comp_sim {wi : I3} {g : G3} {tc : T3} {te : E3} {own : List Str} {cap : List (Nat × Str)} (σ : St) (H : Hp) (Q : VK) (q : liE E (eComp wi g tc te own cap) σ H Q) : tComp (liI E wi) (liG EN g) (liT EN tc) (liE EN te) own cap σ H Q := by
 obtain ⟨τ, Γ, Y, Z, rs, hr, t, vr, xr⟩ := q
 refine ⟨τ, Γ, Y, _, rs, hr, t, fun J ts gd H1 Γ1 s1 h1 wk ⟨hz, P, z1, p0, pc⟩ => ?_, xr⟩
 intro D hD
 have nl : ∀ vs : List V, (∀ us : List V, HO.lst vs ≠ .tup us) ∧ ∀ b w, HO.lst vs ≠ .frz b w := fun _ => ⟨fun _ z => (nomatch z), fun _ _ z => (nomatch z)⟩
 refine ⟨fun i m σ' vs H' => ∃ τ' ys Γ', i ≤ ts.length ∧ m = ts.length - i ∧ vs.length ≤ i ∧ RS H' σ' τ' ∧ HR H' Γ' ∧ H' D = some (.lst vs) ∧ Γ' D = none ∧ Rs H' vs ys ∧ Stp H1 Γ1 H' Γ' ∧ P (ts.drop i) τ' ys Γ',
  ⟨ts.length, cSt own cap τ, [], Γ1, Nat.zero_le _, rfl, Nat.le_refl _, (rs_comp own (rs.mono s1.tq) cap).mono (tq_kp (keep_new hD)), h1.keep (keep_new hD), upd_same, h1.free hD, rs_nil, .keep (keep_new hD), z1⟩, ?_⟩
 rintro i m σ2 vs H2 ⟨τ2, ys, Γ2, hi, rfl, hv, rs2, h2, d2, gD, ry, s2, w2⟩
 refine ⟨d2, ?_⟩
 by_cases hlt : i < ts.length
 ·rw [drop_cons hlt] at w2
  obtain ⟨g2, w2⟩ := pc _ _ _ _ _ w2
  refine .inr ⟨wk.go i H2 Γ2 s2.tq h2 g2 hlt, by omega, fun σ' ws H' => ∃ τ' ys Γ', ws.length ≤ i + 1 ∧ RS H' σ' τ' ∧ HR H' Γ' ∧ H' D = some (.lst ws) ∧ Γ' D = none ∧ Rs H' ws ys ∧ Stp H1 Γ1 H' Γ' ∧ P (ts.drop (i + 1)) τ' ys Γ',
   fun σ' ws H' ⟨τ', ys, Γ', a, b, c, d, e, f, k, l⟩ => ⟨ts.length - (i + 1), by omega, τ', ys, Γ', hlt, rfl, a, b, c, d, e, f, k, l⟩, fun x H3 yl => ?_⟩
  obtain ⟨s3, h3, x3, e3, r3⟩ := wk.yld i H2 Γ2 x H3 s2.tq h2 g2 hlt yl
  rw [List.getElem?_eq_getElem hlt] at e3
  cases e3
  refine ⟨_, τ2, Γ2, Y0, _, r3, rs2.mono s3.tq, h3, w2, fun σ4 τ4 H4 Γ4 s4 h4 r4 z4 => ?_, xr0⟩
  refine ⟨τ4, Γ4, Y0, _, r4, h4, z4, fun k H5 Γ5 s5 h5 z5 => ?_, xr0⟩
  have s35 := (s3.trans s4).trans s5
  have d5 : H5 D = some (.lst vs) := s35.frm D _ d2 gD
  have g5 : Γ5 D = none := s35.new D (by rw [d2]; exact fun z => nomatch z) gD
  cases k with
  | false => exact ⟨τ4, ys, Γ5, Nat.le_succ_of_le hv, r4.mono s5.tq, h5, d5, g5, ry.mono s35.tq, s2.trans s35, z5⟩
  | true =>
   refine ⟨τ4, Γ5, Y0, _, r4.mono s5.tq, h5, z5, fun y y' H6 Γ6 s6 h6 r6 z6 => ?_, xr0⟩
   have s36 := s35.trans s6
   have d6 : H6 D = some (.lst vs) := s36.frm D _ d2 gD
   have g6 : Γ6 D = none := s36.new D (by rw [d2]; exact fun z => nomatch z) gD
   have tq : Tq H6 (upd H6 D (.lst (vs ++ [y]))) := tq_set d6 (nl vs)
   refine ⟨d6, τ4, ys ++ [y'], Γ6, by rw [List.length_append]; exact Nat.succ_le_succ hv, (r4.mono (s5.trans s6).tq).mono tq, h6.hide g6 d6 (nl vs), upd_same, g6, Rs.app ((ry.mono s36.tq).mono tq) (rs_cons (r6.mono tq) rs_nil), ?_, z6⟩
   have s7 := s2.trans s36
   refine ⟨s7.tq.trans tq, fun a h z => ?_, s7.new, fun a o h g => ?_⟩
   ·by_cases e : a = D
    ·subst e; exact h hD
    ·rw [upd_ne e] at z; exact s7.dom a h z
   ·have e : a ≠ D := fun e => by subst e; rw [hD] at h; cases h
    rw [upd_ne e]; exact s7.frm a o h g
 ·have e : i = ts.length := by omega
  subst e
  rw [List.drop_length] at w2
  have w2 := p0 _ _ _ w2
  refine .inl ⟨wk.stop H2 Γ2 s2.tq h2 w2.1, ?_⟩
  have s12 := s1.trans s2
  refine vr (.ref D) (.ref D) H2 (up Γ2 D (.lst ys)) ⟨s12.tq, s12.dom, fun a h g => ?_, s12.frm⟩ (fun a o g => ?_) r_ref (w2.2 D gD)
  ·have e : a ≠ D := fun e => by subst e; exact s1.dom _ h hD
   rw [up_ne e]; exact s12.new a h g
  ·by_cases e : a = D
   ·subst e; rw [up_same] at g; cases g; exact ⟨vs, d2, ry⟩
   ·rw [up_ne e] at g; exact h2 a o g
section
variable {scope : Scope} {cl : List (Str × Addr)} {own : List Str} {cap : List (Nat × Str)} {tg iter elt : Expr} {ifs : List Expr} {wi : I3} {g : G3} {tc : T3} {te : E3}
theorem qe_comp (c : CompOk X scope cl own cap) (hc : X.calm = true) (hi : PI X tg iter (liI E wi))
  (hg : ∀ C s H fp, PG (compCx X (own ++ cap.map (·.2)) scope cl C s H fp fun _ _ => False) tg (liG EN g)) (ht : ∀ C s H fp, PTs (compCx X (own ++ cap.map (·.2)) scope cl C s H fp fun _ _ => False) ifs (liT EN tc))
  (he : ∀ C s H fp, PE (compCx X (own ++ cap.map (·.2)) scope cl C s H fp fun _ _ => False) elt (liE EN te)) (hs : ∀ x, foldedSetIterable iter X.env x = pure x := by intro _; rfl) :
  PE X (.ListComp elt [⟨tg, iter, ifs, 0⟩] scope pos) (liE E (eComp wi g tc te own cap)) := weakE (pe_comp c hc hi hg ht he hs) comp_sim
theorem qs_comp {i : Nat} {y : Str} {py spos : Pos} (c : CompOk X scope cl own cap) (hc : X.calm = true) (hi : PI X tg iter (liI E wi))
  (hg : ∀ C s H fp, PG (compCx X (own ++ cap.map (·.2)) scope cl C s H fp fun _ _ => False) tg (liG EN g)) (ht : ∀ C s H fp, PTs (compCx X (own ++ cap.map (·.2)) scope cl C s H fp fun _ _ => False) ifs (liT EN tc))
  (he : ∀ C s H fp, PE (compCx X (own ++ cap.map (·.2)) scope cl C s H fp fun _ _ => False) elt (liE EN te))
  (hN : X.N.Nodup) (hy : X.N[i]? = some y) (hl : X.env.scope.names.lookup y = some .local)
  (hsw : swapsWith (.ListComp elt [⟨tg, iter, ifs, 0⟩] scope pos) (some (.Name y py)) spos.line X.env = pure true := by rfl) (hs : ∀ x, foldedSetIterable iter X.env x = pure x := by intro _; rfl) :
  PS X (.Assign [.Name y py] (.ListComp elt [⟨tg, iter, ifs, 0⟩] scope pos) spos) (liS E (cSet i (eComp wi g tc te own cap))) :=
 weakS3 (ps_comp c hc hi hg ht he hN hy hl hsw hs) fun D σ H τ Γ Y Z rs hr t dr xr =>
  comp_sim σ H _ ⟨τ, Γ, Y, _, rs, hr, t, fun v x H1 Γ1 s1 h1 r1 z1 => dr.nx _ _ H1 Γ1 s1 h1 ((rs.mono s1.tq).set r1 i) z1, xr⟩
def bTrue : T3 := fun _ _ Γ Z => Z true Γ
theorem qts_nil : PTs X [] (liT E bTrue) := weakTs3 pts_nil fun σ H Q τ Γ Y Z rs hr t vr xr => vr true H Γ .refl hr t
theorem qts_one {c : Expr} {t : T3} (h : PT X c (liT E t)) : PTs X [c] (liT E t) := pts_one h
end
end
def start3 : List Str → List T → S3
 | [], _ => []
 | _ :: N, [] => none :: start3 N []
 | _ :: N, t :: ts => some t :: start3 N ts
theorem rs_start0 {H : Hp} : ∀ N : List Str, RS H (List.replicate N.length none) (start3 N [])
 | [] => trivial
 | _ :: N => ⟨trivial, rs_start0 N⟩
theorem rs_start {H : Hp} : ∀ (N : List Str) {vs : List V} {ts : List T}, Rs H vs ts → ts.length ≤ N.length → RS H (L2.start N vs) (start3 N ts)
 | N, vs, [], h, _ => by
  rw [rs_inv0 h]
  exact rs_start0 N
 | [], vs, t :: ts, h, l => absurd l (by simp)
 | n :: N, vs, t :: ts, h, l => by
  obtain ⟨v, ws, rfl, a, b⟩ := rs_inv h
  have := rs_start N b (by simpa using l)
  refine ⟨a, ?_⟩
  unfold L2.start at this
  rw [List.length_cons, List.length_cons, Nat.add_sub_add_right]
  exact this
theorem sc_len {N ps : List Str} {sc : Scope} (S : FnScope N ps sc) : ps.length ≤ N.length := by
 have := congrArg List.length S.pre
 rw [List.length_take] at this
 omega
section
variable {P : Program} {w : World} {K : PySem.W.Frag} {mg : Str → Option Value} {base : Heap}
end
section
variable {X : Cx} {x : Str} {C : Addr} {bmB : List Value} {B newId initId : String} {np cpos pos : Pos} {e₀ : Expr} {rest : List Expr} {t : A3} {E : XK}
def cRaise (C : Addr) (t : A3) : C3 := fun Y D τ Γ => t Y τ Γ fun xs Γ1 => xs.length ≤ sizeLine ∧ Y τ (.ref C) Γ1
theorem qs_raise (hc : X.calm = true) (hg : Gl X x) (hm : X.mg x = some (.ref C)) (hx : PySem.W.excIn X.K C bmB newId = true) (FB : ExcBaseFacts B newId initId bmB) (ha : PA X (e₀ :: rest) (liA (fun _ => E) t)) (hE : Raises X E)
  (hd : (x == ("__debug__" : Str)) = false := by decide) (he : starEach (e₀ :: rest) X.env = (false, eval e₀ X.env) :: starEach rest X.env := by rfl) (hpl : (backTo cpos (starEach rest X.env)).any (·.1) = false := by rfl) :
  PS X (.Raise (some (.Call (.Name x np) (e₀ :: rest) [] cpos)) none pos) (liS (fun _ => E) (cRaise C t)) :=
 weakS3 (ps_raise hc hg hm hx FB ha hE hd he hpl) fun D σ H τ Γ Y Z rs hr t dr xr =>
  ⟨τ, Γ, Y, _, rs, hr, t, fun vs xs H1 Γ1 s1 h1 r1 z1 => ⟨by rw [r1.length]; exact z1.1, xr σ τ _ H1 Γ1 s1 h1 (rs.mono s1.tq) z1.2⟩, xr⟩
end
section
variable {X : Cx} {E : St → XK} {body suite : List Stmt} {b₀ : Stmt} {y n : Str} {np hpos pos : Pos} {Cy : Addr} {j : Nat} {tb ts : C3}
def cTry (K : PySem.W.Frag) (Cy : Addr) (j : Nat) (tb ts : C3) : C3 := fun _ D τ Γ => tb (fun τ' C Γ' => PySem.W.exmOne K C (.ref Cy) = some true ∧ ∀ x, Γ' x = none →
 ts Y0 { nx := fun τ2 Γ2 => D.nx (τ2.set j none) Γ2, rt := D.rt, bk := fun τ2 Γ2 => D.bk (τ2.set j none) Γ2, ct := fun τ2 Γ2 => D.ct (τ2.set j none) Γ2 } (τ'.set j (some (.ref x))) (up Γ' x (.ext (excAt x C)))) D τ Γ
theorem RS.unset {H : Hp} : ∀ {σ : St} {τ : S3} (i : Nat), RS H σ τ → RS H (σ.set i none) (τ.set i none)
 | [], [], _, _ => trivial
 | _ :: _, _ :: _, 0, h => ⟨trivial, h.2⟩
 | _ :: _, _ :: _, i + 1, h => ⟨h.1, RS.unset i h.2⟩
 | [], _ :: _, _, h => h.elim
 | _ :: _, [], _, h => h.elim
theorem NR.unset {H : Hp} {Γ : Gp} {Z : S3 → Gp → Prop} {Q : St → Hp → Prop} (h : NR H Γ Z Q) : NR H Γ (fun τ2 Γ2 => Z (τ2.set j none) Γ2) (fun σ2 H2 => Q (σ2.set j none) H2) := fun σ τ H' Γ' s hr r z => h _ _ H' Γ' s hr (r.unset j) z
theorem qs_try (hst : X.stack = X.env :: X.outer) (hfr : X.env.frame = some X.env.locals) (hy : Gl X y) (hmy : X.mg y = some (.ref Cy)) (hN : X.N.Nodup) (hj : X.N[j]? = some n) (hl : X.env.scope.names.lookup n = some .local)
  (hb : ∀ (E' : Value → Shared → Prop) (pn : List (Addr × Obj)) (W : St → XK), (∀ pins σ H s e s', Inv (X.tr E' pn) pins σ H s → CXe X.prog X.w X.stack H s (W σ) e s' → E' e s') → PSs (X.tr E' pn) body (liS W tb))
  (hs : ∀ x, PSs (X.su x) (b₀ :: suite) (liS EN ts)) (hd : (y == ("__debug__" : Str)) = false := by decide) :
  PS X (.Try body [.ExceptHandler (some (.Name y np)) (some n) (b₀ :: suite) hpos] [] [] pos) (liS E (cTry X.K Cy j tb ts)) :=
 weakS3 (ps_try hst hfr hy hmy hN hj hl hb hs hd) fun D σ H τ Γ Y Z rs hr t dr xr => by
  refine ⟨τ, Γ, _, Z, rs, hr, t, dr, fun σ1 τ1 C H1 Γ1 s1 h1 r1 y1 => ⟨y1.1, fun x hx => ?_⟩⟩
  have k := keep_new (o := .ext (excAt x C)) hx
  have s2 : Stp H Γ (upd H1 x (.ext (excAt x C))) (up Γ1 x (.ext (excAt x C))) := s1.trans (.make hx)
  exact ⟨_, _, Y0, _, RS.set r_ref j (r1.mono (tq_kp k)), h1.make (o3 := .ext (excAt x C)) hx upd_same, y1.2 x (h1.free hx), ⟨(dr.nx.mono s2).unset, dr.rt.mono s2, (dr.bk.mono s2).unset, (dr.ct.mono s2).unset⟩, xr0⟩
def cTry0 (K : PySem.W.Frag) (Cy : Addr) (tb ts : C3) : C3 := fun _ D τ Γ => tb (fun τ' C Γ' => PySem.W.exmOne K C (.ref Cy) = some true ∧ ts Y0 D τ' Γ') D τ Γ
theorem qs_try0 (hst : X.stack = X.env :: X.outer) (hfr : X.env.frame = some X.env.locals) (hy : Gl X y) (hmy : X.mg y = some (.ref Cy))
  (hb : ∀ (E' : Value → Shared → Prop) (pn : List (Addr × Obj)) (W : St → XK), (∀ pins σ H s e s', Inv (X.tr E' pn) pins σ H s → CXe X.prog X.w X.stack H s (W σ) e s' → E' e s') → PSs (X.tr E' pn) body (liS W tb))
  (hs : ∀ x, PSs (X.su x) (b₀ :: suite) (liS EN ts)) (hd : (y == ("__debug__" : Str)) = false := by decide) :
  PS X (.Try body [.ExceptHandler (some (.Name y np)) none (b₀ :: suite) hpos] [] [] pos) (liS E (cTry0 X.K Cy tb ts)) :=
 weakS3 (ps_try0 hst hfr hy hmy hb hs hd) fun D σ H τ Γ Y Z rs hr t dr xr =>
  ⟨τ, Γ, _, Z, rs, hr, t, dr, fun σ1 τ1 C H1 Γ1 s1 h1 r1 y1 => ⟨y1.1, _, _, Y0, _, r1, h1, y1.2, dr.mono s1, xr0⟩⟩
end
end L3
set_option Elab.async false
set_option linter.all false
set_option maxRecDepth 100000
namespace L3
open PySem PySem.Spec L2
open PyProof.Rows hiding St
def sc : T → Option V
 | .non => some .non | .bl b => some (.bl b) | .int i => some (.int i) | .str z => some (.str z) | _ => none
theorem sc_r {H : Hp} {v u : V} {x : T} (r : R H v x) (h : sc x = some u) : v = u := by
 cases x with
 | non => cases h; exact i_non r
 | bl b => cases h; exact i_bl r
 | int i => cases h; exact i_int r
 | str z => cases h; exact i_str r
 | tup ts => cases h
 | ref a => cases h
 | ty n => cases h
 | scr K a ts => cases h
def scs : List T → Option (List V)
 | [] => some []
 | x :: r => match sc x, scs r with | some v, some vs => some (v :: vs) | _, _ => none
theorem scs_r {H : Hp} : ∀ {ts : List T} {vs us : List V}, Rs H vs ts → scs ts = some us → vs = us
 | [], vs, us, r, h => by cases h; exact rs_inv0 r
 | x :: q, vs, us, r, h => by
  obtain ⟨v, ws, rfl, a, b⟩ := rs_inv r
  unfold scs at h
  split at h
  ·rename_i v' vs' e1 e2
   cases h
   rw [sc_r a e1, scs_r b e2]
  ·cases h
def it3 (Γ : Gp) : T → Option (List T)
 | .tup ts => some ts
 | .ref a => match Γ a with | some (.lst ts) => some ts | _ => none
 | _ => none
theorem it3_l {Γ : Gp} {a : Addr} {ts : List T} (h : Γ a = some (.lst ts)) : it3 Γ (.ref a) = some ts := by
 show (match Γ a with | some (.lst ts) => some ts | _ => none) = _
 rw [h]
theorem it3_a {K : PySem.W.Frag} {H : Hp} {Γ : Gp} {a : Addr} {ts : List T} (hr : HR H Γ) (h : it3 Γ (.ref a) = some ts) : ∃ vs, SqL K H a vs ∧ Rs H vs ts := by
 have h : (match Γ a with | some (.lst ts) => some ts | _ => none) = some ts := h
 split at h
 ·rename_i ts' g; cases h; obtain ⟨vs, ha, q⟩ := hr a _ g; exact ⟨vs, SqL.of ha, q⟩
 ·cases h
theorem it3_r {K : PySem.W.Frag} {H : Hp} {Γ : Gp} {v : V} {x : T} {ts : List T} (r : R H v x) (hr : HR H Γ) (h : it3 Γ x = some ts) : ∃ p vs, v = .ref p ∧ (SqL K H p vs ∨ SqT K H p vs) ∧ Rs H vs ts := by
 cases x with
 | tup us => cases h; obtain ⟨a, vs, e, ha, q⟩ := i_tup r; exact ⟨a, vs, e, .inr (SqT.of ha), q⟩
 | ref a => obtain ⟨vs, s, q⟩ := it3_a (K := K) hr h; exact ⟨a, vs, i_ref r, .inl s, q⟩
 | _ => cases h
section
variable {X : Cx} {E : St → XK}
def r3I (C : Int → Int → Prop) (g : Int → Int → T) : R3 := fun x y Γ Z => ∃ i j, x = .int i ∧ y = .int j ∧ C i j ∧ Z (g i j) Γ
def r3J (g : Int → Int → T) : R3 := fun x y Γ Z => ∃ i j, x = .int i ∧ y = .int j ∧ Z (g i j) Γ
theorem oq_I {f : Value → Value → Sem Value} {C : Int → Int → Prop} {g : Int → Int → V} {g3 : Int → Int → T} (h : OpR X f (rI C g)) (e : ∀ i j H, R H (g i j) (g3 i j)) : OpQ X f (r3I C g3) :=
 ⟨_, h, fun x y a b H Γ Q Z ra rb hr q0 vr => by obtain ⟨i, j, ea, eb, c, z⟩ := q0; subst ea eb; exact ⟨i, j, i_int ra, i_int rb, c, vr _ _ H Γ .refl hr (e i j H) z⟩⟩
theorem oq_J {f : Value → Value → Sem Value} {g : Int → Int → V} {g3 : Int → Int → T} (h : OpR X f (rI0 g)) (e : ∀ i j H, R H (g i j) (g3 i j)) : OpQ X f (r3J g3) :=
 ⟨_, h, fun x y a b H Γ Q Z ra rb hr q0 vr => by obtain ⟨i, j, ea, eb, z⟩ := q0; subst ea eb; exact ⟨i, j, i_int ra, i_int rb, vr _ _ H Γ .refl hr (e i j H) z⟩⟩
theorem oq_add : OpQ X (binaryOp .Add) (r3J fun i j => .int (i + j)) := oq_J op_add fun _ _ _ => r_int
theorem oq_sub : OpQ X (binaryOp .Sub) (r3J fun i j => .int (i - j)) := oq_J op_sub fun _ _ _ => r_int
theorem oq_mul : OpQ X (binaryOp .Mult) (r3I CMul fun i j => .int (i * j)) := oq_I op_mul fun _ _ _ => r_int
theorem oq_fdiv : OpQ X (binaryOp .FloorDiv) (r3I CDivG fun i j => .int (i / j)) := oq_I op_fdivG fun _ _ _ => r_int
theorem oq_mod : OpQ X (binaryOp .Mod) (r3I (fun _ j => 0 < j) fun i j => .int (i % j)) := oq_I op_mod fun _ _ _ => r_int
theorem oq_pow : OpQ X (binaryOp .Pow) (r3I CPow fun i j => .int (i ^ j.toNat)) := oq_I op_pow fun _ _ _ => r_int
theorem oq_lt : OpQ X (compareOp .Lt) (r3J fun i j => .bl (decide (i < j))) := oq_J op_lt fun _ _ _ => r_bl
theorem oq_gt : OpQ X (compareOp .Gt) (r3J fun i j => .bl (decide (j < i))) := oq_J op_gt fun _ _ _ => r_bl
theorem oq_ge : OpQ X (compareOp .GtE) (r3J fun i j => .bl (decide (j ≤ i))) := oq_J op_ge fun _ _ _ => r_bl
theorem oq_isub : OpQ X (inplaceOp .Sub) (r3J fun i j => .int (i - j)) := oq_J iop_sub fun _ _ _ => r_int
def r3Eq : R3 := fun x y Γ Z => ∃ u v, sc x = some u ∧ sc y = some v ∧ scal u v = true ∧ Z (.bl (decide (u = v))) Γ
def r3Ne : R3 := fun x y Γ Z => ∃ u v, sc x = some u ∧ sc y = some v ∧ scal u v = true ∧ Z (.bl (!decide (u = v))) Γ
theorem oq_eq : OpQ X (compareOp .Eq) r3Eq :=
 ⟨_, op_eq, fun x y a b H Γ Q Z ra rb hr q0 vr => by obtain ⟨u, v, ea, eb, c, z⟩ := q0; rw [sc_r ra ea, sc_r rb eb]; exact ⟨c, vr _ _ H Γ .refl hr r_bl z⟩⟩
theorem oq_ne : OpQ X (compareOp .NotEq) r3Ne :=
 ⟨_, op_ne, fun x y a b H Γ Q Z ra rb hr q0 vr => by obtain ⟨u, v, ea, eb, c, z⟩ := q0; rw [sc_r ra ea, sc_r rb eb]; exact ⟨c, vr _ _ H Γ .refl hr r_bl z⟩⟩
def isNon : T → Bool | .non => true | _ => false
theorem isNon_r {H : Hp} {v : V} {x : T} (r : R H v x) : decide (v = .non) = isNon x := by
 cases x with
 | non => rw [i_non r]; rfl
 | bl b => rw [i_bl r]; rfl
 | int i => rw [i_int r]; rfl
 | str z => rw [i_str r]; rfl
 | tup ts => obtain ⟨a, vs, e, _⟩ := i_tup r; rw [e]; rfl
 | ref a => rw [i_ref r]; rfl
 | ty n => rw [i_ty r]; rfl
 | scr K a ts => rw [(i_scr r).1]; rfl
theorem oq_isN : OpQ X (compareOp .Is) (fun x y Γ Z => y = .non ∧ Z (.bl (isNon x)) Γ) :=
 ⟨_, op_isN, fun x y a b H Γ Q Z ra rb hr q0 vr => by obtain ⟨eb, z⟩ := q0; subst eb; exact ⟨i_non rb, by rw [isNon_r ra]; exact vr _ _ H Γ .refl hr r_bl z⟩⟩
theorem oq_notN : OpQ X (compareOp .IsNot) (fun x y Γ Z => y = .non ∧ Z (.bl (!isNon x)) Γ) :=
 ⟨_, op_notN, fun x y a b H Γ Q Z ra rb hr q0 vr => by obtain ⟨eb, z⟩ := q0; subst eb; exact ⟨i_non rb, by rw [isNon_r ra]; exact vr _ _ H Γ .refl hr r_bl z⟩⟩
def r3In (neg : Bool) : R3 := fun x y Γ Z => ∃ u ts us, sc x = some u ∧ it3 Γ y = some ts ∧ scs ts = some us ∧ flatV u = true ∧ us.all flatV = true ∧ Z (.bl (if neg then !inV u us else inV u us)) Γ
theorem empty_r {H : Hp} {vs : List V} {ts : List T} (q : Rs H vs ts) : vs.isEmpty = ts.isEmpty := by
 have := q.length
 cases vs <;> cases ts <;> simp_all
theorem oq_eqNil (hu : X.A.units < cLine) : OpQ X (compareOp .Eq) (fun x y Γ Z => ∃ a b ts, x = .ref a ∧ y = .ref b ∧ Γ a = some (.lst ts) ∧ Γ b = some (.lst []) ∧ Z (.bl ts.isEmpty) Γ) :=
 ⟨_, op_eqNil hu, fun x y a b H Γ Q Z ra rb hr q0 vr => by
  obtain ⟨p, p', ts, ea, eb, g1, g2, z⟩ := q0
  subst ea eb
  obtain ⟨vs, hv, q⟩ := hr p _ g1
  obtain ⟨vs', hv', q'⟩ := hr p' _ g2
  rw [rs_inv0 q'] at hv'
  exact ⟨p, p', vs, i_ref ra, i_ref rb, SqL.of hv, SqL.of hv', by rw [empty_r q]; exact vr _ _ H Γ .refl hr r_bl z⟩⟩
theorem oq_neNil (hu : X.A.units < cLine) : OpQ X (compareOp .NotEq) (fun x y Γ Z => ∃ a b ts, x = .ref a ∧ y = .ref b ∧ Γ a = some (.lst ts) ∧ Γ b = some (.lst []) ∧ Z (.bl (!ts.isEmpty)) Γ) :=
 ⟨_, op_neNil hu, fun x y a b H Γ Q Z ra rb hr q0 vr => by
  obtain ⟨p, p', ts, ea, eb, g1, g2, z⟩ := q0
  subst ea eb
  obtain ⟨vs, hv, q⟩ := hr p _ g1
  obtain ⟨vs', hv', q'⟩ := hr p' _ g2
  rw [rs_inv0 q'] at hv'
  exact ⟨p, p', vs, i_ref ra, i_ref rb, SqL.of hv, SqL.of hv', by rw [empty_r q]; exact vr _ _ H Γ .refl hr r_bl z⟩⟩
def r3CatL : R3 := fun x y Γ Z => ∃ a b ts us, x = .ref a ∧ y = .ref b ∧ Γ a = some (.lst ts) ∧ Γ b = some (.lst us) ∧ ts.length + us.length ≤ sizeLine ∧ ∀ p, Γ p = none → Z (.ref p) (up Γ p (.lst (ts ++ us)))
theorem oq_catL : OpQ X (binaryOp .Add) r3CatL :=
 ⟨_, op_cat, fun x y a b H Γ Q Z ra rb hr q0 vr => by
  obtain ⟨p, p', ts, us, ea, eb, g1, g2, l, z⟩ := q0
  subst ea eb
  obtain ⟨vs, hv, q⟩ := hr p _ g1
  obtain ⟨vs', hv', q'⟩ := hr p' _ g2
  refine ⟨p, p', vs, vs', i_ref ra, i_ref rb, hv, hv', by rw [q.length, q'.length]; exact l, fun c hc => ?_⟩
  have k := keep_new (o := .lst (vs ++ vs')) hc
  exact vr _ _ _ _ (.make hc) (hr.make (o3 := .lst (ts ++ us)) hc ⟨_, upd_same, Rs.app (q.mono (tq_kp k)) (q'.mono (tq_kp k))⟩) r_ref (z c (hr.free hc))⟩
theorem rs_flat {H : Hp} {vs : List V} {ts : List T} (q : Rs H vs ts) : ∀ n : Nat, Rs H (List.replicate n vs).flatten (List.replicate n ts).flatten
 | 0 => rs_nil
 | n + 1 => by
  rw [List.replicate_succ, List.replicate_succ, List.flatten_cons, List.flatten_cons]
  exact Rs.app q (rs_flat q n)
theorem at_r {H : Hp} {vs : List V} {ts : List T} {i : Int} {t : T} (q : Rs H vs ts) (h : atI ts i = some t) : ∃ v, atI vs i = some v ∧ R H v t := by
 unfold atI at h ⊢
 rw [q.length]
 cases e : ixN ts.length i with
 | none => rw [e] at h; cases h
 | some j =>
  rw [e] at h
  have h' : ts[j]? = some t := h
  obtain ⟨v, hv, r⟩ := q.get h'
  exact ⟨v, hv, r⟩
def r3Ix : R3 := fun x y Γ Z => ∃ ts i t, it3 Γ x = some ts ∧ y = .int i ∧ atI ts i = some t ∧ Z t Γ
variable {a b e : Expr} {ta tb te : E3} {pos p2 : Pos}
theorem qe_ix (ha : PE X a (liE E ta)) (hb : PE X b (liE E tb)) (hs : PlainIx b) : PE X (.Subscript a b pos) (liE E (eOp r3Ix ta tb)) :=
 weakE (pe_ix ix_seq ha hb hs) (op_sim fun x y a b H Γ Q Z ra rb hr q0 vr => by
  obtain ⟨ts, i, t, ea, eb, h, z⟩ := q0
  subst eb
  obtain ⟨p, vs, rfl, sq, q⟩ := it3_r (K := X.K) ra hr ea
  obtain ⟨v, hv, r⟩ := at_r q h
  rcases sq with sq | sq
  ·exact .inl ⟨p, vs, i, v, rfl, i_int rb, sq, hv, vr _ _ H Γ .refl hr r z⟩
  ·exact .inr (.inl ⟨p, vs, i, v, rfl, i_int rb, sq, hv, vr _ _ H Γ .refl hr r z⟩))
abbrev O3 := X3 → S3 → Gp → (Option Int → Gp → Prop) → Prop
def liO (E : St → XK) (t : O3) : TO := fun σ H Q => ∃ τ Γ Y Z, RS H σ τ ∧ HR H Γ ∧ t Y τ Γ Z ∧ (∀ i H' Γ', Stp H Γ H' Γ' → HR H' Γ' → Z i Γ' → Q i H') ∧ XR H Γ Y E
theorem weakO {e : Option Expr} {t t' : TO} (h : PO X e t) (w : ∀ σ H Q, t' σ H Q → t σ H Q) : PO X e t' := ⟨fun pins s σ H Q I q => h.run pins s σ H Q I (w _ _ _ q)⟩
theorem weakO3 {e : Option Expr} {t0 : TO} {t : O3} (h : PO X e t0) (w : ∀ σ H Q τ Γ Y Z, RS H σ τ → HR H Γ → t Y τ Γ Z → (∀ i H' Γ', Stp H Γ H' Γ' → HR H' Γ' → Z i Γ' → Q i H') → XR H Γ Y E → t0 σ H Q) : PO X e (liO E t) :=
 weakO h (by rintro σ H Q ⟨τ, Γ, Y, Z, rs, hr, q, vr, xr⟩; exact w σ H Q τ Γ Y Z rs hr q vr xr)
def oNone : O3 := fun _ _ Γ Z => Z none Γ
def oSome (t : E3) : O3 := fun Y τ Γ Z => t Y τ Γ fun x Γ1 => ∃ i, x = .int i ∧ Z (some i) Γ1
theorem qo_some (h : PE X e (liE E te)) : PO X (some e) (liO E (oSome te)) := weakO3 (po_some h) fun σ H Q τ Γ Y Z rs hr t vr xr =>
 ⟨τ, Γ, Y, _, rs, hr, t, fun v x H1 Γ1 s1 h1 r1 q0 => by obtain ⟨i, ex, z⟩ := q0; subst ex; exact ⟨i, i_int r1, vr _ H1 Γ1 s1 h1 z⟩, xr⟩
abbrev L3r := T → Option Int → Option Int → Gp → K3 → Prop
def eSl (r : L3r) (te : E3) (tl th : O3) : E3 := fun Y τ Γ Z => te Y τ Γ fun x Γ1 => tl Y τ Γ1 fun l Γ2 => th Y τ Γ2 fun u Γ3 => r x l u Γ3 Z
def eRev (r : T → Gp → K3 → Prop) (te ts : E3) : E3 := fun Y τ Γ Z => te Y τ Γ fun x Γ1 => ts Y τ Γ1 fun k Γ2 => k = .int (-1) ∧ r x Γ2 Z
def r3U (g : Int → T) : T → Gp → K3 → Prop := fun x Γ Z => ∃ i, x = .int i ∧ Z (g i) Γ
def eUn (r : T → Gp → K3 → Prop) (ta : E3) : E3 := fun Y τ Γ Z => ta Y τ Γ fun x Γ1 => r x Γ1 Z
theorem qe_neg (ha : PE X a (liE E ta)) : PE X (.UnaryOp .USub a pos) (liE E (eUn (r3U fun i => .int (-i)) ta)) :=
 weakE3 (pe_un un_neg ha) fun σ H Q τ Γ Y Z rs hr t vr xr =>
  ⟨τ, Γ, Y, _, rs, hr, t, fun v x H1 Γ1 s1 h1 r1 q0 => by obtain ⟨i, ex, z⟩ := q0; subst ex; exact ⟨i, i_int r1, vr _ _ H1 Γ1 s1 h1 r_int z⟩, xr⟩
abbrev F3 := List T → Gp → K3 → Prop
def CallQ (X : Cx) (f : Value) (r3 : F3) : Prop := ∃ r, CallR X f r ∧ ∀ vs ts H Γ Q Z, Rs H vs ts → HR H Γ → r3 ts Γ Z → VR H Γ Z Q → r vs H Q
def eCB (r : F3) (t : A3) : E3 := fun Y τ Γ Z => t Y τ Γ fun ts Γ1 => r ts Γ1 Z
theorem cb_sim {r : List V → Hp → VK → Prop} {r3 : F3} {t : A3} (h : ∀ vs ts H Γ Q Z, Rs H vs ts → HR H Γ → r3 ts Γ Z → VR H Γ Z Q → r vs H Q) (σ : St) (H : Hp) (Q : VK) (q : liE E (eCB r3 t) σ H Q) : tCB r (liA E t) σ H Q := by
 obtain ⟨τ, Γ, Y, Z, rs, hr, t, vr, xr⟩ := q
 exact ⟨τ, Γ, Y, _, rs, hr, t, fun vs xs H1 Γ1 s1 h1 r1 z1 => h vs xs H1 Γ1 Q Z r1 h1 z1 (vr.mono s1), xr⟩
section
variable {x : Str} {p pos : Pos} {e : Expr} {es : List Expr} {t : A3} {id Tn : String} {r3 : F3}
theorem qe_callB (hc : CallQ X (.builtin id) r3) (hg : Gl X x) (hm : X.mg x = none) (hv : bootBuiltins x = some (.builtin id)) (ha : PA X (e :: es) (liA E t)) (hn : x ≠ "__name__" := by decide) (hdb : (x == ("__debug__" : Str)) = false := by decide)
  (he : starEach (e :: es) X.env = (false, eval e X.env) :: starEach es X.env := by rfl) (hpl : (backTo pos (starEach es X.env)).any (·.1) = false := by rfl) : PE X (.Call (.Name x p) (e :: es) [] pos) (liE E (eCB r3 t)) := by
 obtain ⟨r, hr, h⟩ := hc
 exact weakE (pe_callB hr hg hm hv ha hn hdb he hpl) (cb_sim h)
theorem qe_callTy (hc : CallQ X (.type Tn) r3) (hg : Gl X x) (hm : X.mg x = none) (hv : bootBuiltins x = some (.type Tn)) (ha : PA X (e :: es) (liA E t)) (hn : x ≠ "__name__" := by decide) (hdb : (x == ("__debug__" : Str)) = false := by decide)
  (he : starEach (e :: es) X.env = (false, eval e X.env) :: starEach es X.env := by rfl) (hpl : (backTo pos (starEach es X.env)).any (·.1) = false := by rfl) : PE X (.Call (.Name x p) (e :: es) [] pos) (liE E (eCB r3 t)) := by
 obtain ⟨r, hr, h⟩ := hc
 exact weakE (pe_callTy hr hg hm hv ha hn hdb he hpl) (cb_sim h)
end
theorem rs1 {H : Hp} {vs : List V} {x : T} (h : Rs H vs [x]) : ∃ v, vs = [v] ∧ R H v x := by
 obtain ⟨v, ws, rfl, a, b⟩ := rs_inv h
 exact ⟨v, by rw [rs_inv0 b], a⟩
theorem rs2 {H : Hp} {vs : List V} {x y : T} (h : Rs H vs [x, y]) : ∃ v w, vs = [v, w] ∧ R H v x ∧ R H w y := by
 obtain ⟨v, ws, rfl, a, b⟩ := rs_inv h
 obtain ⟨w, rfl, c⟩ := rs1 b
 exact ⟨v, w, rfl, a, c⟩
theorem cq_len : CallQ X (.builtin "len") (fun xs Γ Z => ∃ x ts, xs = [x] ∧ it3 Γ x = some ts ∧ Z (.int ts.length) Γ) :=
 ⟨_, call_len_seq, fun vs xs H Γ Q Z r hr q0 vr => by
  obtain ⟨x, ts, e, h, z⟩ := q0
  subst e
  obtain ⟨v, rfl, rv⟩ := rs1 r
  obtain ⟨p, us, rfl, sq, q⟩ := it3_r (K := X.K) rv hr h
  exact ⟨p, us, rfl, sq, by rw [q.length]; exact vr _ _ H Γ .refl hr r_int z⟩⟩
theorem cq_max2 (hc : X.calm = true) : CallQ X (.builtin "max") (fun xs Γ Z => ∃ i j, xs = [.int i, .int j] ∧ Z (.int (if j > i then j else i)) Γ) :=
 ⟨_, call_max2 hc, fun vs xs H Γ Q Z r hr q0 vr => by
  obtain ⟨i, j, e, z⟩ := q0
  subst e
  obtain ⟨v, w, rfl, a, b⟩ := rs2 r
  exact ⟨i, j, by rw [i_int a, i_int b], vr _ _ H Γ .refl hr r_int z⟩⟩
theorem cq_min2 (hc : X.calm = true) : CallQ X (.builtin "min") (fun xs Γ Z => ∃ i j, xs = [.int i, .int j] ∧ Z (.int (if j < i then j else i)) Γ) :=
 ⟨_, call_min2 hc, fun vs xs H Γ Q Z r hr q0 vr => by
  obtain ⟨i, j, e, z⟩ := q0
  subst e
  obtain ⟨v, w, rfl, a, b⟩ := rs2 r
  exact ⟨i, j, by rw [i_int a, i_int b], vr _ _ H Γ .refl hr r_int z⟩⟩
theorem rs_ints {H : Hp} : ∀ {ns : List Int} {vs : List V}, Rs H vs (ns.map T.int) → vs = ns.map V.int
 | [], vs, h => rs_inv0 h
 | n :: r, vs, h => by
  obtain ⟨v, ws, rfl, a, b⟩ := rs_inv h
  rw [i_int a, rs_ints b]; rfl
theorem rs_bls {H : Hp} : ∀ {ns : List Bool} {vs : List V}, Rs H vs (ns.map T.bl) → vs = ns.map V.bl
 | [], vs, h => rs_inv0 h
 | n :: r, vs, h => by
  obtain ⟨v, ws, rfl, a, b⟩ := rs_inv h
  rw [i_bl a, rs_bls b]; rfl
theorem cq_all (hc : X.calm = true) : CallQ X (.builtin "all") (fun xs Γ Z => ∃ (p : Addr) (bs : List Bool), xs = [.ref p] ∧ it3 Γ (.ref p) = some (bs.map T.bl) ∧ Z (.bl (bs.all id)) Γ) :=
 ⟨_, call_allL hc, fun vs xs H Γ Q Z r hr q0 vr => by
  obtain ⟨p, ns, e, g, z⟩ := q0
  subst e
  obtain ⟨v, rfl, a⟩ := rs1 r
  obtain ⟨us, sq, q⟩ := it3_a (K := X.K) hr g
  rw [rs_bls q] at sq
  exact ⟨p, ns, by rw [i_ref a], sq, vr _ _ H Γ .refl hr r_bl z⟩⟩
def tyOf (Γ : Gp) : T → Option String
 | .non => some "NoneType" | .bl _ => some "bool" | .int _ => some "int" | .str _ => some "str" | .tup _ => some "tuple"
 | .ref a => match Γ a with | some (.lst _) => some "list" | some (.dK _) => some "dict" | _ => none
 | .ty _ => none
 | .scr _ _ _ => none
theorem tyOf_r {K : PySem.W.Frag} {H : Hp} {Γ : Gp} {v : V} {x : T} {n : String} (r : R H v x) (hr : HR H Γ) (h : tyOf Γ x = some n) : TyOf K H v (.type n) := by
 cases x with
 | non => cases h; rw [i_non r]; exact .non
 | bl b => cases h; rw [i_bl r]; exact .bl b
 | int i => cases h; rw [i_int r]; exact .int i
 | str z => cases h; rw [i_str r]; exact .str z
 | tup ts => cases h; obtain ⟨a, vs, e, ha, _⟩ := i_tup r; rw [e]; exact .tup ha
 | ty n => cases h
 | scr K a ts => cases h
 | ref a =>
  rw [i_ref r]
  have h : (match Γ a with | some (.lst _) => some "list" | some (.dK _) => some "dict" | _ => none) = some n := h
  split at h
  ·rename_i g; cases h; obtain ⟨vs, hv, _⟩ := hr a _ g; exact .lst hv
  ·rename_i g; cases h; obtain ⟨vs, hv, _⟩ := hr a _ g; exact .dK hv
  ·cases h
def eInst (K : PySem.W.Frag) (Ty : String) (te : E3) : E3 := fun Y τ Γ Z => te Y τ Γ fun x Γ1 => ∃ n b, tyOf Γ1 x = some n ∧ PySem.W.kitOne K (.type n) (.type Ty) = some b ∧ Z (.bl b) Γ1
theorem qe_inst {x : Expr} {te : E3} {p p2 pos : Pos} {Tn : Str} {Ty : String} (hg : Gl X "isinstance") (hm : X.mg "isinstance" = none) (hgT : Gl X Tn) (hmT : X.mg Tn = none) (hvT : bootBuiltins Tn = some (.type Ty)) (he : PE X x (liE E te)) (hn : Tn ≠ "__name__" := by decide) (hdT : (Tn == ("__debug__" : Str)) = false := by decide)
  (hs : starEach [x, .Name Tn p2] X.env = (false, eval x X.env) :: starEach [.Name Tn p2] X.env := by rfl) (hs2 : starEach [.Name Tn p2] X.env = [(false, eval (.Name Tn p2) X.env)] := by rfl)
  (hpl : (backTo pos (starEach [.Name Tn p2] X.env)).any (·.1) = false := by rfl) : PE X (.Call (.Name "isinstance" p) [x, .Name Tn p2] [] pos) (liE E (eInst X.K Ty te)) :=
 weakE3 (pe_inst hg hm hgT hmT hvT he hn hdT hs hs2 hpl) fun σ H Q τ Γ Y Z rs hr t vr xr =>
  ⟨τ, Γ, Y, _, rs, hr, t, fun v x H1 Γ1 s1 h1 r1 ⟨n, b, ty, k, z⟩ => ⟨v, rfl, .type n, b, tyOf_r r1 h1 ty, k, vr _ _ H1 Γ1 s1 h1 r_bl z⟩, xr⟩
def tru3 (Γ : Gp) : T → Option Bool
 | .non => some false | .bl b => some b | .int i => some (i != 0) | .tup ts => some (!ts.isEmpty)
 | .str z => if z.length ≤ sizeLine then some ((z.length : Int) != 0) else none
 | .ref a => match Γ a with | some (.lst ts) => some (!ts.isEmpty) | some (.dK kvs) => some (!kvs.isEmpty) | _ => none
 | .ty _ => none
 | .scr _ _ _ => none
def eTru (t : E3) : T3 := fun Y τ Γ Z => t Y τ Γ fun x Γ1 => ∃ k, tru3 Γ1 x = some k ∧ Z k Γ1
theorem cq_lenC : CallQ X (.builtin "len") (fun xs Γ Z => ∃ a ts, xs = [.scr X.K a ts] ∧ Z (.int ts.length) Γ) :=
 ⟨_, call_len_seq, fun vs xs H Γ Q Z r hr q0 vr => by
  obtain ⟨a, ts, e, z⟩ := q0
  subst e
  obtain ⟨v, rfl, rv⟩ := rs1 r
  obtain ⟨rfl, us, sq, q⟩ := i_scr rv
  exact ⟨a, us, rfl, .inl sq.sq, by rw [q.length]; exact vr _ _ H Γ .refl hr r_int z⟩⟩
theorem qe_ixC (ha : PE X a (liE E ta)) (hb : PE X b (liE E tb)) (hs : PlainIx b) : PE X (.Subscript a b pos) (liE E (eOp (fun x y Γ Z => ∃ p ts i t, x = .scr X.K p ts ∧ y = .int i ∧ atI ts i = some t ∧ Z t Γ) ta tb)) :=
 weakE (pe_ix ix_list ha hb hs) (op_sim fun x y a b H Γ Q Z ra rb hr q0 vr => by
  obtain ⟨p, ts, i, t, ea, eb, h, z⟩ := q0
  subst ea eb
  obtain ⟨rfl, vs, sq, q⟩ := i_scr ra
  obtain ⟨v, hv, r⟩ := at_r q h
  exact ⟨p, vs, i, v, rfl, i_int rb, sq.sq, hv, vr _ _ H Γ .refl hr r z⟩)
end
end L3
set_option Elab.async false
set_option linter.all false
set_option maxRecDepth 100000
namespace L3
open PySem PySem.Spec L2
open PyProof.Rows hiding St
section
variable {X : Cx} {E : St → XK} {tg l : Expr} {tl : E3} {pos p : Pos}
abbrev gT : Gp → Prop := fun _ => True
def iTp (tl : E3) : I3 := fun Y τ Γ Z => tl Y τ Γ fun x Γ1 => ∃ ts, x = .tup ts ∧ Z ts gT Γ1
def iLs (tl : E3) : I3 := fun Y τ Γ Z => tl Y τ Γ fun x Γ1 => ∃ a ts, x = .ref a ∧ it3 Γ1 (.ref a) = some ts ∧ Z ts (fun Γ' => it3 Γ' (.ref a) = some ts) Γ1
theorem walk_list {K : PySem.W.Frag} {H : Hp} {a : Addr} {ts : List T} : Walks (Itl K a) ts (fun Γ' => it3 Γ' (.ref a) = some ts) H where
 go := fun i H' Γ t hr g hi => by
  obtain ⟨vs, sq, q⟩ := it3_a (K := K) hr g
  exact ⟨vs, vs[i]'(by rw [q.length]; exact hi), sq, by simp⟩
 yld := fun i H' Γ x H2 t hr g hi q0 => by
  obtain ⟨e, y⟩ := q0
  subst e
  obtain ⟨vs, sq, q⟩ := it3_a (K := K) hr g
  obtain ⟨t', e', r⟩ := q.getV (y vs sq)
  exact ⟨.refl, hr, t', e', r⟩
 stop := fun H' Γ t hr g => by
  obtain ⟨vs, sq, q⟩ := it3_a (K := K) hr g
  exact ⟨vs, sq, by rw [q.length]; exact Nat.le_refl _⟩
theorem qi_list (hl : PE X l (liE E tl)) : PI X tg l (liI E (iLs tl)) :=
 weakI3 (pi_list hl) fun σ H Q τ Γ Y Z rs hr t vr xr => ⟨τ, Γ, Y, _, rs, hr, t, fun v x H1 Γ1 s1 h1 r1 ⟨a, ts, ex, g, z⟩ => by
  subst ex
  obtain ⟨vs, sq, q⟩ := it3_a (K := X.K) h1 g
  exact ⟨a, i_ref r1, ⟨vs, sq⟩, vr _ ts _ H1 Γ1 s1 h1 walk_list z⟩, xr⟩
def rngT (lo : Int) : Nat → List T
 | 0 => []
 | n + 1 => .int lo :: rngT (lo + 1) n
theorem rngT_len : ∀ (n : Nat) (lo : Int), (rngT lo n).length = n
 | 0, _ => rfl
 | n + 1, lo => by rw [rngT, List.length_cons, rngT_len n]
theorem rngT_get : ∀ (n : Nat) (lo : Int) (i : Nat), i < n → (rngT lo n)[i]? = some (.int (lo + i))
 | 0, _, i, h => absurd h (Nat.not_lt_zero _)
 | n + 1, lo, 0, _ => by rw [rngT]; simp
 | n + 1, lo, i + 1, h => by
  rw [rngT, List.getElem?_cons_succ, rngT_get n (lo + 1) i (by omega)]
  congr 2
  omega
theorem walk_range {H : Hp} (lo : Int) (n : Nat) : Walks (Itr lo n) (rngT lo n) gT H where
 go := fun i H' Γ t hr _ hi => by rw [rngT_len] at hi; exact hi
 yld := fun i H' Γ x H2 t hr _ hi q0 => by
  obtain ⟨e, y⟩ := q0
  subst e y
  rw [rngT_len] at hi
  exact ⟨.refl, hr, _, rngT_get n lo i hi, r_int⟩
 stop := fun H' Γ t hr _ => by rw [rngT_len]; exact Nat.le_refl _
def iRg1 (ta : A3) : I3 := fun Y τ Γ Z => ta Y τ Γ fun xs Γ1 => ∃ j : Int, xs = [.int j] ∧ -(2 ^ 62) ≤ j ∧ j < 2 ^ 62 ∧ Z (rngT 0 j.toNat) gT Γ1
def iRg2 (ta : A3) : I3 := fun Y τ Γ Z => ta Y τ Γ fun xs Γ1 => ∃ i j : Int, xs = [.int i, .int j] ∧ (-(2 ^ 62) ≤ i ∧ i < 2 ^ 62 ∧ -(2 ^ 62) ≤ j ∧ j < 2 ^ 62) ∧ Z (rngT i (j - i).toNat) gT Γ1
theorem qi_range1 {a : Expr} {ta : A3} (hg : Gl X "range") (hm : X.mg "range" = none) (ha : PA X [a] (liA E ta)) (hs : starEach [a] X.env = [(false, eval a X.env)] := by rfl) : PI X tg (.Call (.Name "range" p) [a] [] pos) (liI E (iRg1 ta)) :=
 weakI3 (pi_range1 hg hm ha hs) fun σ H Q τ Γ Y Z rs hr t vr xr => ⟨τ, Γ, Y, _, rs, hr, t, fun vs xs H1 Γ1 s1 h1 r1 ⟨j, ex, b1, b2, z⟩ => by
  subst ex
  obtain ⟨v, rfl, a⟩ := rs1 r1
  exact ⟨j, by rw [i_int a], b1, b2, vr _ _ gT H1 Γ1 s1 h1 (walk_range 0 _) z⟩, xr⟩
theorem qi_range2 {a b : Expr} {ta : A3} (hg : Gl X "range") (hm : X.mg "range" = none) (ha : PA X [a, b] (liA E ta)) (hs : starEach [a, b] X.env = [(false, eval a X.env), (false, eval b X.env)] := by rfl) (hs2 : starEach [b] X.env = [(false, eval b X.env)] := by rfl) : PI X tg (.Call (.Name "range" p) [a, b] [] pos) (liI E (iRg2 ta)) :=
 weakI3 (pi_range2 hg hm ha hs hs2) fun σ H Q τ Γ Y Z rs hr t vr xr => ⟨τ, Γ, Y, _, rs, hr, t, fun vs xs H1 Γ1 s1 h1 r1 ⟨i, j, ex, b1, z⟩ => by
  subst ex
  obtain ⟨v, w, rfl, a, b⟩ := rs2 r1
  exact ⟨i, j, by rw [i_int a, i_int b], b1, vr _ _ gT H1 Γ1 s1 h1 (walk_range i _) z⟩, xr⟩
def zipT : List T → List T → List T
 | x :: r, y :: q => .tup [x, y] :: zipT r q
 | _, _ => []
theorem zipT_len : ∀ {xs ys : List T}, (zipT xs ys).length = min xs.length ys.length
 | [], _ => by simp [zipT]
 | _ :: _, [] => by simp [zipT]
 | x :: r, y :: q => by rw [zipT, List.length_cons, zipT_len, List.length_cons, List.length_cons]; omega
theorem zipT_get : ∀ {xs ys : List T} {i : Nat} {x y : T}, xs[i]? = some x → ys[i]? = some y → (zipT xs ys)[i]? = some (.tup [x, y])
 | [], _, _, _, _, h, _ => by simp at h
 | _ :: _, [], _, _, _, _, h => by simp at h
 | a :: r, b :: q, 0, x, y, h, h' => by cases h; cases h'; rfl
 | a :: r, b :: q, i + 1, x, y, h, h' => by rw [zipT, List.getElem?_cons_succ]; exact zipT_get (by simpa using h) (by simpa using h')
def iZp (ta : A3) : I3 := fun Y τ Γ Z => ta Y τ Γ fun xs Γ1 => ∃ ts us, xs = [.tup ts, .tup us] ∧ Z (zipT ts us) gT Γ1
theorem walk_zip {K : PySem.W.Frag} {H : Hp} {a b : Addr} {vs ws : List V} {ts us : List T} (ha : H a = some (.tup vs)) (q : Rs H vs ts) (hb : H b = some (.tup ws)) (q' : Rs H ws us) : Walks (Itz K a b) (zipT ts us) gT H where
 go := fun i H' Γ t hr _ hi => by
  rw [zipT_len] at hi
  exact ⟨vs, ws, vs[i]'(by rw [q.length]; omega), ws[i]'(by rw [q'.length]; omega), SqT.of (t.1 a vs ha), SqT.of (t.1 b ws hb), by simp, by simp⟩
 yld := fun i H' Γ v H2 t hr _ hi q0 => by
  obtain ⟨p, x, y, hp, e1, e2, y1, y2⟩ := q0
  subst e1 e2
  obtain ⟨t1, f1, r1⟩ := (q.mono t).getV (y1 vs (SqT.of (t.1 a vs ha)))
  obtain ⟨t2, f2, r2⟩ := (q'.mono t).getV (y2 ws (SqT.of (t.1 b ws hb)))
  have k := keep_new (o := .tup [x, y]) hp
  exact ⟨.keep k, hr.keep k, _, zipT_get f1 f2, r_tup upd_same (rs_cons (r1.mono (tq_kp k)) (rs_cons (r2.mono (tq_kp k)) rs_nil))⟩
 stop := fun H' Γ t hr _ => ⟨vs, ws, SqT.of (t.1 a vs ha), SqT.of (t.1 b ws hb), by rw [zipT_len, q.length, q'.length]; omega⟩
theorem qi_zip {a b : Expr} {ta : A3} {elts : List Expr} {kk : Nat} {tpos : Pos} (hg : Gl X "zip") (hm : X.mg "zip" = none) (ha : PA X [a, b] (liA E ta)) (hs : starEach [a, b] X.env = [(false, eval a X.env), (false, eval b X.env)] := by rfl) (hs2 : starEach [b] X.env = [(false, eval b X.env)] := by rfl) :
  PI X (.Tuple elts kk tpos) (.Call (.Name "zip" p) [a, b] [] pos) (liI E (iZp ta)) :=
 weakI3 (pi_zip hg hm ha hs hs2) fun σ H Q τ Γ Y Z rs hr t vr xr => ⟨τ, Γ, Y, _, rs, hr, t, fun vs xs H1 Γ1 s1 h1 r1 ⟨ts, us, ex, z⟩ => by
  subst ex
  obtain ⟨v, w, rfl, a, b⟩ := rs2 r1
  obtain ⟨pa, va, rfl, ha, qa⟩ := i_tup a
  obtain ⟨pb, vb, rfl, hb, qb⟩ := i_tup b
  exact ⟨pa, pb, va, vb, rfl, SqT.of ha, SqT.of hb, vr _ _ gT H1 Γ1 s1 h1 (walk_zip ha qa hb qb) z⟩, xr⟩
def enumT (n : Nat) : List T → List T
 | [] => []
 | x :: r => .tup [.int n, x] :: enumT (n + 1) r
theorem enumT_len : ∀ {xs : List T} {n : Nat}, (enumT n xs).length = xs.length
 | [], _ => rfl
 | x :: r, n => by rw [enumT, List.length_cons, enumT_len, List.length_cons]
theorem enumT_get : ∀ {xs : List T} {n i : Nat} {x : T}, xs[i]? = some x → (enumT n xs)[i]? = some (.tup [.int ((n + i : Nat) : Int), x])
 | [], _, _, _, h => by simp at h
 | a :: r, n, 0, x, h => by cases h; rfl
 | a :: r, n, i + 1, x, h => by
  rw [enumT, List.getElem?_cons_succ, enumT_get (n := n + 1) (by simpa using h)]
  congr 4
  omega
def iEn (ta : A3) : I3 := fun Y τ Γ Z => ta Y τ Γ fun xs Γ1 => ∃ ts, xs = [.tup ts] ∧ Z (enumT 0 ts) gT Γ1
def signsT (z : Str) : List T := z.cps.toList.map fun c => .str ⟨#[c]⟩
def iSt (tl : E3) : I3 := fun Y τ Γ Z => tl Y τ Γ fun x Γ1 => ∃ z, x = .str z ∧ Z (signsT z) gT Γ1
abbrev M3r := T → List T → Gp → K3 → Prop
def MQ (X : Cx) (id : String) (r3 : M3r) : Prop := ∃ r, MtR X id r ∧ ∀ v x vs ts H Γ Q Z, R H v x → Rs H vs ts → HR H Γ → r3 x ts Γ Z → VR H Γ Z Q → r v vs H Q
def eBM (Tn : String) (r3 : M3r) (to : E3) (t : A3) : E3 := fun Y τ Γ Z => to Y τ Γ fun x Γ1 => tyOf Γ1 x = some Tn ∧ t Y τ Γ1 fun xs Γ2 => r3 x xs Γ2 Z
def eBM0 (Tn : String) (r3 : M3r) (to : E3) : E3 := fun Y τ Γ Z => to Y τ Γ fun x Γ1 => tyOf Γ1 x = some Tn ∧ r3 x [] Γ1 Z
theorem tyV_of {K : PySem.W.Frag} {H : Hp} {Γ : Gp} {v : V} {x : T} {n : String} (r : R H v x) (hr : HR H Γ) (h : tyOf Γ x = some n) (hn : n = "list" ∨ n = "str" ∨ n = "dict") : tyV K n v H := by
 have ty := tyOf_r (K := K) r hr h
 cases x with
 | non => cases h; rcases hn with h | h | h <;> exact absurd h (by decide)
 | bl b => cases h; rcases hn with h | h | h <;> exact absurd h (by decide)
 | int i => cases h; rcases hn with h | h | h <;> exact absurd h (by decide)
 | str z => cases h; rw [i_str r]; rfl
 | tup ts => cases h; rcases hn with h | h | h <;> exact absurd h (by decide)
 | ty n => cases h
 | scr K a ts => cases h
 | ref a =>
  rw [i_ref r]
  have h : (match Γ a with | some (.lst _) => some "list" | some (.dK _) => some "dict" | _ => none) = some n := h
  split at h
  ·rename_i g; cases h; obtain ⟨vs, hv, _⟩ := hr a _ g; exact .inl ⟨rfl, vs, SqL.of hv⟩
  ·rename_i g; cases h; obtain ⟨vs, hv, _⟩ := hr a _ g; exact .inr (.inr (.inl ⟨rfl, .inl ⟨vs, hv⟩⟩))
  ·cases h
section
variable {o e : Expr} {es : List Expr} {to : E3} {t : A3} {name : Str} {apos cpos : Pos} {Tn id : String} {r3 : M3r}
theorem qe_bm0 (pa : PlainAttrs Tn) (slot : Slot Tn name id) (hty : typeOf (.builtin id) = pure (.type "method_descriptor")) (hm : MQ X id r3) (ho : PE X o (liE E to)) (hn : Tn = "list" ∨ Tn = "str" ∨ Tn = "dict" := by decide)
  (hbase : attributeBase o name X.env (eval o X.env) = eval o X.env := by rfl) (hline : (apos.endLine == cpos.line) = true := by rfl) : PE X (.Call (.Attribute o name apos) [] [] cpos) (liE E (eBM0 Tn r3 to)) := by
 obtain ⟨r, hm, sim⟩ := hm
 exact weakE3 (pe_bm0 pa slot hty hm ho hbase hline) fun σ H Q τ Γ Y Z rs hr t vr xr => ⟨τ, Γ, Y, _, rs, hr, t, fun v x H1 Γ1 s1 h1 r1 ⟨ty, z⟩ =>
  ⟨tyV_of r1 h1 ty hn, sim v x [] [] H1 Γ1 Q Z r1 rs_nil h1 z (vr.mono s1)⟩, xr⟩
theorem qe_bm (pa : PlainAttrs Tn) (slot : Slot Tn name id) (hty : typeOf (.builtin id) = pure (.type "method_descriptor")) (hm : MQ X id r3) (ho : PE X o (liE E to)) (ha : PA X (e :: es) (liA E t)) (hn : Tn = "list" ∨ Tn = "str" ∨ Tn = "dict" := by decide)
  (hbase : attributeBase o name X.env (eval o X.env) = eval o X.env := by rfl)
  (hfew : ((backTo cpos (starEach (e :: es) X.env)).all (fun x => !x.1) && (backToKw cpos (keywordEach [] X.env)).all (fun x => x.1.isSome)
   && decide ((e :: es).length + ([] : List Keyword).length + (if ([] : List Keyword).isEmpty then 0 else 1) < 30)) = true := by rfl)
  (hline : (apos.endLine == cpos.line) = true := by rfl) (hs : starEach (e :: es) X.env = (false, eval e X.env) :: starEach es X.env := by rfl) (hplain : (backTo cpos (starEach es X.env)).any (·.1) = false := by rfl) :
  PE X (.Call (.Attribute o name apos) (e :: es) [] cpos) (liE E (eBM Tn r3 to t)) := by
 obtain ⟨r, hm, sim⟩ := hm
 exact weakE3 (pe_bm pa slot hty hm ho ha hbase hfew hline hs hplain) fun σ H Q τ Γ Y Z rs hr t vr xr => ⟨τ, Γ, Y, _, rs, hr, t, fun v x H1 Γ1 s1 h1 r1 ⟨ty, z⟩ =>
  ⟨tyV_of r1 h1 ty hn, τ, Γ1, Y, _, rs.mono s1.tq, h1, z, fun vs xs H2 Γ2 s2 h2 r2 z2 => sim v x vs xs H2 Γ2 Q Z (r1.mono s2.tq) r2 h2 z2 (vr.mono (s1.trans s2)), xr.mono s1⟩, xr⟩
end
theorem mq_append : MQ X "list.append" (fun x ts Γ Z => ∃ a us y, x = .ref a ∧ ts = [y] ∧ Γ a = some (.lst us) ∧ us.length < sizeLine ∧ Z .non (up Γ a (.lst (us ++ [y])))) :=
 ⟨_, mt_append, fun v x vs ts H Γ Q Z r rs hr q0 vr => by
  obtain ⟨a, us, y, ex, et, g, l, z⟩ := q0
  subst ex et
  obtain ⟨w, rfl, rw'⟩ := rs1 rs
  obtain ⟨ws, hw, q⟩ := hr a _ g
  refine ⟨a, ws, w, i_ref r, rfl, hw, by rw [q.length]; exact l, ?_⟩
  have s : Stp H Γ (upd H a (.lst (ws ++ [w]))) (up Γ a (.lst (us ++ [y]))) := .set hr g
  exact vr _ _ _ _ s (hr.set g ⟨_, upd_same, Rs.app (q.mono s.tq) (rs_cons (rw'.mono s.tq) rs_nil)⟩) r_non z⟩
def eLZ (ta : A3) : E3 := fun Y τ Γ Z => ta Y τ Γ fun xs Γ1 => ∃ ts us, xs = [.tup ts, .tup us] ∧ ts.length = us.length ∧ ∀ p, Γ1 p = none → Z (.ref p) (up Γ1 p (.lst (zipT ts us)))
def clsT : T → Option Value
 | .ref a => some (.ref a) | .ty n => some (.type n) | _ => none
def clsTs : List T → Option (List Value)
 | [] => some []
 | x :: r => match clsT x, clsTs r with | some v, some vs => some (v :: vs) | _, _ => none
theorem clsT_r {H : Hp} {v : V} {x : T} {c : Value} (r : R H v x) (h : clsT x = some c) : ClsV v c := by
 cases x with
 | ref a => cases h; rw [i_ref r]; exact .own a
 | ty n => cases h; rw [i_ty r]; exact .ty n
 | _ => cases h
theorem clsTs_r {H : Hp} : ∀ {ts : List T} {vs : List V} {cs : List Value}, Rs H vs ts → clsTs ts = some cs → ClsVs vs cs
 | [], vs, cs, r, h => by cases h; rw [rs_inv0 r]; exact .nil
 | x :: q, vs, cs, r, h => by
  obtain ⟨v, ws, rfl, a, b⟩ := rs_inv r
  unfold clsTs at h
  split at h
  ·rename_i e1 e2; cases h; exact .cons (clsT_r a e1) (clsTs_r b e2)
  ·cases h
theorem cq_instX : CallQ X (.builtin "isinstance") (fun xs Γ Z => ∃ (x D : Addr) (t : T) (c : Value) (b : Bool), xs = [.ref x, t] ∧ clsT t = some c ∧ ExC X.K D ∧ Γ x = some (.ext (ExAt x D)) ∧ PySem.W.kitOne X.K (.ref D) c = some b ∧ Z (.bl b) Γ) :=
 ⟨_, call_instX, fun vs xs H Γ Q Z r hr q0 vr => by
  obtain ⟨x, D, t, c, b, e, hc, ex, g, k, z⟩ := q0
  subst e
  obtain ⟨v, w, rfl, a, b'⟩ := rs2 r
  exact ⟨x, D, w, c, b, by rw [i_ref a], clsT_r b' hc, ex, hr x _ g, k, vr _ _ H Γ .refl hr r_bl z⟩⟩
theorem cq_instXT : CallQ X (.builtin "isinstance") (fun xs Γ Z => ∃ (x D : Addr) (ts : List T) (cs : List Value) (b : Bool), xs = [.ref x, .tup ts] ∧ clsTs ts = some cs ∧ ExC X.K D ∧ Γ x = some (.ext (ExAt x D)) ∧ PySem.W.kitAny X.K (.ref D) cs = some b ∧ Z (.bl b) Γ) :=
 ⟨_, call_instXT, fun vs xs H Γ Q Z r hr q0 vr => by
  obtain ⟨x, D, ts, cs, b, e, hc, ex, g, k, z⟩ := q0
  subst e
  obtain ⟨v, w, rfl, a, b'⟩ := rs2 r
  obtain ⟨p, us, rfl, hp, q⟩ := i_tup b'
  exact ⟨x, D, p, us, cs, b, by rw [i_ref a], hp, clsTs_r q hc, ex, hr x _ g, k, vr _ _ H Γ .refl hr r_bl z⟩⟩
section
variable {e st : Expr} {te ts : E3} {p2 : Pos}
end
end
end L3
set_option Elab.async false
set_option linter.all false
set_option maxRecDepth 100000
namespace L3
open PySem PySem.Spec L2
open PyProof.Rows hiding St
def Le (Γ Γ' : Gp) : Prop := ∀ a o, Γ a = some o → Γ' a = some o
theorem Le.refl {Γ : Gp} : Le Γ Γ := fun _ _ h => h
theorem Le.trans {Γ Γ1 Γ' : Gp} (a : Le Γ Γ1) (b : Le Γ1 Γ') : Le Γ Γ' := fun x o h => b x o (a x o h)
theorem Le.new {Γ : Gp} {p : Addr} {o : O} (h : Γ p = none) : Le Γ (up Γ p o) := fun b u q => by rw [up_ne (gnn q h)]; exact q
theorem HR.le {H : Hp} {Γ Γ' : Gp} (h : HR H Γ') (l : Le Γ Γ') : HR H Γ := fun a o e => h a o (l a o e)
def Kq (l : List Addr) (Γ Γ' : Gp) : Prop := ∀ b o, b ∉ l → Γ b = some o → Γ' b = some o
theorem Kq.refl {l : List Addr} {Γ : Gp} : Kq l Γ Γ := fun _ _ _ h => h
theorem Kq.trans {l : List Addr} {Γ Γ1 Γ' : Gp} (a : Kq l Γ Γ1) (b : Kq l Γ1 Γ') : Kq l Γ Γ' := fun c o n h => b c o n (a c o n h)
theorem Kq.mono {l l' : List Addr} {Γ Γ1 : Gp} (a : Kq l Γ Γ1) (s : ∀ b ∈ l, b ∈ l') : Kq l' Γ Γ1 := fun c o n h => a c o (fun z => n (s c z)) h
theorem Kq.new {l : List Addr} {Γ : Gp} {p : Addr} (h : Γ p = none) (o : O) : Kq l Γ (up Γ p o) := fun b u _ q => by rw [up_ne (gnn q h)]; exact q
theorem Kq.set {l : List Addr} {Γ : Gp} {p : Addr} (h : p ∈ l) (o : O) : Kq l Γ (up Γ p o) := fun b u n q => by
 have e : b ≠ p := fun z => n (by rw [z]; exact h)
 rw [up_ne e]; exact q
theorem Kq.le {Γ Γ' : Gp} (k : Kq [] Γ Γ') : Le Γ Γ' := fun a o h => k a o (by simp) h
theorem Le.kq {l : List Addr} {Γ Γ' : Gp} (k : Le Γ Γ') : Kq l Γ Γ' := fun a o _ h => k a o h
def Fr (l : List Addr) (Γ Γ' : Gp) : Prop := ∀ b, b ∉ l → Γ' b = Γ b
theorem Fr.refl {l : List Addr} {Γ : Gp} : Fr l Γ Γ := fun _ _ => rfl
theorem Fr.kq {l : List Addr} {Γ Γ' : Gp} (h : Fr l Γ Γ') : Kq l Γ Γ' := fun b o n q => by rw [h b n]; exact q
theorem Fr.trans {l : List Addr} {Γ Γ1 Γ' : Gp} (a : Fr l Γ Γ1) (b : Fr l Γ1 Γ') : Fr l Γ Γ' := fun x n => (b x n).trans (a x n)
theorem Fr.mono {l l' : List Addr} {Γ Γ1 : Gp} (a : Fr l Γ Γ1) (s : ∀ b ∈ l, b ∈ l') : Fr l' Γ Γ1 := fun c n => a c fun z => n (s c z)
theorem Fr.set {l : List Addr} {Γ : Gp} {p : Addr} (h : p ∈ l) (o : O) : Fr l Γ (up Γ p o) := fun b n => up_ne fun z => n (by rw [z]; exact h)
def dropK (Z : K3) : K3 := fun x Γ' => ∃ Γ2, Le Γ2 Γ' ∧ Z x Γ2
theorem drop0 {Z : K3} {x : T} {Γ Γ' : Gp} (k : Le Γ Γ') (z : Z x Γ) : dropK Z x Γ' := ⟨Γ, k, z⟩
theorem dropL1 {Z : K3} {x : T} {Γ Γ' : Gp} {a : Addr} {o : O} (k : Kq [a] Γ Γ') (h : Γ' a = some o) (z : Z x (up Γ a o)) : dropK Z x Γ' := ⟨up Γ a o, fun b u q => by
 by_cases e : b = a
 ·subst e; rw [up_same] at q; cases q; exact h
 ·rw [up_ne e] at q; exact k b u (by simpa using e) q, z⟩
theorem Stp.cut {H H' : Hp} {Γ Γ' Γ2 : Gp} (s : Stp H Γ H' Γ') (l : Le Γ2 Γ') : Stp H Γ H' Γ2 := ⟨s.tq, s.dom, fun a h g => by
 cases e : Γ2 a with
 | none => rfl
 | some o => exact (by have := l a o e; rw [s.new a h g] at this; cases this), s.frm⟩
section
variable {P : Program} {w : World} {K : PySem.W.Frag} {mg : Str → Option Value} {base : Heap}
theorem okd {x qual : Str} {st : Stmt} {f : Addr} {fd : FuncData} {N ps : List Str} {k : Nat} {sp : Sp3} (F : Fun K x qual st f fd) (S : FnScope N ps (defScope st)) (len : ∀ ts Γ Z Y, sp ts Γ Z Y → ts.length = ps.length)
  (hbody : ∀ (cdv : Value) (A : Around) (outer : List Env) (s : Shared) (H : Hp) (E : XK) (ts : List T) (Γ : Gp) (Z : K3) (Y : Value → Gp → Prop), Room k (A.deeper (envOfC qual (defScope st) s.heap.objs.size f cdv)) → sp ts Γ Z Y →
   ∃ t, PSs (cxOf CX0 P w K mg base N qual (defScope st) f cdv A outer s H E).nox (defBody st) (liS EN t) ∧ t Y0 { nx := fun _ Γ' => dropK Z .non Γ', rt := dropK Z } (start3 N ts) Γ) : FnOk P w K mg base CX0 (k + 1) f fd ps (liSp sp) := by
 refine F.ok S (fun vs H Q E q0 => by obtain ⟨ts, Γ, Z, Y, r, _, h, _⟩ := q0; rw [r.length]; exact len _ _ _ _ h) fun cdv A outer s H vs Q E hr ⟨ts, Γ, Z, Y, r, h, hsp, vr, xr⟩ => ?_
 obtain ⟨t, ht, hq⟩ := hbody cdv A outer s H E ts Γ Z Y hr hsp
 exact ⟨_, ht, start3 N ts, Γ, Y0, _, rs_start N r (by rw [len _ _ _ _ hsp]; exact sc_len S), h, hq, ⟨fun σ τ H' Γ' s' h' _ ⟨Γ2, l, z⟩ => vr .non .non H' Γ2 (s'.cut l) (h'.le l) r_non z, fun v x H' Γ' s' h' rv ⟨Γ2, l, z⟩ => vr v x H' Γ2 (s'.cut l) (h'.le l) rv z, fun _ _ _ _ _ _ _ z => z.elim, fun _ _ _ _ _ _ _ z => z.elim⟩, xr0⟩
theorem okdX {x qual : Str} {st : Stmt} {f : Addr} {fd : FuncData} {N ps : List Str} {k : Nat} {sp : Sp3} (F : Fun K x qual st f fd) (S : FnScope N ps (defScope st)) (len : ∀ ts Γ Z Y, sp ts Γ Z Y → ts.length = ps.length)
  (hbody : ∀ (cdv : Value) (A : Around) (outer : List Env) (s : Shared) (H : Hp) (E : XK) (ts : List T) (Γ : Gp) (Z : K3) (Y : Value → Gp → Prop), Room k (A.deeper (envOfC qual (defScope st) s.heap.objs.size f cdv)) → sp ts Γ Z Y →
   ∃ t, PSs (cxE P w K mg base N qual (defScope st) f cdv A outer s H E) (defBody st) (liS (fun _ => E) t) ∧ t (fun _ C Γ' => ∃ Γ2, Le Γ2 Γ' ∧ Y C Γ2) { nx := fun _ Γ' => dropK Z .non Γ', rt := dropK Z } (start3 N ts) Γ) : FnOk P w K mg base (CXe P w) (k + 1) f fd ps (liSp sp) := by
 refine F.okX S (fun vs H Q E q0 => by obtain ⟨ts, Γ, Z, Y, r, _, h, _⟩ := q0; rw [r.length]; exact len _ _ _ _ h) fun cdv A outer s H vs Q E hr ⟨ts, Γ, Z, Y, r, h, hsp, vr, xr⟩ => ?_
 obtain ⟨t, ht, hq⟩ := hbody cdv A outer s H E ts Γ Z Y hr hsp
 exact ⟨_, ht, start3 N ts, Γ, _, _, rs_start N r (by rw [len _ _ _ _ hsp]; exact sc_len S), h, hq, ⟨fun σ τ H' Γ' s' h' _ ⟨Γ2, l, z⟩ => vr .non .non H' Γ2 (s'.cut l) (h'.le l) r_non z, fun v x H' Γ' s' h' rv ⟨Γ2, l, z⟩ => vr v x H' Γ2 (s'.cut l) (h'.le l) rv z, fun _ _ _ _ _ _ _ z => z.elim, fun _ _ _ _ _ _ _ z => z.elim⟩, fun σ τ C H' Γ' s' h' _ ⟨Γ2, l, y⟩ => xr C H' Γ2 (s'.cut l) (h'.le l) y⟩
theorem noC {f : Addr} {fd : FuncData} {ps : List Str} {sp : Sp3} {k : Nat} {CX : CXT} (no : ∀ ts Γ Z Y, ¬ sp ts Γ Z Y) : FnOk P w K mg base CX k f fd ps (liSp sp) :=
 ⟨fun vs H Q E ⟨ts, Γ, Z, Y, _, _, h, _⟩ => absurd h (no _ _ _ _), fun A outer s H args us vs Q E _ _ _ _ ⟨ts, Γ, Z, Y, _, _, h, _⟩ => absurd h (no _ _ _ _)⟩
end
theorem at0 {α : Type} {t : α} {ts : List α} : atI (t :: ts) 0 = some t := by show atI (t :: ts) ((0 : Nat) : Int) = some t; exact atI_nat rfl
theorem at1 {α : Type} {t u : α} {ts : List α} : atI (t :: u :: ts) 1 = some u := by show atI (t :: u :: ts) ((1 : Nat) : Int) = some u; exact atI_nat rfl
section
variable {Y : X3} {τ : S3} {Γ : Gp} {Z : K3} {D : D3} {B : Bool → Gp → Prop} {N : S3 → Gp → Prop}
theorem t_var {i : Nat} {x : T} (h : τ[i]? = some (some x)) (z : Z x Γ) : eVar i Y τ Γ Z := ⟨x, h, z⟩
theorem t_c {x : T} (z : Z x Γ) : eC x Y τ Γ Z := z
theorem t_op {r : R3} {a b : E3} (h : a Y τ Γ fun x Γ1 => b Y τ Γ1 fun y Γ2 => r x y Γ2 Z) : eOp r a b Y τ Γ Z := h
theorem t_T {t : E3} (h : t Y τ Γ fun x Γ1 => ∃ k, x = .bl k ∧ B k Γ1) : eT t Y τ Γ B := h
theorem t_bl {b : Bool} {Q : Bool → Prop} (h : Q b) : ∃ k, T.bl b = .bl k ∧ Q k := ⟨b, rfl, h⟩
theorem t_seq {t u : C3} (h : t Y { D with nx := u Y D } τ Γ) : cSeq t u Y D τ Γ := h
theorem t_if {c : T3} {t u : C3} (h : c Y τ Γ fun b Γ1 => if b = true then t Y D τ Γ1 else u Y D τ Γ1) : cIf c t u Y D τ Γ := h
theorem t_set {i : Nat} {te : E3} (h : te Y τ Γ fun x Γ1 => D.nx (τ.set i (some x)) Γ1) : cSet i te Y D τ Γ := h
theorem t_ret {te : E3} (h : te Y τ Γ D.rt) : cRet te Y D τ Γ := h
theorem t_retN (h : D.rt .non Γ) : cRetN Y D τ Γ := h
theorem t_drop {te : E3} (h : te Y τ Γ fun _ Γ1 => D.nx τ Γ1) : cDrop te Y D τ Γ := h
theorem t_next (h : D.nx τ Γ) : cNext Y D τ Γ := h
theorem t_cnt (h : D.ct τ Γ) : cCont Y D τ Γ := h
theorem t_and {a b : E3} (h : a Y τ Γ fun x Γ1 => ∃ c, x = .bl c ∧ if c = true then b Y τ Γ1 Z else Z (.bl false) Γ1) : eAnd a b Y τ Γ Z := h
theorem t_or {a b : E3} (h : a Y τ Γ fun x Γ1 => ∃ c, x = .bl c ∧ if c = true then Z (.bl true) Γ1 else b Y τ Γ1 Z) : eOr a b Y τ Γ Z := h
theorem t_not {a : E3} (h : a Y τ Γ fun x Γ1 => ∃ c, x = .bl c ∧ Z (.bl (!c)) Γ1) : eNot a Y τ Γ Z := h
theorem t_band {a b : T3} (h : a Y τ Γ fun c Γ1 => if c = true then b Y τ Γ1 B else B false Γ1) : bAnd a b Y τ Γ B := h
theorem t_bor {a b : T3} (h : a Y τ Γ fun c Γ1 => if c = true then B true Γ1 else b Y τ Γ1 B) : bOr a b Y τ Γ B := h
theorem t_bnot {a : T3} (h : a Y τ Γ fun c Γ1 => B (!c) Γ1) : bNot a Y τ Γ B := h
theorem t_eif {c : T3} {a b : E3} (h : c Y τ Γ fun k Γ1 => if k = true then a Y τ Γ1 Z else b Y τ Γ1 Z) : eIf c a b Y τ Γ Z := h
theorem t_nil {A : List T → Gp → Prop} (h : A [] Γ) : aNil Y τ Γ A := h
theorem t_cons {A : List T → Gp → Prop} {te : E3} {t : A3} (h : te Y τ Γ fun x Γ1 => t Y τ Γ1 fun xs Γ2 => A (x :: xs) Γ2) : aCons te t Y τ Γ A := h
theorem t_tup {t : A3} (h : t Y τ Γ fun xs Γ1 => xs.length ≤ sizeLine ∧ Z (.tup xs) Γ1) : eTup t Y τ Γ Z := h
theorem t_lst {t : A3} (h : t Y τ Γ fun xs Γ1 => xs.length ≤ sizeLine ∧ ∀ p, Γ1 p = none → Z (.ref p) (up Γ1 p (.lst xs))) : eLst t Y τ Γ Z := h
theorem t_len {n : Nat} {A : Prop} (h : Nat.ble n 1000 = true) (a : A) : n ≤ sizeLine ∧ A := ⟨Nat.le_trans (Nat.le_of_ble_eq_true h) (by decide), a⟩
theorem t_call {sp : Sp3} {t : A3} (h : t Y τ Γ fun xs Γ1 => sp xs Γ1 Z fun _ _ => False) : eCall sp t Y τ Γ Z := h
theorem t_callX {sp : Sp3} {t : A3} (h : t Y τ Γ fun xs Γ1 => sp xs Γ1 Z (Y τ)) : eCallX sp t Y τ Γ Z := h
theorem t_cb {r : F3} {t : A3} (h : t Y τ Γ fun ts Γ1 => r ts Γ1 Z) : eCB r t Y τ Γ Z := h
theorem t_J {g : Int → Int → T} {i j : Int} (h : Z (g i j) Γ) : r3J g (.int i) (.int j) Γ Z := ⟨i, j, rfl, rfl, h⟩
theorem t_I {C : Int → Int → Prop} {g : Int → Int → T} {i j : Int} (c : C i j) (h : Z (g i j) Γ) : r3I C g (.int i) (.int j) Γ Z := ⟨i, j, rfl, rfl, c, h⟩
theorem t_eqS {a b : Str} (h : Z (.bl (decide (V.str a = V.str b))) Γ) : r3Eq (.str a) (.str b) Γ Z := ⟨_, _, rfl, rfl, rfl, h⟩
theorem t_eqI {a b : Int} (h : Z (.bl (decide (V.int a = V.int b))) Γ) : r3Eq (.int a) (.int b) Γ Z := ⟨_, _, rfl, rfl, rfl, h⟩
theorem t_neS {a b : Str} (h : Z (.bl (!decide (V.str a = V.str b))) Γ) : r3Ne (.str a) (.str b) Γ Z := ⟨_, _, rfl, rfl, rfl, h⟩
theorem t_neI {a b : Int} (h : Z (.bl (!decide (V.int a = V.int b))) Γ) : r3Ne (.int a) (.int b) Γ Z := ⟨_, _, rfl, rfl, rfl, h⟩
theorem t_ix0 {t : T} {ts : List T} (z : Z t Γ) : r3Ix (.tup (t :: ts)) (.int 0) Γ Z := ⟨_, 0, t, rfl, rfl, at0, z⟩
theorem t_ix1 {t u : T} {ts : List T} (z : Z u Γ) : r3Ix (.tup (t :: u :: ts)) (.int 1) Γ Z := ⟨_, 1, u, rfl, rfl, at1, z⟩
theorem t_bm {Tn : String} {r : M3r} {to : E3} {t : A3} (h : to Y τ Γ fun x Γ1 => tyOf Γ1 x = some Tn ∧ t Y τ Γ1 fun xs Γ2 => r x xs Γ2 Z) : eBM Tn r to t Y τ Γ Z := h
theorem t_bm0 {Tn : String} {r : M3r} {to : E3} (h : to Y τ Γ fun x Γ1 => tyOf Γ1 x = some Tn ∧ r x [] Γ1 Z) : eBM0 Tn r to Y τ Γ Z := h
theorem t_inst {K : PySem.W.Frag} {Ty : String} {te : E3} (h : te Y τ Γ fun x Γ1 => ∃ n b, tyOf Γ1 x = some n ∧ PySem.W.kitOne K (.type n) (.type Ty) = some b ∧ Z (.bl b) Γ1) : eInst K Ty te Y τ Γ Z := h
theorem t_tru {t : E3} (h : t Y τ Γ fun x Γ1 => ∃ k, tru3 Γ1 x = some k ∧ B k Γ1) : eTru t Y τ Γ B := h
theorem t_asg {te : E3} {g : G3} (h : te Y τ Γ fun x Γ1 => g Y x τ Γ1 D.nx) : cAsg te g Y D τ Γ := h
theorem t_hn {i : Nat} {x : T} (h : N (τ.set i (some x)) Γ) : hName i Y x τ Γ N := h
theorem t_ht {n : Nat} {gs : Gs3} {ts : List T} (l : Nat.beq ts.length n = true) (h : gs Y ts τ Γ N) : hTup n gs Y (.tup ts) τ Γ N := ⟨ts, rfl, Nat.eq_of_beq_eq_true l, h⟩
theorem t_hc {g : G3} {gs : Gs3} {x : T} {r : List T} (h : g Y x τ Γ fun τ1 Γ1 => gs Y r τ1 Γ1 N) : hCons g gs Y (x :: r) τ Γ N := ⟨x, r, rfl, h⟩
theorem t_h0 (h : N τ Γ) : hNil Y [] τ Γ N := ⟨rfl, h⟩
theorem t_hs {to ti : E3} {v : T} (h : to Y τ Γ fun o Γ1 => ti Y τ Γ1 fun i Γ2 => ∃ a ts k j, o = .ref a ∧ i = .int k ∧ Γ2 a = some (.lst ts) ∧ ixN ts.length k = some j ∧ N τ (up Γ2 a (.lst (ts.set j v)))) : hSub to ti Y v τ Γ N := h
theorem t_un {r : T → Gp → K3 → Prop} {a : E3} (h : a Y τ Γ fun x Γ1 => r x Γ1 Z) : eUn r a Y τ Γ Z := h
theorem t_neg {g : Int → T} {i : Int} (h : Z (g i) Γ) : r3U g (.int i) Γ Z := ⟨i, rfl, h⟩
theorem t_sl {r : L3r} {te : E3} {tl th : O3} (h : te Y τ Γ fun x Γ1 => tl Y τ Γ1 fun l Γ2 => th Y τ Γ2 fun u Γ3 => r x l u Γ3 Z) : eSl r te tl th Y τ Γ Z := h
theorem t_on {Q : Option Int → Gp → Prop} (h : Q none Γ) : oNone Y τ Γ Q := h
theorem t_os {Q : Option Int → Gp → Prop} {t : E3} (h : t Y τ Γ fun x Γ1 => ∃ i, x = .int i ∧ Q (some i) Γ1) : oSome t Y τ Γ Q := h
theorem t_oi {i : Int} {Q : Int → Prop} (h : Q i) : ∃ k, T.int i = .int k ∧ Q k := ⟨i, rfl, h⟩
theorem t_rev {r : T → Gp → K3 → Prop} {te ts : E3} (h : te Y τ Γ fun x Γ1 => ts Y τ Γ1 fun k Γ2 => k = .int (-1) ∧ r x Γ2 Z) : eRev r te ts Y τ Γ Z := h
theorem t_for {wi : I3} {g : G3} {tb : C3} (h : wi Y τ Γ fun ts gd Γ1 => wFor gd g tb Y D ts τ Γ1) : cFor wi g tb Y D τ Γ := h
theorem t_itp {tl : E3} {I : List T → (Gp → Prop) → Gp → Prop} (h : tl Y τ Γ fun x Γ1 => ∃ ts, x = .tup ts ∧ I ts gT Γ1) : iTp tl Y τ Γ I := h
theorem t_tp {ts : List T} {Q : List T → Prop} (h : Q ts) : ∃ us, T.tup ts = .tup us ∧ Q us := ⟨ts, rfl, h⟩
theorem t_comp {wi : I3} {g : G3} {tc : T3} {te : E3} {own : List Str} {cap : List (Nat × Str)} (h : wi Y τ Γ fun ts gd Γ1 => ts.length ≤ sizeLine ∧ wComp gd g tc te (fun ys Γ2 => ∀ D, Γ2 D = none → Z (.ref D) (up Γ2 D (.lst ys))) ts (cSt own cap τ) [] Γ1) : eComp wi g tc te own cap Y τ Γ Z := h
theorem t_bt (h : B true Γ) : bTrue Y τ Γ B := h
theorem t_raise {C : Addr} {t : A3} (h : t Y τ Γ fun xs Γ1 => xs.length ≤ sizeLine ∧ Y τ (.ref C) Γ1) : cRaise C t Y D τ Γ := h
theorem t_rg1 {ta : A3} {I : List T → (Gp → Prop) → Gp → Prop} (h : ta Y τ Γ fun xs Γ1 => ∃ j : Int, xs = [.int j] ∧ -(2 ^ 62) ≤ j ∧ j < 2 ^ 62 ∧ I (rngT 0 j.toNat) gT Γ1) : iRg1 ta Y τ Γ I := h
theorem t_zp {ta : A3} {I : List T → (Gp → Prop) → Gp → Prop} (h : ta Y τ Γ fun xs Γ1 => ∃ ts us, xs = [.tup ts, .tup us] ∧ I (zipT ts us) gT Γ1) : iZp ta Y τ Γ I := h
theorem t_en {ta : A3} {I : List T → (Gp → Prop) → Gp → Prop} (h : ta Y τ Γ fun xs Γ1 => ∃ ts, xs = [.tup ts] ∧ I (enumT 0 ts) gT Γ1) : iEn ta Y τ Γ I := h
theorem t_ils {tl : E3} {I : List T → (Gp → Prop) → Gp → Prop} (h : tl Y τ Γ fun x Γ1 => ∃ a ts, x = .ref a ∧ it3 Γ1 (.ref a) = some ts ∧ I ts (fun Γ' => it3 Γ' (.ref a) = some ts) Γ1) : iLs tl Y τ Γ I := h
theorem t_ist {tl : E3} {I : List T → (Gp → Prop) → Gp → Prop} (h : tl Y τ Γ fun x Γ1 => ∃ z, x = .str z ∧ I (signsT z) gT Γ1) : iSt tl Y τ Γ I := h
theorem t_str {z : Str} {Q : Str → Prop} (h : Q z) : ∃ k, T.str z = .str k ∧ Q k := ⟨z, rfl, h⟩
theorem c_ifT {b : Bool} {A C : Prop} (h : b = true) (a : A) : if b = true then A else C := by rw [if_pos h]; exact a
theorem c_ifF {b : Bool} {A C : Prop} (h : b = false) (a : C) : if b = true then A else C := by rw [if_neg (by rw [h]; exact Bool.false_ne_true)]; exact a
theorem c_if {b : Bool} {A C : Prop} (h1 : b = true → A) (h2 : b = false → C) : if b = true then A else C := by
 cases b with
 | true => rw [if_pos rfl]; exact h1 rfl
 | false => rw [if_neg Bool.false_ne_true]; exact h2 rfl
end
end L3
set_option Elab.async false
set_option linter.all false
set_option maxRecDepth 100000
namespace L3
open PySem PySem.Spec L2
open PyProof.Rows hiding St
section
variable {X : Cx}
end
end L3
namespace L3
open PySem PySem.Spec L2
section
variable {Y : X3} {τ : S3} {Γ : Gp} {Z : K3}
theorem t_1t {us : List T} {Q : List T → Prop} (h : Q us) : ∃ ts, [T.tup us] = [T.tup ts] ∧ Q ts := ⟨us, rfl, h⟩
theorem t_2t {us ws : List T} {Q : List T → List T → Prop} (h : Q us ws) : ∃ ts vs, [T.tup us, T.tup ws] = [T.tup ts, T.tup vs] ∧ Q ts vs := ⟨us, ws, rfl, h⟩
theorem t_eqSI {a : Str} {b : Int} (h : Z (.bl false) Γ) : r3Eq (.str a) (.int b) Γ Z := ⟨_, _, rfl, rfl, rfl, h⟩
theorem t_eqIS {a : Int} {b : Str} (h : Z (.bl false) Γ) : r3Eq (.int a) (.str b) Γ Z := ⟨_, _, rfl, rfl, rfl, h⟩
theorem t_neSI {a : Str} {b : Int} (h : Z (.bl true) Γ) : r3Ne (.str a) (.int b) Γ Z := ⟨_, _, rfl, rfl, rfl, h⟩
theorem t_neIS {a : Int} {b : Str} (h : Z (.bl true) Γ) : r3Ne (.int a) (.str b) Γ Z := ⟨_, _, rfl, rfl, rfl, h⟩
theorem t_gT {A : Prop} (h : A) : gT Γ ∧ A := ⟨trivial, h⟩
theorem d_int {a b : Int} (h : decide (V.int a = V.int b) = true) : a = b := V.int.inj (of_decide_eq_true h)
theorem t_lenT {us : List T} {Q : T → List T → Prop} (h : Q (.tup us) us) : ∃ x ts, [T.tup us] = [x] ∧ it3 Γ x = some ts ∧ Q x ts := ⟨.tup us, us, rfl, rfl, h⟩
end
end L3
namespace L3
open PySem PySem.Spec L2
section
variable {Y : X3} {τ : S3} {Γ : Gp} {Z : K3}
theorem t_chain {r r' : R3} {a b c : E3} (h : a Y τ Γ fun x Γ1 => b Y τ Γ1 fun y Γ2 => r x y Γ2 fun z Γ3 => ∃ k, z = .bl k ∧ (if k = true then c Y τ Γ3 fun w' Γ4 => r' y w' Γ4 Z else Z (.bl false) Γ3)) : eChain r r' a b c Y τ Γ Z := h
theorem t_inT {neg : Bool} {x : T} {u : V} {ts : List T} {us : List V} (h1 : sc x = some u) (h2 : scs ts = some us) (h3 : (flatV u && us.all flatV) = true) (z : Z (.bl (if neg then !inV u us else inV u us)) Γ) : r3In neg x (.tup ts) Γ Z := by
 rw [Bool.and_eq_true] at h3
 exact ⟨u, ts, us, h1, rfl, h2, h3.1, h3.2, z⟩
theorem t_lenR {p : Addr} {ts : List T} {Q : T → List T → Prop} (g : Γ p = some (.lst ts)) (h : Q (.ref p) ts) : ∃ x us, [T.ref p] = [x] ∧ it3 Γ x = some us ∧ Q x us := ⟨.ref p, ts, rfl, it3_l g, h⟩
theorem t_ixR {p : Addr} {ts : List T} {i : Int} {t : T} (g : Γ p = some (.lst ts)) (h : atI ts i = some t) (z : Z t Γ) : r3Ix (.ref p) (.int i) Γ Z := ⟨ts, i, t, it3_l g, rfl, h, z⟩
theorem t_ixT {ts : List T} {i : Int} {t : T} (h : atI ts i = some t) (z : Z t Γ) : r3Ix (.tup ts) (.int i) Γ Z := ⟨ts, i, t, rfl, rfl, h, z⟩
theorem t_tyL {p : Addr} {ts : List T} {A : Prop} (g : Γ p = some (.lst ts)) (h : A) : tyOf Γ (.ref p) = some "list" ∧ A := ⟨by show (match Γ p with | some (.lst _) => some "list" | some (.dK _) => some "dict" | _ => none) = _; rw [g], h⟩
theorem t_tyS {z : Str} {A : Prop} (h : A) : tyOf Γ (.str z) = some "str" ∧ A := ⟨rfl, h⟩
end
end L3
namespace L3
open PySem PySem.Spec L2
section
variable {Y : X3} {τ : S3} {Γ : Gp} {Z : K3} {N : S3 → Gp → Prop}
theorem t_2i {i j : Int} {Q : Int → Int → Prop} (h : Q i j) : ∃ i' j', [T.int i, T.int j] = [T.int i', T.int j'] ∧ Q i' j' := ⟨i, j, rfl, h⟩
theorem t_hsub {p : Addr} {ts : List T} {k : Int} {j : Nat} {v : T} (g : Γ p = some (.lst ts)) (h : ixN ts.length k = some j) (z : N τ (up Γ p (.lst (ts.set j v)))) : ∃ a us k' j', T.ref p = .ref a ∧ T.int k = .int k' ∧ Γ a = some (.lst us) ∧ ixN us.length k' = some j' ∧ N τ (up Γ a (.lst (us.set j' v))) := ⟨p, ts, k, j, rfl, rfl, g, h, z⟩
end
end L3
namespace L3
open PySem PySem.Spec L2
section
variable {Y : X3} {τ : S3} {Γ : Gp} {Z : K3} {N : S3 → Gp → Prop}
theorem t_e0 {A : Prop} (h : A) : T.tup [] = T.tup [] ∧ A := ⟨rfl, h⟩
end
end L3
namespace L3
open PySem PySem.Spec L2
section
variable {Y : X3} {τ : S3} {Γ : Gp} {Z : K3} {D : D3}
theorem t_try {K : PySem.W.Frag} {Cy : Addr} {j : Nat} {tb ts : C3} (h : tb (fun τ' C Γ' => PySem.W.exmOne K C (.ref Cy) = some true ∧ ∀ x, Γ' x = none →
 ts Y0 { nx := fun τ2 Γ2 => D.nx (τ2.set j none) Γ2, rt := D.rt, bk := fun τ2 Γ2 => D.bk (τ2.set j none) Γ2, ct := fun τ2 Γ2 => D.ct (τ2.set j none) Γ2 } (τ'.set j (some (.ref x))) (up Γ' x (.ext (excAt x C)))) D τ Γ) : cTry K Cy j tb ts Y D τ Γ := h
theorem t_lz {ta : A3} (h : ta Y τ Γ fun xs Γ1 => ∃ ts us, xs = [.tup ts, .tup us] ∧ ts.length = us.length ∧ ∀ p, Γ1 p = none → Z (.ref p) (up Γ1 p (.lst (zipT ts us)))) : eLZ ta Y τ Γ Z := h
end
inductive Pl : T → Prop
 | int (i : Int) : Pl (.int i)
 | str {z : Str} : Pl (.str z)
 | tup {ts : List T} (q : ∀ t ∈ ts, Pl t) : Pl (.tup ts)
theorem zip_self : ∀ ts : List T, zipT ts ts = ts.map fun y => .tup [y, y]
 | [] => rfl
 | t :: r => by rw [zipT, zip_self r]; rfl
theorem oq_eqLI {X : Cx} (hu : X.A.units < cLine) : OpQ X (compareOp .Eq) (fun x y Γ Z => ∃ (a b : Addr) (ns ms : List Int), x = .ref a ∧ y = .ref b ∧ Γ a = some (.lst (ns.map T.int)) ∧ Γ b = some (.lst (ms.map T.int)) ∧ Z (.bl (decide (ns = ms))) Γ) :=
 ⟨_, op_eqLI hu, fun x y a b H Γ Q Z ra rb hr q0 vr => by
  obtain ⟨p, p', ns, ms, ea, eb, g1, g2, z⟩ := q0
  subst ea eb
  obtain ⟨vs, hv, q⟩ := hr p _ g1
  obtain ⟨vs', hv', q'⟩ := hr p' _ g2
  rw [rs_ints q] at hv
  rw [rs_ints q'] at hv'
  exact ⟨p, p', ns, ms, i_ref ra, i_ref rb, hv, hv', vr _ _ H Γ .refl hr r_bl z⟩⟩
theorem us1 {α : Type} {P : List α → Prop} (h : ∀ a0, P [a0]) : ∀ us : List α, us.length = 1 → P us
 | [a0], _ => h _
theorem us2 {α : Type} {P : List α → Prop} (h : ∀ a0 a1, P [a0, a1]) : ∀ us : List α, us.length = 2 → P us
 | [a0, a1], _ => h _ _
theorem us3 {α : Type} {P : List α → Prop} (h : ∀ a0 a1 a2, P [a0, a1, a2]) : ∀ us : List α, us.length = 3 → P us
 | [a0, a1, a2], _ => h _ _ _
theorem us4 {α : Type} {P : List α → Prop} (h : ∀ a0 a1 a2 a3, P [a0, a1, a2, a3]) : ∀ us : List α, us.length = 4 → P us
 | [a0, a1, a2, a3], _ => h _ _ _ _
theorem us5 {α : Type} {P : List α → Prop} (h : ∀ a0 a1 a2 a3 a4, P [a0, a1, a2, a3, a4]) : ∀ us : List α, us.length = 5 → P us
 | [a0, a1, a2, a3, a4], _ => h _ _ _ _ _
end L3
set_option Elab.async false
set_option linter.all false
set_option maxRecDepth 100000
namespace L3
open PySem PySem.Spec L2
open PyProof.Rows hiding St
section
variable {X : Cx}
inductive Dq : Nat → T → Prop
 | flat {d : Nat} {t : T} {u : V} (h : sc t = some u) (f : flatV u = true) : Dq d t
 | tup {d : Nat} {ts : List T} (q : ∀ t ∈ ts, Dq d t) : Dq (d + 1) (.tup ts)
theorem eqV_self {v : V} (f : flatV v = true) : eqV v v = true := by
 cases v with
 | non => rfl
 | bl b => simp [eqV]
 | int i => simp [eqV]
 | str z => simp [eqV]
 | _ => exact absurd f (by simp [flatV])
theorem Rs.getD {H : Hp} : ∀ {vs : List V} {ts : List T} {j : Nat} {t : T}, Rs H vs ts → ts[j]? = some t → R H (vs.getD j .non) t
 | vs, [], j, t, q, h => by simp at h
 | vs, x :: ts, j, t, q, h => by
  obtain ⟨w, ws, rfl, r1, r2⟩ := rs_inv q
  cases j with
  | zero => cases h; exact r1
  | succ j =>
   show R H (ws.getD j .non) t
   exact Rs.getD r2 (by simpa using h)
theorem eq_deep {pins : List (Addr × Obj)} {s : Shared} {σ : L2.St} {H : Hp} (I : L2.Inv X pins σ H s) : ∀ {d : Nat} {t : T}, Dq d t → ∀ {A : Around} {v v' : V} {u u' : Value}, A.units + d < cLine → R H v t → R H v' t → RelV v u → RelV v' u' → SeqAt.EqAt A s u u' true := by
 intro d t h
 induction h with
 | @flat d t z h f =>
  intro A v v' u u' hu r r' x x'
  rw [sc_r r h] at x
  rw [sc_r r' h] at x'
  have := eqAt_V (A := A) (s := s) x x' f f
  rwa [eqV_self f] at this
 | @tup d ts q ih =>
  intro A v v' u u' hu r r' x x'
  obtain ⟨p, vs, rfl, hp, rr⟩ := i_tup r
  obtain ⟨p', vs', rfl, hp', rr'⟩ := i_tup r'
  cases x
  cases x'
  by_cases e : p = p'
  ·subst e
   exact SeqAt.EqAt.same _
  ·obtain ⟨its, rv, pl, hz⟩ := I.tuple (SqT.of (K := X.K) hp)
   obtain ⟨its2, rv2, pl2, hz2⟩ := I.tuple (SqT.of (K := X.K) hp')
   have l1 := rr.length
   have l2 := rr'.length
   have l3 := rv.length
   have l4 := rv2.length
   have := SeqAt.RcAt.tuples (A := A) (e := fun _ => true) pl pl2 (by omega) (fun j h1 h2 => ?_)
   ·refine SeqAt.EqAt.of_refs e ?_
    have hb : ((List.range (min its.toArray.size its2.toArray.size)).all (fun _ => true) && its.toArray.size == its2.toArray.size) = true := by
     rw [Bool.and_eq_true]
     exact ⟨List.all_eq_true.mpr fun _ _ => rfl, by rw [beq_iff_eq, List.size_toArray, List.size_toArray]; omega⟩
    rwa [hb] at this
   ·have h1' : j < ts.length := by rw [List.size_toArray] at h1; omega
    have g : ts[j]? = some ts[j] := List.getElem?_eq_getElem h1'
    exact ih _ (List.getElem_mem h1') (by show A.units + 1 + d < cLine; omega) (rr.getD g) (rr'.getD g) (Vals.at rv (by simpa using h1)) (Vals.at rv2 (by simpa using h2))
theorem op_neSame {d : Nat} (hu : X.A.units + 1 + d < cLine) : OpR X (compareOp .NotEq) (fun x y H Q => ∃ (a b : Addr) (xs ys : List V) (ts : List T), x = .ref a ∧ y = .ref b ∧ H a = some (.lst xs) ∧ H b = some (.lst ys) ∧ Rs H xs ts ∧ Rs H ys ts ∧ (∀ t ∈ ts, Dq d t) ∧ Q (.bl false) H) := by
 intro pins s σ H x y v u Q I rx ry h
 obtain ⟨a, b, xs, ys, ts, rfl, rfl, ha, hb, ra, rb, hq, q⟩ := h
 cases rx
 cases ry
 obtain ⟨its, rv, pl, hz⟩ := I.list (SqL.of (K := X.K) ha)
 obtain ⟨its2, rv2, pl2, hz2⟩ := I.list (SqL.of (K := X.K) hb)
 have l1 := ra.length
 have l2 := rb.length
 have l3 := rv.length
 have l4 := rv2.length
 refine SeqAt.RcNeAt.lists (e := fun _ => true) pl.isList pl2.isList (by rw [List.size_toArray, List.size_toArray]; omega) (by omega) (fun j h1 h2 => ?_) _ _ _ _ ⟨.bl false, H, I, ?_, q⟩
 ·have h1' : j < ts.length := by rw [List.size_toArray] at h1; omega
  have g : ts[j]? = some ts[j] := List.getElem?_eq_getElem h1'
  exact eq_deep I (hq _ (List.getElem_mem h1')) (by show X.A.units + 1 + d < cLine; omega) (ra.getD g) (rb.getD g) (Vals.at rv (by simpa using h1)) (Vals.at rv2 (by simpa using h2))
 ·show _ = Value.bool false
  congr 1
  rw [List.all_eq_true.mpr fun _ _ => rfl]
  rfl
theorem oq_neSame {d : Nat} (hu : X.A.units + 1 + d < cLine) : OpQ X (compareOp .NotEq) (fun x y Γ Z => ∃ (a b : Addr) (ts : List T), x = .ref a ∧ y = .ref b ∧ Γ a = some (.lst ts) ∧ Γ b = some (.lst ts) ∧ (∀ t ∈ ts, Dq d t) ∧ Z (.bl false) Γ) :=
 ⟨_, op_neSame hu, fun x y a b H Γ Q Z ra rb hr q0 vr => by
  obtain ⟨p, p', ts, ea, eb, g1, g2, hq, z⟩ := q0
  subst ea eb
  obtain ⟨vs, hv, q⟩ := hr p _ g1
  obtain ⟨vs', hv', q'⟩ := hr p' _ g2
  exact ⟨p, p', vs, vs', ts, i_ref ra, i_ref rb, hv, hv', q, q', hq, vr _ _ H Γ .refl hr r_bl z⟩⟩
theorem op_neT (hu : X.A.units < cLine) : OpR X (compareOp .NotEq) (fun x y H Q => ∃ a b xs ys, x = .ref a ∧ y = .ref b ∧ SqT X.K H a xs ∧ SqT X.K H b ys ∧ xs.all flatV = true ∧ ys.all flatV = true ∧ Q (.bl (!eqL xs ys)) H) := by
 intro pins s σ H x y v u Q I rx ry h
 obtain ⟨a, b, xs, ys, rfl, rfl, ha, hb, fa, fb, q⟩ := h
 cases rx
 cases ry
 obtain ⟨its, rv, pl, hz⟩ := I.tuple ha
 obtain ⟨its2, rv2, pl2, hz2⟩ := I.tuple hb
 refine SeqAt.RcNeAt.tuples (e := fun j => eqV (xs.getD j .non) (ys.getD j .non)) pl pl2 hu (fun j h1 h2 => ?_) _ _ _ _ ⟨.bl (!eqL xs ys), H, I, ?_, q⟩
 ·exact eqAt_V (Vals.at rv (by simpa using h1)) (Vals.at rv2 (by simpa using h2)) (flat_at fa j) (flat_at fb j)
 ·unfold eqL
  rw [rv.length, rv2.length]
  rfl
theorem oq_neT (hu : X.A.units < cLine) : OpQ X (compareOp .NotEq) (fun x y Γ Z => ∃ ts us xs ys, x = .tup ts ∧ y = .tup us ∧ scs ts = some xs ∧ scs us = some ys ∧ xs.all flatV = true ∧ ys.all flatV = true ∧ Z (.bl (!eqL xs ys)) Γ) :=
 ⟨_, op_neT hu, fun x y a b H Γ Q Z ra rb hr q0 vr => by
  obtain ⟨ts, us, xs, ys, ea, eb, e1, e2, f1, f2, z⟩ := q0
  subst ea eb
  obtain ⟨p, vs, rfl, hp, q⟩ := i_tup ra
  obtain ⟨p', vs', rfl, hp', q'⟩ := i_tup rb
  cases scs_r q e1
  cases scs_r q' e2
  exact ⟨p, p', _, _, rfl, rfl, SqT.of hp, SqT.of hp', f1, f2, vr _ _ H Γ .refl hr r_bl z⟩⟩
end
end L3
set_option Elab.async false
set_option linter.all false
set_option maxRecDepth 100000
namespace L3
open PySem PySem.Spec L2
open PyProof.Rows hiding St
section
variable {X : Cx}
end
end L3
set_option Elab.async false
set_option linter.all false
set_option maxRecDepth 100000
namespace Sr
open PySem PyProof.Rows
structure SB (a0 : Array Keyed) (kd : SortKind) (st : SortSt) : Prop where
 perm : (arrOf st).Perm a0
 kind : kindOf st = kd
 failed : failedOf st = none
 pend : pendingOf st = #[]
section
variable {prog : Program} {w : World} {A : Around} {E : Value → Shared → Prop} {s : Shared} {a0 : Array Keyed} {kd : SortKind} {st : SortSt}
theorem SB.size (B : SB a0 kd st) : (arrOf st).size = a0.size := B.perm.size_eq
theorem SB.arr (B : SB a0 kd st) {xs : Array Keyed} (h : xs.Perm (arrOf st)) : SB a0 kd (setArr st xs) := ⟨h.trans B.perm, B.kind, B.failed, B.pend⟩
theorem SB.get (B : SB a0 kd st) {i : Nat} (h : i < a0.size) : ∃ x, (arrOf st)[i]? = some x ∧ x ∈ a0.toList := by
 have h' : i < (arrOf st).size := by rw [B.size]; exact h
 refine ⟨(arrOf st)[i], by simp [h'], ?_⟩
 have := B.perm
 rw [Array.perm_iff_toList_perm] at this
 exact this.mem_iff.mp (by simp)
end
end Sr
set_option Elab.async false
set_option linter.all false
set_option maxRecDepth 100000
namespace Sr
open PySem PyProof.Rows
section
variable {prog : Program} {w : World} {A : Around} {E : Value → Shared → Prop} {s : Shared}
theorem pairs_snd (vs : List Value) : ((pairsOf vs).map fun x => x.2).toList = vs := by
 unfold pairsOf
 simp only [Array.toList_map, Array.toList_zip]
 induction vs with
 | nil => rfl
 | cons v r ih => simp only [List.zip_cons_cons, List.map_cons]; rw [ih]
theorem out_perm {vs : List Value} {xs : Array Keyed} (h : xs.Perm (pairsOf vs)) : (xs.map fun x => x.2).toList.Perm vs := by
 rw [Array.perm_iff_toList_perm] at h
 have := h.map (fun x : Keyed => x.2)
 rw [Array.toList_map]
 refine this.trans ?_
 rw [← Array.toList_map, pairs_snd]
end
end Sr
set_option Elab.async false
set_option linter.all false
set_option maxRecDepth 100000
namespace Sr
open PySem PyProof.Rows
section
variable {prog : Program} {w : World} {A : Around} {E : Value → Shared → Prop} {s : Shared} {M : Model}
theorem wp_mapM {α β : Type} {f : α → Sem β} (R : β → Prop) : ∀ (vs : List α) {Q : List β → Shared → Prop}, (∀ v ∈ vs, ∀ (Q' : β → Shared → Prop), (∀ r, R r → Q' r s) → wpAny M A (f v) Q' E s) → (∀ rs : List β, rs.length = vs.length → (∀ r ∈ rs, R r) → Q rs s) → wpAny M A (List.mapM f vs) Q E s
 | [], Q, h, q => by
  rw [List.mapM_nil]
  exact wpAny_pure (q [] rfl fun _ h => nomatch h)
 | v :: vs, Q, h, q => by
  rw [List.mapM_cons]
  refine wpAny_bind (h v (by simp) _ fun r hr => ?_)
  refine wpAny_bind (wp_mapM R vs (fun v' hv => h v' (by simp [hv])) fun rs hl hrs => ?_)
  exact wpAny_pure (q (r :: rs) (by rw [List.length_cons, List.length_cons, hl]) fun r' hr' => by
   rcases List.mem_cons.mp hr' with rfl | h'
   ·exact hr
   ·exact hrs _ h')
theorem wp_arrM {α β : Type} {f : α → Sem β} (R : β → Prop) {vs : List α} {Q : Array β → Shared → Prop} (h : ∀ v ∈ vs, ∀ (Q' : β → Shared → Prop), (∀ r, R r → Q' r s) → wpAny M A (f v) Q' E s) (q : ∀ rs : List β, rs.length = vs.length → (∀ r ∈ rs, R r) → Q rs.toArray s) : wpAny M A (Array.mapM f vs.toArray) Q E s := by
 rw [Array.mapM_eq_mapM_toList, map_eq_pure_bind]
 exact wpAny_bind (wp_mapM R vs h fun rs hl hr => wpAny_pure (q rs hl hr))
end
end Sr
set_option Elab.async false
set_option linter.all false
set_option maxRecDepth 100000
namespace L2
open PySem PySem.Spec PyProof.Rows
theorem vals_perm : ∀ {us us' : List Value}, us'.Perm us → ∀ {xs : List V}, Vals xs us → ∃ zs, zs.Perm xs ∧ Vals zs us' := by
 intro us us' p
 induction p with
 | nil => intro xs h; exact ⟨xs, .refl _, h⟩
 | @cons u l1 l2 p ih =>
  intro xs h
  cases h with
  | @cons x u xs us r h' =>
   obtain ⟨zs, pz, hz⟩ := ih h'
   exact ⟨x :: zs, pz.cons _, .cons r hz⟩
 | swap u v l =>
  intro xs h
  cases h with
  | @cons x u xs us r h' =>
   cases h' with
   | @cons y v ys vs r2 h2 => exact ⟨y :: x :: ys, .swap _ _ _, .cons r2 (.cons r h2)⟩
 | trans p1 p2 ih1 ih2 =>
  intro xs h
  obtain ⟨zs, pz, hz⟩ := ih2 h
  obtain ⟨ws, pw, hw⟩ := ih1 hz
  exact ⟨ws, pw.trans pz, hw⟩
section
variable {X : Cx}
end
end L2
namespace L3
open PySem PySem.Spec L2
theorem rs_perm {H : Hp} {α : Type} {f : α → T} : ∀ {vs vs' : List V}, vs'.Perm vs → ∀ {ns : List α}, Rs H vs (ns.map f) → ∃ ms : List α, ms.Perm ns ∧ Rs H vs' (ms.map f) := by
 intro vs vs' p
 induction p with
 | nil => intro ns h; exact ⟨ns, .refl _, h⟩
 | @cons u l1 l2 p ih =>
  intro ns h
  cases ns with
  | nil => cases rs_inv0 h
  | cons n ns =>
   obtain ⟨v, ws, e, a, b⟩ := rs_inv h
   cases e
   obtain ⟨ms, pm, hm⟩ := ih b
   exact ⟨n :: ms, pm.cons _, rs_cons a hm⟩
 | swap u v l =>
  intro ns h
  cases ns with
  | nil => cases rs_inv0 h
  | cons n ns =>
   obtain ⟨_, _, e, a, b⟩ := rs_inv h
   cases e
   cases ns with
   | nil => cases rs_inv0 b
   | cons m ns =>
    obtain ⟨_, _, e, a2, b2⟩ := rs_inv b
    cases e
    exact ⟨m :: n :: ns, .swap _ _ _, rs_cons a2 (rs_cons a b2)⟩
 | trans p1 p2 ih1 ih2 =>
  intro ns h
  obtain ⟨zs, pz, hz⟩ := ih2 h
  obtain ⟨ws, pw, hw⟩ := ih1 hz
  exact ⟨ws, pw.trans pz, hw⟩
section
variable {X : Cx}
end
end L3
set_option Elab.async false
set_option linter.all false
set_option maxRecDepth 100000
namespace L2
open PySem PySem.Spec PyProof.Rows
section
variable {prog : Program} {w : World} {A : Around} {E : Value → Shared → Prop} {s : Shared}
end
section
variable {X : Cx}
end
end L2
namespace L3
open PySem PySem.Spec L2
section
variable {X : Cx} {E : St → XK}
end
end L3
set_option Elab.async false
set_option linter.all false
set_option maxRecDepth 100000
namespace L2
open PySem PySem.Spec PyProof.Rows
section
variable {X : Cx} {tg : Expr}
end
end L2
namespace L3
open PySem PySem.Spec L2
open PyProof.Rows hiding St
section
variable {X : Cx} {E : St → XK} {tg : Expr} {p pos : Pos}
theorem mq_popAt : MQ X "list.pop" (fun x ts Γ Z => ∃ a us k y, x = .ref a ∧ ts = [.int (k : Nat)] ∧ Γ a = some (.lst us) ∧ k < 2 ^ 30 ∧ us[k]? = some y ∧ Z y (up Γ a (.lst (us.eraseIdx k)))) :=
 ⟨_, mt_popAt, fun v x vs ts H Γ Q Z r rs hr q0 vr => by
  obtain ⟨a, us, k, y, ex, et, g, hk, hy, z⟩ := q0
  subst ex et
  obtain ⟨w, rfl, rw'⟩ := rs1 rs
  obtain ⟨va, hva, qa⟩ := hr a _ g
  have hl : k < us.length := (List.getElem?_eq_some_iff.mp hy).1
  obtain ⟨vy, hvy, ry⟩ := qa.get hy
  refine ⟨a, va, (k : Int), k, vy, i_ref r, by rw [i_int rw'], hva, by omega, by omega, ?_, hvy, ?_⟩
  ·have h : ixN va.length (k : Int) = some k := by
    unfold ixN
    rw [if_pos (by omega), if_pos (by rw [qa.length]; omega), Int.toNat_natCast]
   exact (ixN_seq h).1
  ·have s : Stp H Γ (upd H a (.lst (va.eraseIdx k))) (up Γ a (.lst (us.eraseIdx k))) := .set hr g
   have qe : Rs H (va.eraseIdx k) (us.eraseIdx k) := by
    rw [List.eraseIdx_eq_take_drop_succ, List.eraseIdx_eq_take_drop_succ]
    exact Rs.app (qa.take k) (qa.drop (k + 1))
   exact vr _ _ _ _ s (hr.set g ⟨_, upd_same, qe.mono s.tq⟩) (ry.mono s.tq) z⟩
theorem oq_repL : OpQ X (binaryOp .Mult) (fun x y Γ Z => ∃ a k ts, x = .ref a ∧ y = .int k ∧ Γ a = some (.lst ts) ∧ -(2 ^ 63) ≤ k ∧ k < 2 ^ 63 ∧ ts.length * k.toNat ≤ sizeLine ∧ ∀ p, Γ p = none → Z (.ref p) (up Γ p (.lst (List.replicate k.toNat ts).flatten))) :=
 ⟨_, op_rep, fun x y a b H Γ Q Z ra rb hr q0 vr => by
  obtain ⟨p, k, ts, ea, eb, g, k1, k2, hl, z⟩ := q0
  subst ea eb
  obtain ⟨vs, hv, q⟩ := hr p _ g
  refine ⟨p, k, vs, i_ref ra, by rw [i_int rb], hv, k1, k2, by rw [q.length]; exact hl, fun l hl' => ?_⟩
  have kk := keep_new (o := .lst (List.replicate k.toNat vs).flatten) hl'
  exact vr _ _ _ _ (.make hl') (hr.make (o3 := .lst (List.replicate k.toNat ts).flatten) hl' ⟨_, upd_same, (rs_flat q _).mono (tq_kp kk)⟩) r_ref (z l (hr.free hl'))⟩
end
end L3
set_option Elab.async false
set_option linter.all false
set_option maxRecDepth 100000
namespace L2
open PySem PySem.Spec PyProof.Rows
section
variable {X : Cx}
theorem call_intB : CallR X (.type "int") (fun xs H Q => ∃ b : Bool, xs = [.bl b] ∧ Q (.int (if b = true then 1 else 0)) H) := by
 intro pins s σ H xs us Q I r h
 obtain ⟨b, rfl, q⟩ := h
 obtain ⟨u, rfl, rx⟩ := vals1 r
 cases rx
 refine call_int_1 (meets_int_new_bool b) ?_
 exact ⟨typeIs_int _ _ _, .int _, H, I.tok _, ⟨_, rfl⟩, q⟩
def KTup (K : PySem.W.Frag) (a : Addr) (xs : List V) : Prop := ∃ (o : Obj) (its : Array Value) (n : Nat), K.lookup a = some o ∧ o.cls = .type "tuple" ∧ o.data = .seq its n ∧ its.size ≤ sizeLine ∧ Vals xs its.toList
theorem KTup.sq {K : PySem.W.Frag} {H : Hp} {a : Addr} {xs : List V} (h : KTup K a xs) : SqT K H a xs := .inr h
end
end L2
namespace L3
open PySem PySem.Spec L2
section
variable {X : Cx}
theorem cq_intB : CallQ X (.type "int") (fun xs Γ Z => ∃ b : Bool, xs = [.bl b] ∧ Z (.int (if b = true then 1 else 0)) Γ) :=
 ⟨_, call_intB, fun vs xs H Γ Q Z r hr q0 vr => by
  obtain ⟨b, e, z⟩ := q0
  subst e
  obtain ⟨v, rfl, a⟩ := rs1 r
  exact ⟨b, by rw [i_bl a], vr _ _ H Γ .refl hr r_int z⟩⟩
end
end L3
set_option Elab.async false
set_option linter.all false
set_option maxRecDepth 100000
namespace Sr
open PySem PyProof.Rows
section
variable {O : KeyOrd} (κ : Keyed → O.α) (d0 : O.α)
def Le (a b : O.α) : Prop := O.blt b a = false
theorem Le.refl (a : O.α) : Le a a := O.irrefl a
theorem Le.trans {a b c : O.α} (h : Le a b) (h' : Le b c) : Le a c := by
 unfold Le at *
 cases e : O.blt c a with
 | false => rfl
 | true =>
  rcases O.negTrans c b a e with x | x
  ·rw [h'] at x; cases x
  ·rw [h] at x; cases x
theorem Le.of_lt {a b : O.α} (h : O.blt a b = true) : Le a b := by
 unfold Le
 cases e : O.blt b a with
 | false => rfl
 | true => have := O.trans a b a h e; rw [O.irrefl] at this; cases this
def kat (xs : Array Keyed) (i : Nat) : O.α := match xs[i]? with
 | some p => κ p
 | none => d0
theorem kat_at {xs : Array Keyed} {i : Nat} {p : Keyed} (h : xs[i]? = some p) : kat κ d0 xs i = κ p := by unfold kat; rw [h]
def SortTo (xs : Array Keyed) (n : Nat) : Prop := ∀ i j, i ≤ j → j < n → Le (kat κ d0 xs i) (kat κ d0 xs j)
theorem SortTo.one (xs : Array Keyed) : SortTo κ d0 xs 1 := fun i j h h' => by
 have e : i = j := by omega
 rw [e]; exact Le.refl _
theorem SortTo.step {xs : Array Keyed} {n : Nat} (h : SortTo κ d0 xs n) (h1 : 1 ≤ n) (l : Le (kat κ d0 xs (n - 1)) (kat κ d0 xs n)) : SortTo κ d0 xs (n + 1) := fun i j hij hj => by
 by_cases e : j = n
 ·subst e
  by_cases e2 : i = j
  ·rw [e2]; exact Le.refl _
  ·exact (h i (j - 1) (by omega) (by omega)).trans l
 ·exact h i j hij (by omega)
def FallTo (xs : Array Keyed) (n : Nat) : Prop := ∀ i j, i < j → j < n → O.blt (kat κ d0 xs j) (kat κ d0 xs i) = true
theorem FallTo.step {xs : Array Keyed} {n : Nat} (h : FallTo κ d0 xs n) (h1 : 1 ≤ n) (l : O.blt (kat κ d0 xs n) (kat κ d0 xs (n - 1)) = true) : FallTo κ d0 xs (n + 1) := fun i j hij hj => by
 by_cases e : j = n
 ·subst e
  by_cases e2 : i = j - 1
  ·rw [e2]; exact l
  ·exact O.trans _ _ _ l (h i (j - 1) (by omega) (by omega))
 ·exact h i j hij (by omega)
theorem fall_mirror {xs : Array Keyed} {n : Nat} (hn : n ≤ xs.size) (h : FallTo κ d0 xs n) : SortTo κ d0 (mirror xs 0 n ((n - 0) / 2)) n := fun i j hij hj => by
 have key : ∀ k, k < n → kat κ d0 (mirror xs 0 n ((n - 0) / 2)) k = kat κ d0 xs (n - 1 - k) := fun k hk => by
  unfold kat
  rw [getElem?_mirror_all hn k, if_pos ⟨Nat.zero_le _, hk⟩, Nat.zero_add]
 rw [key i (by omega), key j hj]
 by_cases e : i = j
 ·rw [e]; exact Le.refl _
 ·exact Le.of_lt (h (n - 1 - j) (n - 1 - i) (by omega) (by omega))
end
section
variable {prog : Program} {w : World} {A : Around} {E : Value → Shared → Prop} {s : Shared} {a0 : Array Keyed} {kd : SortKind} {st : SortSt} {O : KeyOrd} {κ : Keyed → O.α} {d0 : O.α}
def LtIs (M : Model) (A : Around) (s : Shared) (kd : SortKind) (a0 : Array Keyed) (O : KeyOrd) (κ : Keyed → O.α) : Prop := ∀ x ∈ a0.toList, ∀ y ∈ a0.toList, κ x ≠ κ y → ∀ (Q : Bool → Shared → Prop) (E : Value → Shared → Prop), Q (O.blt (κ x) (κ y)) s → wpAny M A (keyLt' kd x.1 y.1) Q E s
def Dif (κ : Keyed → O.α) (a0 : Array Keyed) : Prop := (a0.toList.map κ).Nodup
theorem Dif.ne (D : Dif κ a0) (B : SB a0 kd st) {i j : Nat} (hi : i < a0.size) (hj : j < a0.size) (n : i ≠ j) : kat κ d0 (arrOf st) i ≠ kat κ d0 (arrOf st) j := by
 have p := B.perm
 rw [Array.perm_iff_toList_perm] at p
 have nd : ((arrOf st).toList.map κ).Nodup := (p.map κ).nodup_iff.mpr D
 obtain ⟨x, ex, _⟩ := B.get hi
 obtain ⟨y, ey, _⟩ := B.get hj
 rw [kat_at κ d0 ex, kat_at κ d0 ey]
 intro e
 have hl : ∀ k, k < a0.size → k < ((arrOf st).toList.map κ).length := fun k hk => by rw [List.length_map, Array.length_toList, B.size]; exact hk
 have hx : ((arrOf st).toList.map κ)[i]'(hl i hi) = κ x := by
  have : ((arrOf st).toList.map κ)[i]? = some (κ x) := by rw [List.getElem?_map, Array.getElem?_toList, ex]; rfl
  exact (List.getElem?_eq_some_iff.mp this).2
 have hy : ((arrOf st).toList.map κ)[j]'(hl j hj) = κ y := by
  have : ((arrOf st).toList.map κ)[j]? = some (κ y) := by rw [List.getElem?_map, Array.getElem?_toList, ey]; rfl
  exact (List.getElem?_eq_some_iff.mp this).2
 have pw := List.pairwise_iff_getElem.mp nd
 rcases Nat.lt_or_gt_of_ne n with h | h
 ·exact pw i j (hl i hi) (hl j hj) h (by rw [hx, hy, e])
 ·exact pw j i (hl j hj) (hl i hi) h (by rw [hx, hy, e])
theorem o_ltAt {i j : Nat} {Q : Option Bool → SortSt → Prop} (L : LtIs (model prog w) A s kd a0 O κ) (D : Dif κ a0) (B : SB a0 kd st) (hi : i < a0.size) (hj : j < a0.size) (nij : i ≠ j) (q : Q (some (O.blt (kat κ d0 (arrOf st) i) (kat κ d0 (arrOf st) j))) st) : wpS (model prog w) A E s (ltAt' i j) Q st := by
 obtain ⟨x, ex, mx⟩ := B.get hi
 obtain ⟨y, ey, my⟩ := B.get hj
 have nk := D.ne (d0 := d0) B hi hj nij
 rw [kat_at κ d0 ex, kat_at κ d0 ey] at q nk
 rw [ltAt'_eq]
 refine wpS_bind (wpS_get ?_)
 dsimp only
 refine wpS_bind ?_
 rw [elem'_eq, ex]
 refine wpS_pure ?_
 refine wpS_bind ?_
 rw [elem'_eq, ey]
 refine wpS_pure ?_
 rw [lt'_eq]
 refine wpS_bind (wpS_get ?_)
 rw [B.kind]
 refine wpS_bind (wpS_lift (wpAny_attempt (L x mx y my nk _ _ ⟨rfl, ?_⟩)))
 exact wpS_pure q
theorem lt_of {a b : O.α} (n : a ≠ b) (h : O.blt a b = false) : O.blt b a = true := by
 cases e : O.blt b a with
 | true => rfl
 | false => exact absurd (O.total a b h e) n
theorem o_count {nrem : Nat} {Q : Option Nat → SortSt → Prop} (L : LtIs (model prog w) A s kd a0 O κ) (D : Dif κ a0) (B : SB a0 kd st) (h : nrem ≤ a0.size) (h1 : 1 ≤ nrem) (q : ∀ m st', SB a0 kd st' → 1 ≤ m → m ≤ nrem → SortTo κ d0 (arrOf st') m → Q (some m) st') : wpS (model prog w) A E s (countRun' 0 nrem) Q st := by
 rw [countRun'_eq]
 dsimp only
 refine wpS_bind (wpS_mono (Q := fun c st' => ∃ n, c = (none, n) ∧ st' = st ∧ 1 ≤ n ∧ n ≤ nrem ∧ SortTo κ d0 (arrOf st) n ∧ (n < nrem → O.blt (kat κ d0 (arrOf st) n) (kat κ d0 (arrOf st) (n - 1)) = true)) ?_ ?_)
 ·refine wpS_forRange (fun i c st' => c = (none, i) ∧ st' = st ∧ 1 ≤ i ∧ SortTo κ d0 (arrOf st) i) (fun i c st1 h1 h2 hI => ?_) (fun c st1 hI => ?_) ⟨rfl, rfl, Nat.le_refl _, SortTo.one κ d0 _⟩
  ·obtain ⟨rfl, rfl, hi, so⟩ := hI
   dsimp only
   refine wpS_bind (o_ltAt (d0 := d0) L D B (by omega) (by omega) (by omega) ?_)
   dsimp only
   rw [Nat.zero_add]
   split
   ·rename_i hb
    exact wpS_pure ⟨i, rfl, rfl, by omega, by omega, so, fun _ => hb⟩
   ·rename_i hb
    exact wpS_pure ⟨rfl, rfl, by omega, so.step κ d0 hi (by unfold Le; simpa using hb)⟩
  ·obtain ⟨rfl, rfl, hi, so⟩ := hI
   refine ⟨_, rfl, rfl, hi, by omega, so, fun h => ?_⟩
   omega
 rintro c st1 ⟨n, rfl, rfl, n1, n2, so, br⟩
 dsimp only
 split
 ·exact wpS_pure (q n st1 B n1 n2 so)
 rename_i hne
 have hlt : n < nrem := by
  rcases Nat.lt_or_ge n nrem with h | h
  ·exact h
  ·exact absurd (by simpa using Nat.le_antisymm n2 h) hne
 have hbr := br hlt
 simp only [Nat.zero_add]
 split
 ·rename_i hn1
  refine wpS_bind (o_ltAt (d0 := d0) L D B (by omega) (by omega) (by omega) ?_)
  dsimp only
  have hr : O.blt (kat κ d0 (arrOf st1) 0) (kat κ d0 (arrOf st1) (n - 1)) = true := by
   have l := so 0 (n - 1) (Nat.zero_le _) (by omega)
   exact lt_of (D.ne B (by omega) (by omega) (by omega)) l
  rw [if_pos hr]
  exact wpS_pure (q n st1 B n1 n2 so)
 ·rename_i hn1
  have en : n = 1 := by omega
  subst en
  refine wpS_bind (wpS_lift (wpAny_rule ⟨rfl, ?_⟩))
  have f2 : FallTo κ d0 (arrOf st1) 2 := fun i j hij hj => by
   have e1 : i = 0 := by omega
   have e2 : j = 1 := by omega
   subst e1 e2
   exact hbr
  refine wpS_bind (wpS_mono (Q := fun c st' => ∃ m, c = (none, m, 0) ∧ st' = st1 ∧ 2 ≤ m ∧ m ≤ nrem ∧ FallTo κ d0 (arrOf st1) m) ?_ ?_)
  ·refine wpS_forRange (fun i c st' => c = (none, i, 0) ∧ st' = st1 ∧ 2 ≤ i ∧ FallTo κ d0 (arrOf st1) i) (fun i c st2 h1 h2 hI => ?_) (fun c st2 hI => ?_) ⟨rfl, rfl, Nat.le_refl _, f2⟩
   ·obtain ⟨rfl, rfl, hi, fa⟩ := hI
    dsimp only
    refine wpS_bind (o_ltAt (d0 := d0) L D B (by omega) (by omega) (by omega) ?_)
    dsimp only
    split
    ·rename_i hb
     rw [if_neg (by omega)]
     exact wpS_pure ⟨rfl, rfl, by omega, fa.step κ d0 (by omega) hb⟩
    ·rename_i hb
     refine wpS_bind (o_ltAt (d0 := d0) L D B (by omega) (by omega) (by omega) ?_)
     dsimp only
     rw [if_pos (lt_of (D.ne B (by omega) (by omega) (by omega)) (by simpa using hb))]
     exact wpS_pure ⟨i, rfl, rfl, hi, by omega, fa⟩
   ·obtain ⟨rfl, rfl, hi, fa⟩ := hI
    exact ⟨_, rfl, rfl, hi, by omega, fa⟩
  rintro c st2 ⟨m, rfl, rfl, m1, m2, fa⟩
  dsimp only
  rw [if_neg (by omega)]
  refine wpS_bind (wpS_reverse ?_)
  have B2 := B.arr (mirror_perm (arrOf st2) 0 m ((m - 0) / 2))
  have so2 : SortTo κ d0 (arrOf (setArr st2 (mirror (arrOf st2) 0 m ((m - 0) / 2)))) m := fall_mirror κ d0 (by rw [B.size]; omega) fa
  generalize setArr st2 (mirror (arrOf st2) 0 m ((m - 0) / 2)) = st3 at B2 so2 ⊢
  refine wpS_bind (wpS_mono (Q := fun c st' => ∃ n', c = (none, n') ∧ st' = st3 ∧ 1 ≤ n' ∧ n' ≤ nrem ∧ SortTo κ d0 (arrOf st3) n') ?_ ?_)
  ·refine wpS_forRange (fun i c st' => c = (none, i) ∧ st' = st3 ∧ 1 ≤ i ∧ SortTo κ d0 (arrOf st3) i) (fun i c st4 h1 h2 hI => ?_) (fun c st4 hI => ?_) ⟨rfl, rfl, by omega, so2⟩
   ·obtain ⟨rfl, rfl, hi, so⟩ := hI
    dsimp only
    refine wpS_bind (o_ltAt (d0 := d0) L D B2 (by omega) (by omega) (by omega) ?_)
    dsimp only
    split
    ·exact wpS_pure ⟨i, rfl, rfl, by omega, by omega, so⟩
    ·rename_i hb
     exact wpS_pure ⟨rfl, rfl, by omega, so.step κ d0 hi (by unfold Le; simpa using hb)⟩
   ·obtain ⟨rfl, rfl, hi, so⟩ := hI
    exact ⟨_, rfl, rfl, hi, by omega, so⟩
  rintro c st5 ⟨n5, rfl, rfl, n51, n52, so5⟩
  exact wpS_pure (q n5 st5 B2 n51 n52 so5)
theorem bubble_kat {xs : Array Keyed} {src d : Nat} (h : src < xs.size) (hd : d ≤ src) (k : Nat) : kat κ d0 (bubble xs src d) k = if k = src - d then kat κ d0 xs src else if src - d < k ∧ k ≤ src then kat κ d0 xs (k - 1) else kat κ d0 xs k := by
 unfold kat
 rw [getElem?_bubble h d hd k]
 by_cases c : k = src - d
 ·rw [if_pos c, if_pos c]
 ·rw [if_neg c, if_neg c]
  by_cases c2 : src - d < k ∧ k ≤ src
  ·rw [if_pos c2, if_pos c2]
  ·rw [if_neg c2, if_neg c2]
theorem sort_insert {xs : Array Keyed} {k l : Nat} (hk : k < xs.size) (hl : l ≤ k) (so : SortTo κ d0 xs k) (lo : ∀ i, i < l → Le (kat κ d0 xs i) (kat κ d0 xs k)) (hi : ∀ i, l ≤ i → i < k → Le (kat κ d0 xs k) (kat κ d0 xs i)) : SortTo κ d0 (bubble xs k (k - l)) (k + 1) := fun i j hij hj => by
 have e : k - (k - l) = l := by omega
 rw [bubble_kat hk (by omega) i, bubble_kat hk (by omega) j, e]
 by_cases ei : i = l
 ·rw [if_pos ei]
  by_cases ej : j = l
  ·rw [if_pos ej]; exact Le.refl _
  ·rw [if_neg ej, if_pos ⟨by omega, by omega⟩]
   exact hi (j - 1) (by omega) (by omega)
 ·rw [if_neg ei]
  by_cases ii : l < i ∧ i ≤ k
  ·rw [if_pos ii, if_neg (by omega), if_pos ⟨by omega, by omega⟩]
   exact so (i - 1) (j - 1) (by omega) (by omega)
  ·rw [if_neg ii]
   by_cases ej : j = l
   ·rw [if_pos ej]; exact lo i (by omega)
   ·rw [if_neg ej]
    by_cases jj : l < j ∧ j ≤ k
    ·rw [if_pos jj]; exact so i (j - 1) (by omega) (by omega)
    ·rw [if_neg jj]; exact so i j hij (by omega)
theorem o_bin {n ok : Nat} {Q : Bool → SortSt → Prop} (L : LtIs (model prog w) A s kd a0 O κ) (D : Dif κ a0) (B : SB a0 kd st) (h : n ≤ a0.size) (h1 : 1 ≤ ok) (hok : ok ≤ n) (so : SortTo κ d0 (arrOf st) ok) (q : ∀ st', SB a0 kd st' → SortTo κ d0 (arrOf st') n → Q true st') : wpS (model prog w) A E s (binarySort' 0 n ok) Q st := by
 rw [binarySort'_eq]
 have em : max ok 1 = ok := by omega
 rw [em]
 refine wpS_bind (wpS_mono (Q := fun c st' => c = (none, ()) ∧ SB a0 kd st' ∧ SortTo κ d0 (arrOf st') n) ?_ ?_)
 ·refine wpS_forRange (fun i c st' => c = (none, ()) ∧ SB a0 kd st' ∧ SortTo κ d0 (arrOf st') i) (fun i c st1 h1 h2 hI => ?_) (fun c st1 hI => ?_) ⟨rfl, B, so⟩
  ·obtain ⟨rfl, B1, so1⟩ := hI
   dsimp only
   refine wpS_bind (wpS_mono (Q := fun c st' => (∃ l r, c = (none, l, r) ∧ r ≤ l ∧ l ≤ i ∧ (∀ j, j < l → Le (kat κ d0 (arrOf st1) j) (kat κ d0 (arrOf st1) i)) ∧ (∀ j, l ≤ j → j < i → Le (kat κ d0 (arrOf st1) i) (kat κ d0 (arrOf st1) j))) ∧ st' = st1) ?_ ?_)
   ·refine wpS_forRange (fun t c st' => (∃ l r, c = (none, l, r) ∧ l ≤ r ∧ r ≤ i ∧ r - l ≤ i - t ∧ (∀ j, j < l → Le (kat κ d0 (arrOf st1) j) (kat κ d0 (arrOf st1) i)) ∧ (∀ j, r ≤ j → j < i → Le (kat κ d0 (arrOf st1) i) (kat κ d0 (arrOf st1) j))) ∧ st' = st1) (fun t c st2 j1 j2 hJ => ?_) (fun c st2 hJ => ?_) ⟨⟨0, i, rfl, Nat.zero_le _, Nat.le_refl _, Nat.le_refl _, fun j hj => absurd hj (Nat.not_lt_zero _), fun j a b => absurd b (by omega)⟩, rfl⟩
    ·obtain ⟨⟨l, r, rfl, lr, hr, hm, lo, hi⟩, rfl⟩ := hJ
     dsimp only
     split
     ·rename_i hge
      exact wpS_pure ⟨⟨l, r, rfl, hge, by omega, lo, fun j a b => hi j (by omega) b⟩, rfl⟩
     ·rename_i hge
      simp only [Nat.zero_add]
      refine wpS_bind (o_ltAt (d0 := d0) L D B1 (by omega) (by omega) (by omega) ?_)
      dsimp only
      split
      ·rename_i hb
       refine wpS_pure ⟨⟨l, (l + r) / 2, rfl, by omega, by omega, by omega, lo, fun j a b => ?_⟩, rfl⟩
       exact (Le.of_lt hb).trans (so1 ((l + r) / 2) j a b)
      ·rename_i hb
       refine wpS_pure ⟨⟨(l + r) / 2 + 1, r, rfl, by omega, hr, by omega, fun j a => ?_, hi⟩, rfl⟩
       have hb' : Le (kat κ d0 (arrOf st2) ((l + r) / 2)) (kat κ d0 (arrOf st2) i) := by unfold Le; simpa using hb
       exact (so1 j ((l + r) / 2) (by omega) (by omega)).trans hb'
    ·obtain ⟨⟨l, r, rfl, lr, hr, hm, lo, hi⟩, rfl⟩ := hJ
     exact ⟨⟨l, r, rfl, by omega, by omega, lo, fun j a b => hi j (by omega) b⟩, rfl⟩
   ·rintro c st2 ⟨⟨l, r, rfl, rl, hl, lo, hi⟩, rfl⟩
    dsimp only
    rw [moveDown'_eq]
    refine wpS_bind (wpS_modify ?_)
    simp only [Nat.zero_add]
    exact wpS_pure ⟨rfl, B1.arr (bubble_perm _ _ _), sort_insert (by rw [B1.size]; omega) hl so1 lo hi⟩
  ·obtain ⟨rfl, B1, so1⟩ := hI
   rw [Nat.max_eq_right hok] at so1
   exact ⟨rfl, B1, so1⟩
 ·rintro c st1 ⟨rfl, B1, so1⟩
  exact wpS_pure (q st1 B1 so1)
theorem o_runs {Q : Unit → SortSt → Prop} (L : LtIs (model prog w) A s kd a0 O κ) (D : Dif κ a0) (B : SB a0 kd st) (h2 : 2 ≤ a0.size) (h64 : a0.size < 64) (q : ∀ st', (arrOf st').Perm a0 → failedOf st' = none → SortTo κ d0 (arrOf st') a0.size → Q () st') : wpS (model prog w) A E s sortRuns' Q st := by
 rw [sortRuns'_eq]
 refine wpS_bind (wpS_get ?_)
 dsimp only
 rw [B.size]
 have hm : minRun' a0.size a0.size 0 = a0.size := by
  cases e : a0.size with
  | zero => omega
  | succ n => rw [minRun'_succ, if_pos (by omega)]
 rw [hm]
 refine wpS_bind (wpS_mono (Q := fun c st' => c = (none, a0.size) ∧ ∃ st1, SB a0 kd st1 ∧ SortTo κ d0 (arrOf st1) a0.size ∧ st' = setPending st1 (#[].push (0, a0.size, 0))) ?_ ?_)
 ·refine wpS_forRange (fun i c st' => (i = 0 ∧ c = (none, 0) ∧ SB a0 kd st') ∨ (0 < i ∧ c = (none, a0.size) ∧ ∃ st1, SB a0 kd st1 ∧ SortTo κ d0 (arrOf st1) a0.size ∧ st' = setPending st1 (#[].push (0, a0.size, 0)))) (fun i c st1 h1 h2 hI => ?_) (fun c st1 hI => ?_) (.inl ⟨rfl, rfl, B⟩)
  ·rcases hI with ⟨rfl, rfl, B1⟩ | ⟨hi, rfl, st2, B2, so2, rfl⟩
   ·dsimp only
    rw [if_neg (by omega)]
    refine wpS_bind (o_count (d0 := d0) L D B1 (by omega) (by omega) fun m st2 B2 m1 m2 so => ?_)
    dsimp only
    have hmin : min (a0.size - 0) a0.size = a0.size := by rw [Nat.sub_zero, Nat.min_self]
    split
    ·refine wpS_bind (wpS_lift (wpAny_rule ⟨rfl, ?_⟩))
     rw [hmin]
     refine wpS_bind (o_bin (d0 := d0) L D B2 (Nat.le_refl _) m1 (by omega) so fun st3 B3 so3 => ?_)
     rw [if_neg (by decide)]
     refine wpS_bind (wpS_get ?_)
     rw [B3.pend]
     refine wpS_bind (wpS_modify ?_)
     refine wpS_pure (.inr ⟨Nat.zero_lt_succ _, by rw [Nat.zero_add], st3, B3, so3, by rw [B3.pend]⟩)
    ·rename_i hm2
     have em : m = a0.size := by omega
     subst em
     refine wpS_bind (wpS_get ?_)
     rw [B2.pend]
     refine wpS_bind (wpS_modify ?_)
     refine wpS_pure (.inr ⟨Nat.zero_lt_succ _, by rw [Nat.zero_add], st2, B2, so, by rw [B2.pend]⟩)
   ·dsimp only
    rw [if_pos (by omega)]
    exact wpS_pure ⟨rfl, st2, B2, so2, rfl⟩
  ·rcases hI with ⟨h0, _⟩ | ⟨hi, rfl, st2, B2, so2, rfl⟩
   ·omega
   ·exact ⟨rfl, st2, B2, so2, rfl⟩
 ·rintro c st1 ⟨rfl, st2, B2, so2, rfl⟩
  dsimp only
  refine wpS_bind (wpS_mono (Q := fun c st' => c = (none, ()) ∧ st' = setPending st2 (#[].push (0, a0.size, 0))) ?_ ?_)
  ·refine wpS_forRange (fun i c st' => c = (none, ()) ∧ st' = setPending st2 (#[].push (0, a0.size, 0))) (fun i c st3 h1 h2 hI => ?_) (fun c st3 hI => hI) ⟨rfl, rfl⟩
   obtain ⟨rfl, rfl⟩ := hI
   refine wpS_bind (wpS_get ?_)
   split
   ·exact wpS_pure ⟨rfl, rfl⟩
   ·rename_i hc
    exact absurd (Nat.le_refl 1) hc
  ·rintro c st3 ⟨rfl, rfl⟩
   exact wpS_pure (q _ B2.perm B2.failed so2)
end
end Sr
set_option Elab.async false
set_option linter.all false
set_option maxRecDepth 100000
namespace L2
open PySem PySem.Spec PyProof.Rows
def CalleeM (P : Program) (w : World) (K : PySem.W.Frag) (mg : Str → Option Value) (base : Heap) (C : Addr) (m : Str) (k : Nat) (ps : List Str) (sp : Sp) : Prop :=
 ∃ f fd, FnOk P w K mg base CX0 k f fd ps sp ∧ Cls K C ∧ Meth K C m f ∧ Binds K fd ps []
theorem CalleeM.mono {P : Program} {w : World} {K : PySem.W.Frag} {mg : Str → Option Value} {base : Heap} {C : Addr} {m : Str} {j k : Nat} {ps : List Str} {sp : Sp} (c : CalleeM P w K mg base C m j ps sp) (h : j ≤ k) : CalleeM P w K mg base C m k ps sp := by
 obtain ⟨f, fd, F, m, kp, b⟩ := c
 exact ⟨f, fd, F.mono h, m, kp, b⟩
def CalleeMX (P : Program) (w : World) (K : PySem.W.Frag) (mg : Str → Option Value) (base : Heap) (C : Addr) (m : Str) (k : Nat) (ps : List Str) (sp : Sp) : Prop :=
 ∃ f fd, FnOk P w K mg base (CXe P w) k f fd ps sp ∧ Cls K C ∧ Meth K C m f ∧ Binds K fd ps []
def CalleeI (P : Program) (w : World) (K : PySem.W.Frag) (mg : Str → Option Value) (base : Heap) (C : Addr) (k : Nat) (ps : List Str) (sp : Sp) : Prop :=
 ∃ f fd, FnOk P w K mg base CX0 k f fd ps sp ∧ Mk K C f ∧ Binds K fd ps []
end L2
namespace L3
open PySem PySem.Spec L2
def putT (f : Str) (v : T) : List (Str × T) → List (Str × T)
 | [] => [(f, v)]
 | (g, x) :: r => if g = f then (g, v) :: r else (g, x) :: putT f v r
section
variable {H : Hp}
theorem Fs.len : ∀ {gs : List (Str × V)} {fs : List (Str × T)}, Fs H gs fs → gs.length = fs.length
 | _, _, .nil => rfl
 | _, _, .cons a b => by rw [List.length_cons, List.length_cons, Fs.len b]
theorem Fs.get : ∀ {gs : List (Str × V)} {fs : List (Str × T)} {f : Str} {t : T}, Fs H gs fs → fs.lookup f = some t → ∃ v, gs.lookup f = some v ∧ R H v t
 | _, _, f, t, .nil, h => by cases h
 | (g, v) :: gs, (g', x) :: fs, f, t, .cons a b, h => by
  obtain ⟨e, r⟩ := a
  have e : g = g' := e
  subst e
  rw [List.lookup_cons] at h ⊢
  split at h
  ·cases h; exact ⟨v, rfl, r⟩
  ·exact Fs.get b h
theorem Fs.non : ∀ {gs : List (Str × V)} {fs : List (Str × T)} {f : Str}, Fs H gs fs → fs.lookup f = none → gs.lookup f = none
 | _, _, f, .nil, h => rfl
 | (g, v) :: gs, (g', x) :: fs, f, .cons a b, h => by
  obtain ⟨e, r⟩ := a
  have e : g = g' := e
  subst e
  rw [List.lookup_cons] at h ⊢
  split at h
  ·cases h
  ·exact Fs.non b h
theorem Fs.put {v : V} {t : T} (r : R H v t) (f : Str) : ∀ {gs : List (Str × V)} {fs : List (Str × T)}, Fs H gs fs → Fs H (putF f v gs) (putT f t fs)
 | _, _, .nil => .cons ⟨rfl, r⟩ .nil
 | (g, w) :: gs, (g', x) :: fs, .cons a b => by
  obtain ⟨e, q⟩ := a
  have e : g = g' := e
  subst e
  unfold putF putT
  split
  ·exact .cons ⟨rfl, r⟩ b
  ·exact .cons ⟨rfl, q⟩ (Fs.put r f b)
end
section
variable {X : Cx} {E : St → XK} {C : Addr}
def eFld (C : Addr) (to : E3) (f : Str) : E3 := fun Y τ Γ Z => to Y τ Γ fun x Γ1 => ∃ a dx fs v, x = .ref a ∧ Γ1 a = some (.ins C dx fs) ∧ fs.lookup f = some v ∧ Z v Γ1
theorem qe_fld {e : Expr} {f : Str} {to : E3} {pos : Pos} (c : Cls X.K C) (n : NoAttr X.K C f) (he : PE X e (liE E to)) (hb : attributeBase e f X.env (eval e X.env) = eval e X.env := by rfl) : PE X (.Attribute e f pos) (liE E (eFld C to f)) :=
 weakE3 (pe_fld he hb) fun σ H Q τ Γ Y Z rs hr t vr xr => by
  refine ⟨τ, Γ, Y, _, rs, hr, t, fun v x H1 Γ1 s1 h1 r1 z1 => ?_, xr⟩
  obtain ⟨a, dx, fs, u, rfl, g, l, z⟩ := z1
  obtain ⟨gs, hg, q⟩ := h1 a _ g
  obtain ⟨v', l', r'⟩ := q.get l
  exact ⟨a, C, dx, gs, v', i_ref r1, hg, c, n, l', vr v' u H1 Γ1 s1 h1 r' z⟩
def cFld (C : Addr) (to tv : E3) (f : Str) : C3 := fun Y D τ Γ => tv Y τ Γ fun y Γ1 => to Y τ Γ1 fun x Γ2 => ∃ a dx fs, x = .ref a ∧ Γ2 a = some (.ins C dx fs) ∧ fs.length < 1000 ∧ D.nx τ (up Γ2 a (.ins C dx (putT f y fs)))
theorem ho_ins {H : Hp} {a C dx : Addr} {u : HO} {gs : List (Str × V)} {fs : List (Str × T)} (h : H a = some u) (n : (∀ vs : List V, u ≠ .tup vs) ∧ ∀ b w, u ≠ .frz b w) (q : Fs H gs fs) : Ho (upd H a (.ins C dx gs)) a (.ins C dx fs) := ⟨gs, upd_same, q.mono (tq_set h n)⟩
theorem qs_fld {o value : Expr} {f : Str} {to tv : E3} {pos pos' : Pos} (c : Cls X.K C) (n : NoAttr X.K C f) (ha : PE X o (liE E to)) (hv : PE X value (liE E tv)) (hs : swapsWith value (some (.Attribute o f pos')) pos.line X.env = pure false := by rfl) : PS X (.Assign [.Attribute o f pos'] value pos) (liS E (cFld C to tv f)) :=
 weakS3 (ps_fld ha hv hs) fun D σ H τ Γ Y Z rs hr t dr xr => by
  refine ⟨τ, Γ, Y, _, rs, hr, t, fun y y3 H1 Γ1 s1 h1 r1 z1 => ?_, xr⟩
  refine ⟨τ, Γ1, Y, _, rs.mono s1.tq, h1, z1, fun v x H2 Γ2 s2 h2 r2 z2 => ?_, xr.mono s1⟩
  obtain ⟨a, dx, fs, rfl, g, l, z⟩ := z2
  obtain ⟨gs, hg, q⟩ := h2 a _ g
  refine ⟨a, C, dx, gs, i_ref r2, hg, c, n, by rw [q.len]; exact l, ?_⟩
  have hh := (h2 a _ g).some
  obtain ⟨u, hu, nn⟩ := hh
  have st : Stp H2 Γ2 (upd H2 a (.ins C dx (putF f y gs))) (up Γ2 a (.ins C dx (putT f y3 fs))) := Stp.set h2 g
  exact dr.nx _ _ _ _ ((s1.trans s2).trans st) (h2.set g (ho_ins hu nn (Fs.put (r1.mono s2.tq) f q))) (rs.mono ((s1.trans s2).trans st).tq) z
def cFldA (C : Addr) (to tv : E3) (r3 : R3) (f : Str) : C3 := fun Y D τ Γ => to Y τ Γ fun x Γ1 => ∃ a dx fs v, x = .ref a ∧ Γ1 a = some (.ins C dx fs) ∧ fs.lookup f = some v ∧ tv Y τ Γ1 fun y Γ2 => r3 v y Γ2 fun z Γ3 => ∃ dx' fs', Γ3 a = some (.ins C dx' fs') ∧ fs'.length < 1000 ∧ D.nx τ (up Γ3 a (.ins C dx' (putT f z fs')))
abbrev ClM (P : Program) (w : World) (K : PySem.W.Frag) (mg : Str → Option Value) (base : Heap) (C : Addr) (m : Str) (k : Nat) (ps : List Str) (sp : Sp3) : Prop := CalleeM P w K mg base C m k ps (liSp sp)
abbrev ClMx (P : Program) (w : World) (K : PySem.W.Frag) (mg : Str → Option Value) (base : Heap) (C : Addr) (m : Str) (k : Nat) (ps : List Str) (sp : Sp3) : Prop := CalleeMX P w K mg base C m k ps (liSp sp)
abbrev ClI (P : Program) (w : World) (K : PySem.W.Frag) (mg : Str → Option Value) (base : Heap) (C : Addr) (k : Nat) (ps : List Str) (sp : Sp3) : Prop := CalleeI P w K mg base C k ps (liSp sp)
def eMeth (C : Addr) (m : Str) (sp : Sp3) (to : E3) (t : A3) : E3 := fun Y τ Γ Z => to Y τ Γ fun x Γ1 => ∃ a dx fs, x = .ref a ∧ Γ1 a = some (.ins C dx fs) ∧ fs.lookup m = none ∧ t Y τ Γ1 fun xs Γ2 => sp (.ref a :: xs) Γ2 Z fun _ _ => False
variable {m : Str} {k j : Nat} {ps : List Str} {sp : Sp3} {o e : Expr} {es : List Expr} {to : E3} {t : A3} {apos pos p : Pos} {pl : Sem Bool}
theorem qe_meth (c : ClM X.prog X.w X.K X.mg X.base C m k ps sp) (hr : Room j X.A) (hk : k ≤ j) (he : PE X o (liE E to)) (ha : PA X (e :: es) (liA E t))
  (hst : starEach (e :: es) X.env = (false, eval e X.env) :: starEach es X.env := by rfl) (hpl : (backTo pos (starEach es X.env)).any (·.1) = false := by rfl)
  (ht : eval (.Call (.Attribute o m apos) (e :: es) [] pos) X.env = (do
   let ov ← eval o X.env
   standAt apos.atName
   let (f, first) ← holding [ov] (getMethod ov m pl)
   callWith pos f first (backTo pos (starEach (e :: es) X.env)) (backToKw pos (keywordEach [] X.env))) := by rfl) : PE X (.Call (.Attribute o m apos) (e :: es) [] pos) (liE E (eMeth C m sp to t)) := by
 obtain ⟨f, fd, F, c, hm, hb⟩ := c
 refine weakE3 (pe_meth (pl := pl) (E := E0) he c hm F (hr.mono hk) hb .nil (fun _ _ _ _ _ _ _ z => z.elim) ha hst hpl ht) fun σ H Q τ Γ Y Z rs hr t vr xr => ?_
 refine ⟨τ, Γ, Y, _, rs, hr, t, fun v x H1 Γ1 s1 h1 r1 z1 => ?_, xr⟩
 obtain ⟨a, dx, fs, rfl, g, l, z⟩ := z1
 obtain ⟨gs, hg, q⟩ := h1 a _ g
 refine ⟨a, dx, gs, i_ref r1, hg, q.non l, ?_⟩
 refine ⟨τ, Γ1, Y, _, rs.mono s1.tq, h1, z, fun vs xs H2 Γ2 s2 h2 r2 z2 => ?_, xr.mono s1⟩
 show liSp sp (v :: (vs ++ [])) H2 Q E0
 rw [List.append_nil, i_ref r1]
 exact ⟨.ref a :: xs, Γ2, Z, _, rs_cons r_ref r2, h2, z2, vr.mono (s1.trans s2), fun _ _ _ _ _ z => z.elim⟩
theorem qe_meth0 (c : ClM X.prog X.w X.K X.mg X.base C m k ps sp) (hr : Room j X.A) (hk : k ≤ j) (he : PE X o (liE E to))
  (ht : eval (.Call (.Attribute o m apos) [] [] pos) X.env = (do
   let ov ← eval o X.env
   standAt apos.atName
   let (f, first) ← holding [ov] (getMethod ov m pl)
   callWith pos f first (backTo pos (starEach [] X.env)) (backToKw pos (keywordEach [] X.env))) := by rfl) : PE X (.Call (.Attribute o m apos) [] [] pos) (liE E (eMeth C m sp to aNil)) := by
 obtain ⟨f, fd, F, c, hm, hb⟩ := c
 refine weakE3 (pe_meth0 (pl := pl) (E := E0) he c hm F (hr.mono hk) hb .nil (fun _ _ _ _ _ _ _ z => z.elim) ht) fun σ H Q τ Γ Y Z rs hr t vr xr => ?_
 refine ⟨τ, Γ, Y, _, rs, hr, t, fun v x H1 Γ1 s1 h1 r1 z1 => ?_, xr⟩
 obtain ⟨a, dx, fs, rfl, g, l, z⟩ := z1
 obtain ⟨gs, hg, q⟩ := h1 a _ g
 refine ⟨a, dx, gs, i_ref r1, hg, q.non l, ?_⟩
 show liSp sp (v :: ([] ++ [])) H1 Q E0
 rw [i_ref r1]
 exact ⟨[.ref a], Γ1, Z, _, rs_cons r_ref rs_nil, h1, z, vr.mono s1, fun _ _ _ _ _ z => z.elim⟩
def eMake (C : Addr) (sp : Sp3) (t : A3) : E3 := fun Y τ Γ Z => t Y τ Γ fun xs Γ1 => ∀ x dx, Γ1 x = none → Γ1 dx = none → dx ≠ x → sp (.ref x :: xs) (up Γ1 x (.ins C dx [])) (fun v Γ2 => v = .non ∧ Z (.ref x) Γ2) fun _ _ => False
theorem qe_make {x : Str} (c : ClI X.prog X.w X.K X.mg X.base C k ps sp) (hr : Room j X.A) (hk : k + 1 ≤ j) (hg : Gl X x) (hm : X.mg x = some (.ref C)) (ha : PA X (e :: es) (liA E t)) (hdb : (x == ("__debug__" : Str)) = false := by decide)
  (he : starEach (e :: es) X.env = (false, eval e X.env) :: starEach es X.env := by rfl) (hpl : (backTo pos (starEach es X.env)).any (·.1) = false := by rfl) : PE X (.Call (.Name x p) (e :: es) [] pos) (liE E (eMake C sp t)) := by
 obtain ⟨f, fd, F, M, hb⟩ := c
 refine weakE3 (pe_make (E := E0) M F (hr.mono hk) hg hm hb .nil (fun _ _ _ _ _ _ _ z => z.elim) ha hdb he hpl) fun σ H Q τ Γ Y Z rs hr t vr xr => ?_
 refine ⟨τ, Γ, Y, _, rs, hr, t, fun vs xs H1 Γ1 s1 h1 r1 z1 => ?_, xr⟩
 intro x dx hx hdx ne
 rw [List.append_nil]
 have k1 := keep_new (o := .own x) hdx
 have hx2 : (upd H1 dx (.own x)) x = none := by rw [upd_ne (Ne.symm ne)]; exact hx
 have st1 : Stp H1 Γ1 (upd H1 dx (.own x)) Γ1 := .keep k1
 have h1' : HR (upd H1 dx (.own x)) Γ1 := h1.keep k1
 have st2 : Stp (upd H1 dx (.own x)) Γ1 (upd (upd H1 dx (.own x)) x (.ins C dx [])) (up Γ1 x (.ins C dx [])) := .make hx2
 have h2 := h1'.make (o := .ins C dx []) (o3 := .ins C dx []) hx2 ⟨[], upd_same, .nil⟩
 refine ⟨.ref x :: xs, _, _, _, rs_cons r_ref (r1.mono (st1.trans st2).tq), h2, z1 x dx (h1.free hx) (h1.free hdx) ne, fun v u H3 Γ3 s3 h3 r3 z3 => ?_, fun _ _ _ _ _ z => z.elim⟩
 obtain ⟨rfl, z⟩ := z3
 exact ⟨i_non r3, vr _ _ H3 Γ3 (s1.trans ((st1.trans st2).trans s3)) h3 r_ref z⟩
end
end L3
set_option Elab.async false
set_option linter.all false
set_option maxRecDepth 100000
namespace L2
open PySem PySem.Spec PyProof.Rows
section
variable {X : Cx}
def S (l : List Nat) : Str := ⟨l.toArray⟩
def OnceS (ss : List Str) (S : Str → Bool) (n : Nat) : Prop := (∀ k, S k = true ↔ k ∈ ss) ∧ ((ss.Nodup ∧ n = ss.length) ∨ (¬ ss.Nodup ∧ n < ss.length))
theorem OnceS.nil : OnceS [] (fun _ => false) 0 := ⟨fun k => by simp, .inl ⟨List.nodup_nil, rfl⟩⟩
theorem OnceS.le {ss : List Str} {S : Str → Bool} {n : Nat} (h : OnceS ss S n) : n ≤ ss.length := by
 rcases h.2 with ⟨_, h⟩ | ⟨_, h⟩ <;> omega
theorem OnceS.snoc {ss : List Str} {S : Str → Bool} {n : Nat} {k : Str} (h : OnceS ss S n) : OnceS (ss ++ [k]) (fun k' => S k' || decide (k' = k)) (more S n k) := by
 obtain ⟨h1, h2⟩ := h
 refine ⟨fun k' => by rw [Bool.or_eq_true, decide_eq_true_eq, h1 k', List.mem_append, List.mem_singleton], ?_⟩
 have e : (ss ++ [k]).Nodup ↔ ss.Nodup ∧ k ∉ ss := by
  rw [List.nodup_append]
  constructor
  ·rintro ⟨a, _, b⟩
   exact ⟨a, fun m => b k m k (by simp) rfl⟩
  ·rintro ⟨a, b⟩
   refine ⟨a, by simp, fun x hx y hy e => b ?_⟩
   rw [List.mem_singleton] at hy
   rw [← hy, ← e]; exact hx
 rw [e, List.length_append]
 show (_ ∧ (if S k = true then n else n + 1) = _) ∨ (_ ∧ (if S k = true then n else n + 1) < _)
 by_cases c : S k = true
 ·rw [if_pos c]
  have m := (h1 k).mp c
  rcases h2 with ⟨a, b⟩ | ⟨a, b⟩
  ·exact .inr ⟨fun z => z.2 m, by rw [b]; exact Nat.lt_succ_self _⟩
  ·exact .inr ⟨fun z => z.2 m, Nat.lt_succ_of_lt b⟩
 ·rw [if_neg c]
  have m : k ∉ ss := fun z => c ((h1 k).mpr z)
  rcases h2 with ⟨a, b⟩ | ⟨a, b⟩
  ·exact .inl ⟨⟨a, m⟩, by rw [b]; rfl⟩
  ·exact .inr ⟨fun z => a z.1, Nat.succ_lt_succ b⟩
end
end L2
namespace L3
open PySem PySem.Spec L2
section
variable {X : Cx} {E : St → XK}
abbrev J3 := Str → E3
def j3Cons (te : E3) (t : J3) : J3 := fun out Y τ Γ Z => te Y τ Γ fun v Γ1 => ∃ y, v = .str y ∧ (out ++ y).length ≤ sizeLine ∧ t (out ++ y) Y τ Γ1 Z
def eFs (t : J3) : E3 := t Str.empty
def eFmt (te : E3) : E3 := fun Y τ Γ Z => te Y τ Γ fun v Γ1 => (∃ z, v = .str z ∧ z.length ≤ sizeLine ∧ Z (.str z) Γ1) ∨ ∃ i : Int, v = .int i ∧ i.natAbs.log2 < 1920 ∧ Z (.str (toString i)) Γ1
end
end L3
set_option Elab.async false
set_option linter.all false
set_option maxRecDepth 100000
namespace L2
open PySem PySem.Spec PyProof.Rows
section
variable {X : Cx}
end
end L2
namespace L3
open PySem PySem.Spec L2
section
variable {X : Cx} {E : St → XK} {e st : Expr} {te ts : E3} {p2 pos : Pos}
end
section
variable {Y : X3} {D : D3} {τ : S3} {Γ : Gp} {Z : K3} {A : Prop} {C a dx : Addr} {fs : List (Str × T)} {f m : Str}
theorem t_fld {to : E3} (h : to Y τ Γ fun x Γ1 => ∃ a dx fs v, x = .ref a ∧ Γ1 a = some (.ins C dx fs) ∧ fs.lookup f = some v ∧ Z v Γ1) : eFld C to f Y τ Γ Z := h
theorem t_fldR {Q : T → Prop} {v : T} (g : Γ a = some (.ins C dx fs)) (l : fs.lookup f = some v) (z : Q v) : ∃ a' dx' fs' v', T.ref a = .ref a' ∧ Γ a' = some (.ins C dx' fs') ∧ fs'.lookup f = some v' ∧ Q v' := ⟨a, dx, fs, v, rfl, g, l, z⟩
theorem t_sfld {to tv : E3} (h : tv Y τ Γ fun y Γ1 => to Y τ Γ1 fun x Γ2 => ∃ a dx fs, x = .ref a ∧ Γ2 a = some (.ins C dx fs) ∧ fs.length < 1000 ∧ D.nx τ (up Γ2 a (.ins C dx (putT f y fs)))) : cFld C to tv f Y D τ Γ := h
theorem t_sfldR {Q : Gp → Prop} {y : T} (g : Γ a = some (.ins C dx fs)) (l : Nat.ble fs.length 900 = true) (z : Q (up Γ a (.ins C dx (putT f y fs)))) : ∃ a' dx' fs', T.ref a = .ref a' ∧ Γ a' = some (.ins C dx' fs') ∧ fs'.length < 1000 ∧ Q (up Γ a' (.ins C dx' (putT f y fs'))) := ⟨a, dx, fs, rfl, g, by have := Nat.le_of_ble_eq_true l; omega, z⟩
theorem t_sfa {to tv : E3} {r3 : R3} (h : to Y τ Γ fun x Γ1 => ∃ a dx fs v, x = .ref a ∧ Γ1 a = some (.ins C dx fs) ∧ fs.lookup f = some v ∧ tv Y τ Γ1 fun y Γ2 => r3 v y Γ2 fun z Γ3 => ∃ dx' fs', Γ3 a = some (.ins C dx' fs') ∧ fs'.length < 1000 ∧ D.nx τ (up Γ3 a (.ins C dx' (putT f z fs')))) : cFldA C to tv r3 f Y D τ Γ := h
theorem t_sfaR {Q : Addr → T → Prop} {v : T} (g : Γ a = some (.ins C dx fs)) (l : fs.lookup f = some v) (z : Q a v) : ∃ a' dx' fs' v', T.ref a = .ref a' ∧ Γ a' = some (.ins C dx' fs') ∧ fs'.lookup f = some v' ∧ Q a' v' := ⟨a, dx, fs, v, rfl, g, l, z⟩
theorem t_sfaE {Q : Gp → Prop} {z : T} (g : Γ a = some (.ins C dx fs)) (l : Nat.ble fs.length 900 = true) (q : Q (up Γ a (.ins C dx (putT f z fs)))) : ∃ dx' fs', Γ a = some (.ins C dx' fs') ∧ fs'.length < 1000 ∧ Q (up Γ a (.ins C dx' (putT f z fs'))) := ⟨dx, fs, g, by have := Nat.le_of_ble_eq_true l; omega, q⟩
theorem t_meth {sp : Sp3} {to : E3} {t : A3} (h : to Y τ Γ fun x Γ1 => ∃ a dx fs, x = .ref a ∧ Γ1 a = some (.ins C dx fs) ∧ fs.lookup m = none ∧ t Y τ Γ1 fun xs Γ2 => sp (.ref a :: xs) Γ2 Z fun _ _ => False) : eMeth C m sp to t Y τ Γ Z := h
theorem t_methR {Q : Addr → Prop} (g : Γ a = some (.ins C dx fs)) (l : fs.lookup m = none) (z : Q a) : ∃ a' dx' fs', T.ref a = .ref a' ∧ Γ a' = some (.ins C dx' fs') ∧ fs'.lookup m = none ∧ Q a' := ⟨a, dx, fs, rfl, g, l, z⟩
theorem t_make {sp : Sp3} {t : A3} (h : t Y τ Γ fun xs Γ1 => ∀ x dx, Γ1 x = none → Γ1 dx = none → dx ≠ x → sp (.ref x :: xs) (up Γ1 x (.ins C dx [])) (fun v Γ2 => v = .non ∧ Z (.ref x) Γ2) fun _ _ => False) : eMake C sp t Y τ Γ Z := h
theorem t_fs {t : J3} (h : t Str.empty Y τ Γ Z) : eFs t Y τ Γ Z := h
theorem t_jc {te : E3} {t : J3} {out : Str} (h : te Y τ Γ fun v Γ1 => ∃ y, v = .str y ∧ (out ++ y).length ≤ sizeLine ∧ t (out ++ y) Y τ Γ1 Z) : j3Cons te t out Y τ Γ Z := h
theorem t_fm {te : E3} (h : te Y τ Γ fun v Γ1 => (∃ z, v = .str z ∧ z.length ≤ sizeLine ∧ Z (.str z) Γ1) ∨ ∃ i : Int, v = .int i ∧ i.natAbs.log2 < 1920 ∧ Z (.str (toString i)) Γ1) : eFmt te Y τ Γ Z := h
end
end L3
set_option Elab.async false
set_option linter.all false
set_option maxRecDepth 100000
namespace L2
open PySem PySem.Spec PyProof.Rows
def Itel (K : PySem.W.Frag) (a : Addr) : It :=
  ⟨fun i H => ∃ xs x, SqL K H a xs ∧ xs[i]? = some x,
   fun i H v H' => ∃ p x, H p = none ∧ v = .ref p ∧ H' = upd H p (.tup [.int i, x]) ∧ (∀ xs, SqL K H a xs → xs[i]? = some x),
   fun i H => ∃ xs, SqL K H a xs ∧ xs.length = i⟩
theorem turn_enumL {P : Program} {w : World} {K : PySem.W.Frag} {elts : List Expr} {kk : Nat} {pos : Pos} (a e it : Addr) (hei : e ≠ it) (hae : a ≠ e) (hai : a ≠ it) :
  Turn P w K (.Tuple elts kk pos) (Itel K a) [e, it] e (fun i h => (∃ old, IsEnum h e it i old) ∧ h.IsListIter it a i) where
 mem := by simp
 obj := fun i h st c hc => by
  obtain ⟨⟨old, he⟩, ⟨o1, e1, _, d1⟩⟩ := st
  simp only [List.mem_cons, List.not_mem_nil, or_false] at hc
  rcases hc with rfl | rfl
  ·exact ⟨_, he, fun v z => by have z' : Data.fields _ = Data.cell v := z; cases z'⟩
  ·exact ⟨o1, e1, fun v z => by rw [d1] at z; cases z⟩
 keep := fun i h h' st k => by
  obtain ⟨⟨old, he⟩, h1⟩ := st
  exact ⟨⟨old, k e (by simp) _ he⟩, h1.at fun o q => k it (by simp) o q⟩
 item := by
  intro X hP hw hK hc i pins s σ H E I hf st hg
  subst hP hw hK
  obtain ⟨⟨old, he⟩, h1⟩ := st
  obtain ⟨xs, x, hxs, hx⟩ := hg
  obtain ⟨its, rv, pl0, _⟩ := I.list hxs
  have pl := pl0.isList
  obtain ⟨vx, ex, rx⟩ := rv.get hx
  have n0 : H s.heap.objs.size = none := I.hok.fresh (Nat.le_refl _)
  have hi : i < its.toArray.size := by
   have := (List.getElem?_eq_some_iff.mp ex).1
   simpa using this
  refine wpAny_pyNext_enum_itemD (Draws.list (prog := X.prog) (w := X.w) (A := X.A.in1) (I.ok.hd hc) it a hai its.toArray) he ⟨h1, pl⟩ hi hei (by simp [hei, hae.symm]) fun v h' tk hv ho hs' ht hsz kk => ?_
  have hvx : v = vx := by
   have hv' : its[i]? = some v := by simpa using hv
   rw [ex] at hv'; exact (Option.some.inj hv').symm
  subst hvx
  refine ⟨_, rfl, wpAny_letOwnedTupleGo_enum ho fun g2 he2 hs2 => ?_⟩
  have el : e < s.heap.objs.size := Heap.lt_size he
  have il : it < s.heap.objs.size := by obtain ⟨_, q, _⟩ := h1; exact Heap.lt_size q
  refine ⟨.ref s.heap.objs.size, upd H s.heap.objs.size (.tup [.int i, x]), ?_, rfl, ⟨_, x, n0, rfl, rfl, fun zs hzs => by rw [I.list_inj hzs hxs]; exact hx⟩, ⟨⟨v, ?_⟩, ?_⟩, fun c hc => ?_⟩
  ·refine I.turnedNew (t' := tk + 1) (ch := [e, it]) (fun c o hc q => ?_) (fun c hc => hf c hc) (Nat.le_refl _) ⟨by show 2 ≤ sizeLine; decide, [.int i tk, v], .cons ⟨tk, rfl⟩ (.cons rx .nil), ?_⟩
   ·simp only [List.mem_cons, List.not_mem_nil, or_false, not_or] at hc
    exact (hs2.2 c hc.1).trans (kk c o hc.1 hc.2 q)
   ·exact ⟨_, (hs2.2 _ (Nat.ne_of_gt el)).trans ht, rfl, 0, rfl⟩
  ·have : ((i + 1 : Nat) : Int) = (i : Int) + 1 := by omega
   rw [this]; exact he2
  ·exact hs'.1.at fun o q => (hs2.2 it hei.symm).trans q
  ·have : c < s.heap.objs.size := by
    simp only [List.mem_cons, List.not_mem_nil, or_false] at hc
    rcases hc with rfl | rfl
    ·exact el
    ·exact il
   rw [upd_ne (Nat.ne_of_lt this)]
   exact (hf c hc).1
 done := by
  intro X hP hw hK hc i pins s σ H E I hf st hg
  subst hP hw hK
  obtain ⟨⟨old, he⟩, h1⟩ := st
  obtain ⟨xs, hxs, hl⟩ := hg
  obtain ⟨its, rv, pl0, _⟩ := I.list hxs
  have pl := pl0.isList
  have l1 := rv.length
  have ei : i = its.toArray.size := by simp; omega
  subst ei
  refine wpAny_pyNext_enum_endD (Draws.list (prog := X.prog) (w := X.w) (A := X.A.in1) (I.ok.hd hc) it a hai its.toArray) he ⟨h1, pl⟩ fun h' hx => ⟨rfl, ?_⟩
  obtain ⟨f0, f1, f2, f3, f4, f5⟩ := hf it (by simp)
  exact I.turned (t' := s.toks) (fun b o hb q => hx b o hb q) f0 f1 f3 f4 f5
 self := fun _ _ _ _ _ st h => by
  obtain ⟨⟨old, he⟩, _⟩ := st
  exact wpAny_pyIter_enum he h
section
variable {X : Cx} {elts : List Expr} {kk : Nat} {tpos : Pos}
def iEnumL (K : PySem.W.Frag) (ta : TA) : TI := fun σ H R => ta σ H fun vs H1 => ∃ (a : Addr) (xs : List V), vs = [.ref a] ∧ SqL K H1 a xs ∧ R (Itel K a) H1
theorem pi_enumL {a : Expr} {ta : TA} {p pos : Pos} (hg : Gl X "enumerate") (hm : X.mg "enumerate" = none) (ha : PA X [a] ta) (hs : starEach [a] X.env = [(false, eval a X.env)] := by rfl) :
  PI X (.Tuple elts kk tpos) (.Call (.Name "enumerate" p) [a] [] pos) (iEnumL X.K ta) := by
 refine .mk ?_
 intro pins s σ H R I h
 refine Call_ (ld_blt I hg hm boot_enumerate (PyProof.Rows.callWith_type1 (thn (ha pos pins s σ H _ I h) fun us s1 ⟨vs, H1, I1, r1, q1⟩ => ?_) hs rfl))
 obtain ⟨u1, xs, e, hx, q⟩ := q1
 subst e
 cases r1 with
 | cons r rr =>
  cases rr
  cases r
  obtain ⟨its, rv, pl0, _⟩ := I1.list hx
  have pl := pl0.isList
  obtain ⟨o1, e1, _⟩ := id pl
  have l1 := Heap.lt_size e1
  refine call_enumerate_list pl fun h' he hi hsz k => ?_
  refine wpAny_pyIter_enum he ?_
  refine ⟨s1.heap.objs.size + 1, [s1.heap.objs.size + 1, s1.heap.objs.size], _, _, H1, rfl, I1.kept (t' := s1.toks) k, turn_enumL u1 _ _ (Nat.succ_ne_self _) (Nat.ne_of_lt (Nat.lt_succ_of_lt l1)) (Nat.ne_of_lt l1), ⟨⟨.none, he⟩, hi⟩, fun c hc => ?_, q⟩
  have hc' : s1.heap.objs.size ≤ c := by
   simp only [List.mem_cons, List.not_mem_nil, or_false] at hc
   rcases hc with rfl | rfl
   ·exact Nat.le_succ _
   ·exact Nat.le_refl _
  exact I1.fpOk hc' (I1.hok.fresh hc')
end
end L2
namespace L3
open PySem PySem.Spec L2
section
variable {X : Cx} {E : St → XK} {p pos : Pos}
def iEl (ta : A3) : I3 := fun Y τ Γ Z => ta Y τ Γ fun xs Γ1 => ∃ a ts, xs = [.ref a] ∧ it3 Γ1 (.ref a) = some ts ∧ Z (enumT 0 ts) (fun Γ' => it3 Γ' (.ref a) = some ts) Γ1
theorem walk_enumL {K : PySem.W.Frag} {H : Hp} {a : Addr} {ts : List T} : Walks (Itel K a) (enumT 0 ts) (fun Γ' => it3 Γ' (.ref a) = some ts) H where
 go := fun i H' Γ t hr g hi => by
  obtain ⟨vs, sq, q⟩ := it3_a (K := K) hr g
  rw [enumT_len] at hi
  exact ⟨vs, vs[i]'(by rw [q.length]; omega), sq, by simp⟩
 yld := fun i H' Γ v H2 t hr g hi q0 => by
  obtain ⟨p, x, hp, e1, e2, y1⟩ := q0
  subst e1 e2
  obtain ⟨vs, sq, q⟩ := it3_a (K := K) hr g
  obtain ⟨t1, f1, r1⟩ := q.getV (y1 vs sq)
  have k := keep_new (o := .tup [.int i, x]) hp
  refine ⟨.keep k, hr.keep k, _, enumT_get f1, r_tup upd_same (rs_cons ?_ (rs_cons (r1.mono (tq_kp k)) rs_nil))⟩
  rw [Nat.zero_add]
  exact r_int
 stop := fun H' Γ t hr g => by
  obtain ⟨vs, sq, q⟩ := it3_a (K := K) hr g
  exact ⟨vs, sq, by rw [enumT_len, q.length]⟩
theorem qi_enumL {a : Expr} {ta : A3} {elts : List Expr} {kk : Nat} {tpos : Pos} (hg : Gl X "enumerate") (hm : X.mg "enumerate" = none) (ha : PA X [a] (liA E ta)) (hs : starEach [a] X.env = [(false, eval a X.env)] := by rfl) :
  PI X (.Tuple elts kk tpos) (.Call (.Name "enumerate" p) [a] [] pos) (liI E (iEl ta)) :=
 weakI3 (pi_enumL hg hm ha hs) fun σ H Q τ Γ Y Z rs hr t vr xr => ⟨τ, Γ, Y, _, rs, hr, t, fun vs xs H1 Γ1 s1 h1 r1 ⟨a, ts, ex, g, z⟩ => by
  subst ex
  obtain ⟨v, rfl, ra⟩ := rs1 r1
  obtain ⟨us, sq, q⟩ := it3_a (K := X.K) h1 g
  exact ⟨a, us, by rw [i_ref ra], sq, vr _ _ _ H1 Γ1 s1 h1 walk_enumL z⟩, xr⟩
end
end L3
set_option Elab.async false
set_option linter.all false
set_option maxRecDepth 100000
namespace L3
open PySem PySem.Spec L2
section
variable {X : Cx} {E : St → XK}
def eDn : E3 := fun _ _ Γ Z => ∀ p, Γ p = none → Z (.ref p) (up Γ p (.dK []))
theorem qe_dnew {pos : Pos} : PE X (.Dict [] [] pos) (liE E eDn) :=
 weakE3 pe_dnew fun σ H Q τ Γ Y Z rs hr t vr xr => by
  intro p hp
  exact vr _ _ _ _ (.make hp) (hr.make (o3 := .dK []) hp ⟨[], upd_same, .nil⟩) r_ref (t p (hr.free hp))
end
end L3
set_option Elab.async false
set_option linter.all false
set_option maxRecDepth 100000
namespace L2
open PySem PySem.Spec PyProof.Rows
section
variable {prog : Program} {w : World} {A : Around} {E : Value → Shared → Prop} {s : Shared}
end
section
variable {X : Cx} {elts : List Expr} {kk : Nat} {tpos : Pos}
end
end L2
set_option Elab.async false
set_option linter.all false
set_option maxRecDepth 100000
namespace L2
open PySem PySem.Spec PyProof.Rows
end L2
set_option Elab.async false
set_option linter.all false
set_option maxRecDepth 100000
namespace L2
open PySem PySem.Spec PyProof.Rows
abbrev TM := St → Hp → (St → Hp → Prop) → Prop
section
variable {X : Cx} {elt tg iter : Expr} {ifs : List Expr} {gens : List Comprehension} {scope : Scope} {pos : Pos} {d : Nat} {D : Addr} {te : TE} {wi : TI} {g : TG} {tc : TT} {tm : TM}
end
section
variable {X : Cx} {scope : Scope} {cl : List (Str × Addr)} {own : List Str} {cap : List (Nat × Str)} {tg iter elt : Expr} {ifs : List Expr} {gens rest : List Comprehension} {wi : TI} {g : TG} {tc : TT} {tm : Addr → TM} {pos : Pos}
end
end L2
set_option Elab.async false
set_option linter.all false
set_option maxRecDepth 100000
namespace L3
open PySem PySem.Spec L2
open PyProof.Rows hiding St
abbrev M3 := S3 → List T → Gp → (S3 → List T → Gp → Prop) → Prop
section
variable {X : Cx} {E : St → XK} {elt tg iter : Expr} {ifs : List Expr} {gens rest : List Comprehension} {scope : Scope} {cl : List (Str × Addr)} {own : List Str} {cap : List (Nat × Str)} {pos : Pos} {d : Nat} {D : Addr} {te : E3} {wi : I3} {g : G3} {tc : T3} {tm : M3}
end
end L3
set_option Elab.async false
set_option linter.all false
set_option maxRecDepth 100000
namespace Sr
open PySem PyProof.Rows
section
variable {prog : Program} {w : World} {A : Around} {E : Value → Shared → Prop} {s : Shared} {a0 : Array Keyed} {kd : SortKind} {st : SortSt}
end
end Sr
set_option Elab.async false
set_option linter.all false
set_option maxRecDepth 100000
namespace Sr
open PySem PyProof.Rows
inductive Txs : List Str → List Value → Prop
 | nil : Txs [] []
 | cons {z : Str} {t : Tok} {zs : List Str} {vs : List Value} (h : Txs zs vs) : Txs (z :: zs) (.str z t :: vs)
section
variable {prog : Program} {w : World} {A : Around} {E : Value → Shared → Prop} {s : Shared} {M : Model}
theorem Txs.length : ∀ {zs : List Str} {vs : List Value}, Txs zs vs → vs.length = zs.length
 | _, _, .nil => rfl
 | _, _, .cons h => by rw [List.length_cons, List.length_cons, h.length]
end
end Sr
namespace L2
open PySem PySem.Spec PyProof.Rows
section
variable {X : Cx}
def RowAt (H : Hp) (y : V) (zs : List Str) : Prop := ∃ a, y = .ref a ∧ H a = some (.tup (zs.map V.str))
inductive Rws (H : Hp) : List V → List (List Str) → Prop
 | nil : Rws H [] []
 | cons {y : V} {zs : List Str} {ys : List V} {tb : List (List Str)} (a : RowAt H y zs) (b : Rws H ys tb) : Rws H (y :: ys) (zs :: tb)
theorem Rws.get {H : Hp} : ∀ {ys : List V} {tb : List (List Str)} {i : Nat} {y : V}, Rws H ys tb → ys[i]? = some y → ∃ zs, tb[i]? = some zs ∧ RowAt H y zs
 | _, _, i, y, .nil, h => by simp at h
 | _, _, 0, y, .cons a b, h => by cases h; exact ⟨_, rfl, a⟩
 | _, _, i + 1, y, .cons a b, h => by simpa using b.get (by simpa using h)
end
end L2
namespace L3
open PySem PySem.Spec L2
end L3
set_option Elab.async false
set_option linter.all false
set_option maxRecDepth 100000
namespace L2
open PySem PySem.Spec PyProof.Rows
end L2
namespace L3
open PySem PySem.Spec L2
open PyProof.Rows hiding St
section
variable {X : Cx} {E : St → XK} {tg l : Expr} {tl : E3} {pos p : Pos}
def KT (K : PySem.W.Frag) (a : Addr) (ts : List T) : Prop := ∃ vs, KTup K a vs ∧ ∀ H, Rs H vs ts
end
end L3
set_option Elab.async false
set_option linter.all false
set_option maxRecDepth 100000
namespace L2
open PySem PySem.Spec PyProof.Rows
end L2
namespace L2
open PySem PySem.Spec PyProof.Rows
section
variable (P : Program) (w : World)
end
section
variable {P : Program} {w : World} {H H' : Hp} {h h' : Heap} {a : Addr} {o : HO}
end
section
variable {P : Program} {w : World} {H : Hp} {h h' : Heap} {x e : Addr} {o' : HO}
end
section
variable {fs fs' ex ex' : List Addr} {H H1 H2 : Hp} {h h1 h2 h' : Heap} {a x e : Addr} {o : HO}
end
end L2
namespace L2
open PySem PySem.Spec PyProof.Rows
section
variable {X : Cx} {pins : List (Addr × Obj)} {σ : List (Option V)} {H H' : Hp} {s : Shared} {h' : Heap}
end
end L2
namespace L2
open PySem PySem.Spec PyProof.Rows
section
variable {X : Cx}
variable {a b : Expr} {ta tb : TE} {pos : Pos}
variable {tA tB' : TT} {rest : List Expr}
end
end L2
namespace L2
open PySem PySem.Spec PyProof.Rows
section
variable {X : Cx} {pins : List (Addr × Obj)} {σ : St} {H : Hp} {s : Shared} {a : Addr} {xs ys : List V}
end
section
variable {X : Cx} {pins : List (Addr × Obj)} {σ : St} {H : Hp} {s : Shared} {E : Value → Shared → Prop}
end
section
variable {X : Cx} {st : Stmt} {rest : List Stmt} {t u : TS} {e : Expr} {te : TE} {pos : Pos}
end
section
variable {X : Cx} {pos : Pos}
end
section
variable {X : Cx} {pos : Pos}
end
end L2
namespace L2
open PySem PySem.Spec PyProof.Rows
section
variable {X : Cx} {tg : Expr}
end
end L2
namespace L2
open PySem PySem.Spec PyProof.Rows
section
variable {X : Cx} {a b c : Expr} {ta tb tc : TE} {pos : Pos}
end
section
variable {X : Cx} {a b c : Expr} {ta tb tc : TE} {pos : Pos}
end
end L2
namespace L2
open PySem PySem.Spec PyProof.Rows
section
variable {prog : Program} {w : World} {A : Around} {E : Value → Shared → Prop} {s : Shared} {K : PySem.W.Frag} {x dx C f : Addr} {mA : Str → Option Value} {name : Str} {v : Value}
end
section
variable {P : Program} {w : World} {H H' : Hp} {h h' : Heap} {a C dx : Addr} {fs fs' : List (Str × V)}
end
section
variable {X : Cx} {pins : List (Addr × Obj)} {σ : St} {H : Hp} {s : Shared} {a C dx : Addr} {fs : List (Str × V)} {f : Str} {v : V} {A : Around} {E : Value → Shared → Prop}
end
section
variable {X : Cx} {o e value : Expr} {f : Str} {pos pos' tpos : Pos} {ta tv : TE}
end
section
variable {X : Cx} {pins : List (Addr × Obj)} {σ : St} {H : Hp} {s : Shared} {A : Around} {E : Value → Shared → Prop} {Q : Value → Shared → Prop} {c : Value} {b : Bool}
end
end L2
namespace L2
open PySem PySem.Spec PyProof.Rows
section
variable {X : Cx} {e : Expr} {es : List Expr} {te : TE} {t : TA} {pos : Pos}
end
section
variable {X : Cx} {pins : List (Addr × Obj)} {σ : St} {H : Hp} {s s' : Shared}
end
section
variable {X : Cx} {CX : CXT} {k : Nat} {f C : Addr} {fd : FuncData} {ps : List Str} {sp : Sp} {dvs : List V} {ds : List Value} {E : XK} {x m : Str} {p pos apos : Pos} {e o : Expr} {es : List Expr} {ta : TE} {t : TA}
end
section
variable {X : Cx} {CX : CXT} {k : Nat} {f C : Addr} {fd : FuncData} {ps ks : List Str} {sp : Sp} {E : XK} {x m : Str} {p pos apos kpos : Pos} {e o : Expr} {es : List Expr} {kws : List Keyword} {te ta : TE} {t tk : TA} {nm : Option Str}
variable {g : List Value → List Value → List Value} {gV : List V → List V → List V}
end
end L2
namespace L2
open PySem PySem.Spec PyProof.Rows
section
variable {X : Cx} {x : Str} {p pos : Pos} {e : Expr} {es : List Expr} {t : TA} {id T : String} {r : List V → Hp → VK → Prop}
end
end L2
namespace L2
open PySem PySem.Spec PyProof.Rows
section
variable {κ : Type} [DecidableEq κ]
def valV (kvs : List (κ × V)) (k : κ) : Option V := (kvs.find? fun kv => decide (kv.1 = k)).map (·.2)
def putK (kvs : List (κ × V)) (k : κ) (v : V) : List (κ × V) :=
 if (kvs.any fun kv => decide (kv.1 = k)) = true then kvs.map (fun kv => if kv.1 = k then (kv.1, v) else kv) else kvs ++ [(k, v)]
def dropKv (kvs : List (κ × V)) (k : κ) : List (κ × V) := kvs.filter fun kv => decide (kv.1 ≠ k)
theorem valV_pos {p : κ × V} {r : List (κ × V)} {k : κ} (e : p.1 = k) : valV (p :: r) k = some p.2 := by simp [valV, List.find?_cons, e]
theorem valV_neg {p : κ × V} {r : List (κ × V)} {k : κ} (e : ¬ p.1 = k) : valV (p :: r) k = valV r k := by simp [valV, List.find?_cons, e]
theorem valV_any (k : κ) : ∀ kvs : List (κ × V), (kvs.any fun kv => decide (kv.1 = k)) = (valV kvs k).isSome
 | [] => rfl
 | p :: r => by
  rw [List.any_cons]
  by_cases e : p.1 = k
  ·simp only [valV_pos e, decide_eq_true e, Bool.true_or, Option.isSome_some]
  ·rw [valV_neg e, decide_eq_false e, Bool.false_or]; exact valV_any k r
theorem length_putK (kvs : List (κ × V)) (k : κ) (v : V) : (putK kvs k v).length ≤ kvs.length + 1 := by
 unfold putK
 split
 ·rw [List.length_map]; omega
 ·rw [List.length_append, List.length_cons, List.length_nil]; omega
theorem RelO.isSome_eq {o : Option V} {u : Option Value} (r : RelO o u) : o.isSome = u.isSome := by
 cases o with
 | none => cases u with
  | none => rfl
  | some _ => exact (show False from r).elim
 | some _ => cases u with
  | none => exact (show False from r).elim
  | some _ => rfl
theorem RelO.getD {o : Option V} {u : Option Value} {d : V} {d' : Value} (r : RelO o u) (rd : RelV d d') : RelV (o.getD d) (u.getD d') := by
 cases o with
 | none => cases u with
  | none => exact rd
  | some _ => exact (show False from r).elim
 | some _ => cases u with
  | none => exact (show False from r).elim
  | some _ => exact r
theorem KV.val {kvs : List (κ × V)} {vs : List (κ × Value)} (r : KV kvs vs) (k : κ) : RelO (valV kvs k) (valueAt vs k) := by
 unfold KV at r
 induction r with
 | nil => exact True.intro
 | @cons p q ps qs h t ih =>
  obtain ⟨h1, h2⟩ := h
  by_cases e : p.1 = k
  ·have e' : q.1 = k := h1.symm.trans e
   have b : valueAt (q :: qs) k = some q.2 := by simp [valueAt, List.find?_cons, e']
   rw [valV_pos e, b]; exact h2
  ·have e' : ¬ q.1 = k := fun z => e (h1.trans z)
   have b : valueAt (q :: qs) k = valueAt qs k := by simp [valueAt, List.find?_cons, e']
   rw [valV_neg e, b]; exact ih
theorem KV.any {kvs : List (κ × V)} {vs : List (κ × Value)} (r : KV kvs vs) (k : κ) : (kvs.any fun kv => decide (kv.1 = k)) = vs.any fun kv => decide (kv.1 = k) := by
 unfold KV at r
 induction r with
 | nil => rfl
 | cons h t ih => rw [List.any_cons, List.any_cons, ih, h.1]
theorem KV.repl {kvs : List (κ × V)} {vs : List (κ × Value)} (r : KV kvs vs) (k : κ) {y : V} {u : Value} (ry : RelV y u) :
  KV (kvs.map fun kv => if kv.1 = k then (kv.1, y) else kv) (vs.map fun kv => if kv.1 = k then (kv.1, u) else kv) := by
 unfold KV at r ⊢
 induction r with
 | nil => exact .nil
 | @cons p q ps qs h t ih =>
  rw [List.map_cons, List.map_cons]
  refine .cons ?_ ih
  obtain ⟨h1, h2⟩ := h
  by_cases e : p.1 = k
  ·rw [if_pos e, if_pos (h1.symm.trans e)]; exact ⟨h1, ry⟩
  ·rw [if_neg e, if_neg (fun z => e (h1.trans z))]; exact ⟨h1, h2⟩
theorem KV.put {kvs : List (κ × V)} {vs : List (κ × Value)} (r : KV kvs vs) (k : κ) {y : V} {u : Value} (ry : RelV y u) : KV (putK kvs k y) (stored vs k u) := by
 unfold putK stored
 rw [r.any k]
 by_cases e : (vs.any fun kv => decide (kv.1 = k)) = true
 ·rw [if_pos e, if_pos e]; exact r.repl k ry
 ·rw [if_neg e, if_neg e]; exact Paired.snoc r ⟨rfl, ry⟩
theorem KV.drop {kvs : List (κ × V)} {vs : List (κ × Value)} (r : KV kvs vs) (k : κ) : KV (dropKv kvs k) (without vs k) := by
 unfold KV at r ⊢
 unfold dropKv without
 induction r with
 | nil => exact .nil
 | @cons p q ps qs h t ih =>
  obtain ⟨h1, h2⟩ := h
  rw [List.filter_cons, List.filter_cons]
  by_cases e : p.1 = k
  ·have a : ¬ decide (p.1 ≠ k) = true := by simp [e]
   have b : ¬ decide (q.1 ≠ k) = true := by simp [h1.symm.trans e]
   rw [if_neg a, if_neg b]; exact ih
  ·have e' : ¬ q.1 = k := fun z => e (h1.trans z)
   have a : decide (p.1 ≠ k) = true := by simp [e]
   have b : decide (q.1 ≠ k) = true := by simp [e']
   rw [if_pos a, if_pos b]; exact .cons ⟨h1, h2⟩ ih
theorem KV.keys {kvs : List (κ × V)} {vs : List (κ × Value)} (r : KV kvs vs) : kvs.map (·.1) = vs.map (·.1) := by
 unfold KV at r
 induction r with
 | nil => rfl
 | cons h t ih => rw [List.map_cons, List.map_cons, ih, h.1]
theorem KV.length {kvs : List (κ × V)} {vs : List (κ × Value)} (r : KV kvs vs) : kvs.length = vs.length := Paired.length r
theorem dropK_le (kvs : List (κ × V)) (k : κ) : (dropKv kvs k).length ≤ kvs.length := List.length_filter_le _ _
end
theorem kV_is {P : Program} {w : World} {k : Key} {u : Value} (r : RelV (kV k) u) : (mixKind P w).is k u = true := by
 cases k with
 | inl i => obtain ⟨t, e⟩ := (show ∃ t, u = Value.int i t from r); subst e; exact mixKind_int P w i t
 | inr x => obtain ⟨t, e⟩ := (show ∃ t, u = Value.str x t from r); subst e; exact mixKind_str P w x t
theorem items_are {P : Program} {w : World} : ∀ {ks : List Key} {us : List Value}, Vals (ks.map kV) us → ItemsAre (mixKind P w) ks us
 | [], _, r => by rw [List.map_nil] at r; cases r; exact .nil
 | k :: ks, _, r => by
  rw [List.map_cons] at r
  cases r with
  | cons h t => exact .cons (kV_is h) (items_are t)
abbrev KT (H : Hp) : List (List Key × V) → List (List Key × Addr × Value) → Prop := Paired fun p q => p.1 = q.1 ∧ H q.2.1 = some (.tup (p.1.map kV)) ∧ RelV p.2 q.2.2
theorem KT.val {H : Hp} {kvs : List (List Key × V)} {xs : List (List Key × Addr × Value)} (r : KT H kvs xs) (k : List Key) : RelO (valV kvs k) ((atKey xs k).map (·.2)) := by
 induction r with
 | nil => exact True.intro
 | @cons p q ps qs h t ih =>
  obtain ⟨h1, _, h2⟩ := h
  by_cases e : p.1 = k
  ·have e' : q.1 = k := h1.symm.trans e
   have b : atKey (q :: qs) k = some q.2 := by simp [atKey, List.find?_cons, e']
   rw [valV_pos e, b]; exact h2
  ·have e' : ¬ q.1 = k := fun z => e (h1.trans z)
   have b : atKey (q :: qs) k = atKey qs k := by simp [atKey, List.find?_cons, e']
   rw [valV_neg e, b]; exact ih
theorem KT.repl {H : Hp} {kvs : List (List Key × V)} {xs : List (List Key × Addr × Value)} (r : KT H kvs xs) (k : List Key) {y : V} {u : Value} (ry : RelV y u) :
  KT H (kvs.map fun kv => if kv.1 = k then (kv.1, y) else kv) (xs.map (putAt k u)) := by
 induction r with
 | nil => exact .nil
 | @cons p q ps qs h t ih =>
  rw [List.map_cons, List.map_cons]
  refine .cons ?_ ih
  obtain ⟨h1, h2, h3⟩ := h
  unfold putAt
  by_cases e : p.1 = k
  ·rw [if_pos e, if_pos (h1.symm.trans e)]; exact ⟨h1, h2, ry⟩
  ·rw [if_neg e, if_neg (fun z => e (h1.trans z))]; exact ⟨h1, h2, h3⟩
theorem KT.put {H : Hp} {kvs : List (List Key × V)} {xs : List (List Key × Addr × Value)} (r : KT H kvs xs) (k : List Key) {b : Addr} {y : V} {u : Value} (hb : H b = some (.tup (k.map kV))) (ry : RelV y u) :
  KT H (putK kvs k y) (storedH xs k b u) := by
 have e : (kvs.any fun kv => decide (kv.1 = k)) = (atKey xs k).isSome := by
  rw [valV_any, (r.val k).isSome_eq, Option.isSome_map]
 unfold putK storedH
 rw [e]
 by_cases q : (atKey xs k).isSome = true
 ·rw [if_pos q, if_pos q]; exact r.repl k ry
 ·rw [if_neg q, if_neg q]; exact Paired.snoc r ⟨rfl, hb, ry⟩
theorem KT.keeps {H H' : Hp} {kvs : List (List Key × V)} {xs : List (List Key × Addr × Value)} (r : KT H kvs xs) (ht : ∀ b ys, H b = some (.tup ys) → H' b = some (.tup ys)) : KT H' kvs xs :=
 Paired.mapP r fun _ _ z => ⟨z.1, ht _ _ z.2.1, z.2.2⟩
section
variable {P : Program} {w : World} {H : Hp} {h : Heap} {a : Addr}
theorem rd_of {u : HO} (ok : HOk P w H h) (e : Rd H a u) : ObjOk P w H h a u := e.ok ok
theorem dk_rd {kvs : List (Key × V)} (ok : HOk P w H h) (e : Rd H a (.dK kvs)) : kvs.length ≤ sizeLine ∧ (a == sysModules) = false ∧ ∃ vs, KV kvs vs ∧ h.DictOf (mixKind P w) a vs :=
 show ObjOk P w H h a (.dK kvs) from rd_of ok e
theorem dk_of {kvs : List (Key × V)} (ok : HOk P w H h) (e : H a = some (.dK kvs)) : kvs.length ≤ sizeLine ∧ (a == sysModules) = false ∧ ∃ vs, KV kvs vs ∧ h.DictOf (mixKind P w) a vs := dk_rd ok (.inl e)
theorem key_of {ks : List Key} (ok : HOk P w H h) (e : H a = some (.tup (ks.map kV))) : (tupleKind (mixKind P w)).is h ks a := by
 obtain ⟨_, its, r, o, h1, h2, n, h3⟩ := (show ObjOk P w H h a (.tup (ks.map kV)) from ok a _ e)
 exact ⟨o, its.toArray, n, h1, h2, h3, by simpa using items_are r⟩
theorem dt_rd {kvs : List (List Key × V)} (ok : HOk P w H h) (e : Rd H a (.dT kvs)) : kvs.length ≤ sizeLine ∧ (a == sysModules) = false ∧
  ∃ xs, KT H kvs xs ∧ h.DictOfH (tupleKind (mixKind P w)) a xs := by
 obtain ⟨z, y, xs, r, o, es, ep, h1, h2, h3, h4, h5⟩ := (show ObjOk P w H h a (.dT kvs) from rd_of ok e)
 refine ⟨z, y, xs, r, o, es, ep, h1, h2, h3, h4, fun x hx => ?_, h5⟩
 have all : ∀ {l : List (List Key × V)} {m : List (List Key × Addr × Value)}, KT H l m → ∀ x ∈ m, (tupleKind (mixKind P w)).is h x.1 x.2.1 := by
  intro l m q
  induction q with
  | nil => intro x hx; exact nomatch hx
  | @cons p q ps qs hq t ih =>
   intro x hx
   rcases List.mem_cons.mp hx with e | hx
   ·subst e
    exact key_of ok (by rw [← hq.1]; exact hq.2.1)
   ·exact ih x hx
 exact all r x hx
theorem dt_of {kvs : List (List Key × V)} (ok : HOk P w H h) (e : H a = some (.dT kvs)) : kvs.length ≤ sizeLine ∧ (a == sysModules) = false ∧
  ∃ xs, KT H kvs xs ∧ h.DictOfH (tupleKind (mixKind P w)) a xs := dt_rd ok (.inl e)
end
def DGet (H : Hp) (a : Addr) (y : V) (r : Option V) : Prop :=
 (∃ kvs k, Rd H a (.dK kvs) ∧ y = kV k ∧ r = valV kvs k) ∨ ∃ kvs k b, Rd H a (.dT kvs) ∧ y = .ref b ∧ H b = some (.tup (k.map kV)) ∧ r = valV kvs k
def DPut (H : Hp) (a : Addr) (y v : V) (H' : Hp) : Prop :=
 (∃ kvs k, H a = some (.dK kvs) ∧ y = kV k ∧ kvs.length < sizeLine ∧ H' = upd H a (.dK (putK kvs k v))) ∨
 ∃ kvs k b, H a = some (.dT kvs) ∧ y = .ref b ∧ H b = some (.tup (k.map kV)) ∧ kvs.length < sizeLine ∧ H' = upd H a (.dT (putK kvs k v))
theorem DGet.k {H : Hp} {a : Addr} {kvs : List (Key × V)} {k : Key} (e : H a = some (.dK kvs)) : DGet H a (kV k) (valV kvs k) := .inl ⟨kvs, k, .inl e, rfl, rfl⟩
theorem DGet.t {H : Hp} {a b : Addr} {kvs : List (List Key × V)} {k : List Key} (e : H a = some (.dT kvs)) (eb : H b = some (.tup (k.map kV))) : DGet H a (.ref b) (valV kvs k) := .inr ⟨kvs, k, b, .inl e, rfl, eb, rfl⟩
theorem DPut.k {H : Hp} {a : Addr} {kvs : List (Key × V)} {k : Key} {v : V} (e : H a = some (.dK kvs)) (hl : kvs.length < sizeLine) : DPut H a (kV k) v (upd H a (.dK (putK kvs k v))) := .inl ⟨kvs, k, e, rfl, hl, rfl⟩
theorem DPut.t {H : Hp} {a b : Addr} {kvs : List (List Key × V)} {k : List Key} {v : V} (e : H a = some (.dT kvs)) (eb : H b = some (.tup (k.map kV))) (hl : kvs.length < sizeLine) :
  DPut H a (.ref b) v (upd H a (.dT (putK kvs k v))) := .inr ⟨kvs, k, b, e, rfl, eb, hl, rfl⟩
section
variable {X : Cx} {pins : List (Addr × Obj)} {σ : St} {H : Hp} {s : Shared} {a : Addr} {y v : V} {u r : Value} {o : Option V} {A : Around} {E : Value → Shared → Prop}
theorem d_getItem {Q : Value → Shared → Prop} (hu : A.units + 1 < cLine) (I : Inv X pins σ H s) (g : DGet H a y (some v)) (ry : RelV y u) (h : ∀ w' s', Inv X pins σ H s' → RelV v w' → Q w' s') :
  wpAny (model X.prog X.w) A (getItem (.ref a) u) Q E s := by
 rcases g with ⟨kvs, k, e, ey, l⟩ | ⟨kvs, k, b, e, ey, eb, l⟩
 ·subst ey
  obtain ⟨z, hd, vs, rel, dd⟩ := dk_rd I.hok e
  obtain ⟨w', hw, rw'⟩ := RelO.some_of (v := v) (o := valueAt vs k) (by rw [l]; exact rel.val k)
  exact wpAny_getItem_of (kV_is ry) dd.mapOf hw (h w' _ (I.tok _) rw')
 ·subst ey
  cases (show u = Value.ref b from ry)
  obtain ⟨z, hd, xs, rel, dd⟩ := dt_rd I.hok e
  obtain ⟨w', hw, rw'⟩ := RelO.some_of (v := v) (o := (atKey xs k).map (·.2)) (by rw [l]; exact rel.val k)
  obtain ⟨p, hp, hp2⟩ := Option.map_eq_some_iff.mp hw
  refine wpAny_getItem_heap (tupleKind_room_in1 hu) (key_of I.hok eb) dd hp ?_
  rw [hp2]
  exact h w' _ (I.tok _) rw'
theorem d_notIn {Q : Value → Shared → Prop} (hu : A.units + 1 < cLine) (I : Inv X pins σ H s) (g : DGet H a y o) (ry : RelV y u) (h : ∀ s', Inv X pins σ H s' → Q (.bool (!o.isSome)) s') :
  wpAny (model X.prog X.w) A (compareOp .NotIn u (.ref a)) Q E s := by
 rcases g with ⟨kvs, k, e, ey, l⟩ | ⟨kvs, k, b, e, ey, eb, l⟩
 ·subst ey
  obtain ⟨z, hd, vs, rel, dd⟩ := dk_rd I.hok e
  refine wpAny_notIn_of (kV_is ry) hd dd.mapOf ?_
  rw [← (rel.val k).isSome_eq, ← l]
  exact h _ (I.tok _)
 ·subst ey
  cases (show u = Value.ref b from ry)
  obtain ⟨z, hd, xs, rel, dd⟩ := dt_rd I.hok e
  refine wpAny_notIn_heap (tupleKind_room_in1 hu) (key_of I.hok eb) hd dd ?_
  have q := (rel.val k).isSome_eq
  rw [Option.isSome_map] at q
  rw [← q, ← l]
  exact h _ (I.tok _)
theorem d_write {h' : Heap} {t' : Nat} {ob : HO} (I : Inv X pins σ H s) (mu : Mut (H a)) (hs : Heap.SameBut a s.heap h') (he : ∃ q, h'.get? a = some q) (new : ObjOk X.prog X.w (upd H a ob) h' a ob) :
  Inv X pins σ (upd H a ob) { s with heap := h', toks := t' } :=
 I.write (x := a) (e := a) mu (.inl rfl) (fun b q hb z => (hs.2 b hb).trans z) he new
theorem dk_new {P : Program} {w : World} {H' : Hp} {h' : Heap} {kvs : List (Key × V)} {vs : List (Key × Value)} (z : kvs.length ≤ sizeLine) (hd : (a == sysModules) = false) (rel : KV kvs vs) (dd : h'.DictOf (mixKind P w) a vs) :
  ObjOk P w H' h' a (.dK kvs) := ⟨z, hd, vs, rel, dd⟩
theorem d_setItem {H' : Hp} {Q : Unit → Shared → Prop} (hu : A.units + 1 < cLine) (I : Inv X pins σ H s) (g : DPut H a y v H') (ry : RelV y u) (rv : RelV v r) (h : ∀ s', Inv X pins σ H' s' → Q () s') :
  wpAny (model X.prog X.w) A (setItem (.ref a) u r) Q E s := by
 rcases g with ⟨kvs, k, e, ey, l, eH⟩ | ⟨kvs, k, b, e, ey, eb, l, eH⟩
 ·subst ey eH
  obtain ⟨z, hd, vs, rel, dd⟩ := dk_of I.hok e
  have hz : vs.length ≤ sizeLine := by rw [← rel.length]; exact z
  have hl : (putK kvs k v).length ≤ sizeLine := by have := length_putK kvs k v; omega
  refine wpAny_setItem_pairs (hsz := hz) (kV_is ry) dd fun h' dd' hs => h _ ?_
  have he : ∃ q, h'.get? a = some q := let ⟨q, _, _, hq, _⟩ := dd'; ⟨q, hq⟩
  exact d_write I (by rw [e]; exact True.intro) hs he (dk_new hl hd (rel.put k rv) dd')
 ·subst ey eH
  cases (show u = Value.ref b from ry)
  obtain ⟨z, hd, xs, rel, dd⟩ := dt_of I.hok e
  have hz : xs.length ≤ sizeLine := by rw [← Paired.length rel]; exact z
  have hl : (putK kvs k v).length ≤ sizeLine := by have := length_putK kvs k v; omega
  refine wpAny_setItem_heap (hsz := hz) (tupleKind_room_in1 hu) (key_of I.hok eb) dd fun h' dd' hs => h _ ?_
  obtain ⟨q, es, ep, hq, h2, h3, h4, _, h5⟩ := dd'
  refine d_write I (by rw [e]; exact True.intro) hs ⟨q, hq⟩ ⟨hl, hd, _, (rel.put k eb rv).keeps fun c ys ec => ?_, q, es, ep, hq, h2, h3, h4, h5⟩
  rw [upd_ne (ne_of ec e (fun z => nomatch z))]
  exact ec
end
section
variable {X : Cx} {pins : List (Addr × Obj)} {σ : St} {H : Hp} {s : Shared} {a : Addr} {kvs : List (Key × V)} {k : Key} {u : Value} {A : Around} {E : Value → Shared → Prop}
theorem d_delItem {Q : Unit → Shared → Prop} (I : Inv X pins σ H s) (e : H a = some (.dK kvs)) (ry : RelV (kV k) u) (l : (valV kvs k).isSome = true) (h : ∀ s', Inv X pins σ (upd H a (.dK (dropKv kvs k))) s' → Q () s') :
  wpAny (model X.prog X.w) A (delItem (.ref a) u) Q E s := by
 obtain ⟨z, hd, vs, rel, dd⟩ := dk_of I.hok e
 refine wpAny_delItem_slot dd.typeIs (by decide) PySem.F.slot_dict_delitem
  (call_meetsIn PySem.F.slot_dict_delitem dd.typeIs PySem.F.entry_dict_delitem (PySem.F.args_dict_delitem_2 _ _) (meets_dict_delitem_pairs (mixKind X.prog X.w) a (kV_is ry)) ⟨vs, dd, by rw [← rel.length]; exact z, by rw [← (rel.val k).isSome_eq]; exact l, fun h' dd' hs => h _ ?_⟩)
 have he : ∃ q, h'.get? a = some q := let ⟨q, _, _, hq, _⟩ := dd'; ⟨q, hq⟩
 exact d_write I (by rw [e]; exact True.intro) hs he (dk_new (Nat.le_trans (dropK_le kvs k) z) hd (rel.drop k) dd')
end
def NoSl (i : Expr) : Prop := ∀ ov iv, subscripted i false ov iv = operate [ov, iv] (getItem ov iv)
theorem subD_of {prog : Program} {w : World} {A : Around} {E : Value → Shared → Prop} {s : Shared} {env : Env} {value slice : Expr} {pos : Pos} {T id : String} {Q : Value → Shared → Prop}
  (hl : typeLookup (.type T) "__getitem__" = pure (some (.builtin id))) (hs : NoSl slice)
  (h : wpAny (model prog w) A (eval value env) (fun o s₁ => wpAny (model prog w) A (eval slice env) (fun i s₂ => s₂.TypeIs o T ∧ wpAny (model prog w) A (getItem o i) Q E s₂) E s₁) E s) :
  wpAny (model prog w) A (eval (.Subscript value slice pos) env) Q E s := by
 refine Subscript_ (wpAny_mono h (fun o s₁ h₁ => wpAny_mono h₁ (fun i s₂ h₂ => ?_) fun _ _ x => x) fun _ _ x => x)
 obtain ⟨hT, h₂⟩ := h₂
 unfold subscriptTail
 refine wpAny_bind ?_
 rw [getitemInPython_of_ne hT.not_modules]
 refine wpAny_bind (wpAny_specialOf hT hl ?_)
 have fin : wpAny (model prog w) A (subscripted slice false o i) (fun r s₃ => wpAny (model prog w) A (letTemporaryGo value o r >>= fun _ => pure r) Q E s₃) E s₂ := by
  rw [hs o i]
  exact wpAny_operating (wpAny_mono h₂ (fun r s₃ h₃ => wpAny_bind (wpAny_letTemporaryGo (wpAny_pure h₃))) fun _ _ x => x)
 first
  | exact wpAny_pure (wpAny_bind fin)
  | exact wpAny_bind (wpAny_pure (wpAny_bind fin))
  | exact wpAny_bind fin
theorem dict_typeIs {X : Cx} {pins : List (Addr × Obj)} {σ : St} {H : Hp} {s : Shared} {a : Addr} {y : V} {o : Option V} (I : Inv X pins σ H s) (g : DGet H a y o) : s.TypeIs (.ref a) "dict" := by
 rcases g with ⟨kvs, k, e, _, _⟩ | ⟨kvs, k, b, e, _, _, _⟩
 ·obtain ⟨_, _, vs, _, dd⟩ := dk_rd I.hok e
  exact dd.typeIs
 ·obtain ⟨_, _, xs, _, dd⟩ := dt_rd I.hok e
  exact dd.typeIs
def tDGet (td ty : TE) : TE := fun σ H Q => td σ H fun x H1 => ty σ H1 fun y H2 => ∃ a v, x = .ref a ∧ DGet H2 a y (some v) ∧ Q v H2
def sDPut (td ty tv : TE) : TS := fun D σ H => tv σ H fun v H1 => td σ H1 fun x H2 => ty σ H2 fun y H3 => ∃ a H4, x = .ref a ∧ DPut H3 a y v H4 ∧ D.nx σ H4
def sDDel (td ty : TE) : TS := fun D σ H => td σ H fun x H1 => ty σ H1 fun y H2 => ∃ a kvs k, x = .ref a ∧ H2 a = some (.dK kvs) ∧ y = kV k ∧ (valV kvs k).isSome = true ∧ D.nx σ (upd H2 a (.dK (dropKv kvs k)))
section
variable {X : Cx} {o i e value : Expr} {pos pos' tpos : Pos} {td ty tv : TE}
theorem pe_dget (hu : X.A.units + 1 < cLine) (ho : PE X o td) (hi : PE X i ty) (hs : NoSl i) : PE X (.Subscript o i pos) (tDGet td ty) := by
 refine .mk ?_
 intro pins s σ H Q I h
 refine subD_of PySem.F.slot_dict_getitem.lookup hs (thn (ho pins s σ H _ I h) fun u s1 ⟨x, H1, I1, rx, q1⟩ => thn (hi pins s1 σ H1 _ I1 q1) fun iv s2 ⟨y, H2, I2, ry, a, v, ex, g, q2⟩ => ?_)
 subst ex
 obtain rfl : u = Value.ref a := rx
 exact ⟨dict_typeIs I2 g, d_getItem hu I2 g ry fun w' s3 I3 rw' => ⟨v, H2, I3, rw', q2⟩⟩
theorem ps_dput (hu : X.A.units + 1 < cLine) (ho : PE X o td) (hi : PE X i ty) (hv : PE X value tv) (hs : swapsWith value (some (.Subscript o i pos')) pos.line X.env = pure false) :
  PS X (.Assign [.Subscript o i pos'] value pos) (sDPut td ty tv) := by
 refine .mk ?_
 intro pins s σ H D I h
 refine wpAny_Assign_Subscript (thn (hv pins s σ H _ I h) fun r s1 ⟨v, H1, I1, rv, q1⟩ => thn (ho pins s1 σ H1 _ I1 q1) fun u s2 ⟨x, H2, I2, rx, q2⟩ => thn (hi pins s2 σ H2 _ I2 q2) fun iv s3 ⟨y, H3, I3, ry, a, H4, ex, g, q3⟩ => ?_) hs
 subst ex
 obtain rfl : u = Value.ref a := rx
 exact d_setItem hu I3 g ry rv fun s4 I4 => ⟨σ, H4, I4, q3⟩
theorem ps_ddel (ho : PE X o td) (hi : PE X i ty) : PS X (.Delete [.Subscript o i tpos] pos) (sDDel td ty) := by
 refine .mk ?_
 intro pins s σ H D I h
 refine wpAny_Delete (wpAny_deleteEach_cons (wpAny_delete_Subscript (thn (ho pins s σ H _ I h) fun u s1 ⟨x, H1, I1, rx, q1⟩ => thn (hi pins s1 σ H1 _ I1 q1) fun iv s2 ⟨y, H2, I2, ry, a, kvs, k, ex, e, ey, l, q2⟩ => ?_)))
 subst ex ey
 obtain rfl : u = Value.ref a := rx
 exact d_delItem I2 e ry l fun s3 I3 => wpAny_deleteEach_nil ⟨σ, _, I3, q2⟩
end
section
variable {X : Cx} {pos : Pos}
end
section
variable {X : Cx} {pins : List (Addr × Obj)} {σ : St} {H : Hp} {s : Shared} {a : Addr} {y d : V} {u r : Value} {o : Option V} {A : Around} {E : Value → Shared → Prop}
end
section
variable {X : Cx} {o e f : Expr} {apos cpos : Pos} {td ty tx : TE}
end
section
variable {X : Cx} {pins : List (Addr × Obj)} {σ : St} {H : Hp} {s : Shared} {a : Addr} {kvs : List (Key × V)} {A : Around} {E : Value → Shared → Prop}
end
section
variable {X : Cx} {pins : List (Addr × Obj)} {σ : St} {H : Hp} {s : Shared} {a : Addr} {y : V} {u : Value} {A : Around} {E : Value → Shared → Prop}
end
end L2
namespace Att
open PySem PySem.W PySem.Calls PyProof.Rows
section
variable {prog : Program} {w : World} {A : Around} {E : Value → Shared → Prop} {s : Shared} {K : Frag}
end
end Att
namespace L2
open PySem PySem.Spec PyProof.Rows
end L2
namespace L2
open PySem PySem.Spec PyProof.Rows
end L2
namespace L2
open PySem PySem.Spec PyProof.Rows
section
variable {P : Program} {w : World} {K : PySem.W.Frag} {mg : Str → Option Value} {base : Heap}
end
section
variable {X : Cx}
end
section
variable {κ : Type} [DecidableEq κ]
end
end L2
set_option Elab.async false
set_option linter.all false
set_option maxRecDepth 100000
namespace L2
open PySem PySem.Spec PyProof.Rows
section
variable {X : Cx} {C : Addr} {m : Str} {k j : Nat} {ps : List Str} {sp : Sp} {o e : Expr} {es : List Expr} {ta : TE} {t : TA} {apos pos : Pos} {W : St → XK}
def tMethW (C : Addr) (m : Str) (sp : Sp) (W : St → XK) (ta : TE) (t : TA) : TE := fun σ H Q => ta σ H fun x H1 => ∃ a dx fs, x = .ref a ∧ H1 a = some (.ins C dx fs) ∧ fs.lookup m = none ∧ t σ H1 fun vs H2 => sp (.ref a :: vs) H2 Q (W σ)
theorem pe_methW {pl : Sem Bool} (c : CalleeMX X.prog X.w X.K X.mg X.base C m k ps sp) (hr : Room j X.A) (hk : k ≤ j) (hx : PassesW X W) (he : PE X o ta) (ha : PA X (e :: es) t)
  (hst : starEach (e :: es) X.env = (false, eval e X.env) :: starEach es X.env := by rfl) (hpl : (backTo pos (starEach es X.env)).any (·.1) = false := by rfl)
  (ht : eval (.Call (.Attribute o m apos) (e :: es) [] pos) X.env = (do
   let ov ← eval o X.env
   standAt apos.atName
   let (f, first) ← holding [ov] (getMethod ov m pl)
   callWith pos f first (backTo pos (starEach (e :: es) X.env)) (backToKw pos (keywordEach [] X.env))) := by rfl) :
  PE X (.Call (.Attribute o m apos) (e :: es) [] pos) (tMethW C m sp W ta t) := by
 refine .mk ?_
 obtain ⟨f, fd, F, c, hm, b⟩ := c
 intro pins s σ H Q I h
 refine PySem.W.methodCall_KW (pl := pl) (thn (he pins s σ H _ I h) fun u s1 ⟨x, H1, I1, rx, a, dx, fs, ex, ea, l, q⟩ => ?_) ht
 subst ex
 obtain rfl : u = Value.ref a := rx
 refine getmeth_ok I1 ea c hm l ?_
 refine PySem.W.callWith_K (first := [.ref a]) (h₀ := X.base) I.ok.mod.kin hm.kp (thn (ha pos pins s1 σ H1 _ I1 q) fun us s2 ⟨vs, H2, I2, r, q2⟩ => ⟨I2.kIn, ?_⟩) hst hpl
 have r2 : Vals (V.ref a :: vs) (Value.ref a :: us) := .cons rfl r
 have hl : (Value.ref a :: us).length = ps.length := by rw [← r2.length]; exact F.len _ _ _ _ q2
 have hb := b s2 (Value.ref a :: us) I2.kIn (by rw [List.append_nil]; exact hl)
 rw [List.append_nil] at hb
 refine wpAny_call (codeAny_mono (F.run X.A X.stack s2 H2 ⟨Value.ref a :: us, []⟩ (Value.ref a :: us) (V.ref a :: vs) Q (W σ) (hr.mono hk) I2.env0 hb r2 q2) fun r' s' hq => ?_)
 cases r' with
 | error e => exact hx pins σ H2 s2 e s' I2 hq
 | ok fl =>
  cases fl with
  | ret u => exact I2.after hq
  | next => exact False.elim hq
  | brk => exact False.elim hq
  | cont => exact False.elim hq
theorem op_dNin (hu : X.A.units + 1 < cLine) : OpR X (compareOp .NotIn) (fun y x H Q => ∃ a o, x = .ref a ∧ DGet H a y o ∧ Q (.bl (!o.isSome)) H) := by
 intro pins s σ H y x u v Q I ry rx h
 obtain ⟨a, o, rfl, g, q⟩ := h
 cases rx
 exact d_notIn hu I g ry fun s3 I3 => ⟨.bl (!o.isSome), H, I3, rfl, q⟩
def sSetSl (tv to : TE) (tl th : TO) : TS := fun D σ H => tv σ H fun v H1 => to σ H1 fun x H2 => tl σ H2 fun lo H3 => th σ H3 fun hi H4 => ∃ l b xs ys a c, x = .ref l ∧ v = .ref b ∧ lo = some a ∧ hi = some c ∧ H4 l = some (.lst xs) ∧ H4 b = some (.lst ys) ∧ l ≠ b ∧ 0 ≤ a ∧ a ≤ c ∧ c ≤ (xs.length : Int) ∧ xs.length + ys.length ≤ sizeLine ∧ D.nx σ (upd H4 l (.lst (xs.take a.toNat ++ ys ++ xs.drop c.toNat)))
theorem ps_setSl {value : Expr} {lo hi : Option Expr} {tv to : TE} {tl th : TO} {p2 pos' : Pos} (hv : PE X value tv) (ho : PE X o to) (hl : PO X lo tl) (hh : PO X hi th) (hs : swapsWith value (some (.Subscript o (.Slice lo hi none p2) pos')) pos.line X.env = pure false := by rfl) : PS X (.Assign [.Subscript o (.Slice lo hi none p2) pos'] value pos) (sSetSl tv to tl th) := by
 refine .mk ?_
 intro pins s σ H D I h
 refine wpAny_Assign_Subscript (thn (hv pins s σ H _ I h) fun r s1 ⟨v, H1, I1, rv, q1⟩ => thn (ho pins s1 σ H1 _ I1 q1) fun u s2 ⟨x, H2, I2, rx, q2⟩ => ?_) hs
 refine wpAny_Slice (thn (hl pins s2 σ H2 _ I2 q2) fun vl s3 ⟨l0, H3, I3, pl, q3⟩ => thn (hh pins s3 σ H3 _ I3 q3) fun vu s4 ⟨u0, H4, I4, pu, q4⟩ => ?_)
 rw [evalPart_none]
 refine wpAny_pure ?_
 obtain ⟨l, b, xs, ys, a, c, rfl, rfl, rfl, rfl, hH, hB, hne, h0, hac, hc, hz, q⟩ := q4
 cases rx
 cases rv
 have I5 : Inv X pins σ H4 { s4 with heap := s4.heap.push { cls := .type "slice", data := .fields #[vl, vu, .none] } } := I4.kept (t' := s4.toks) fun b ob q => Heap.get?_push_of_some _ q
 cases pl with
 | int _ tl' =>
  cases pu with
  | int _ tu' => exact set_slice I5 hH hB hne (Heap.IsSliceOf.new ..) ⟨_, rfl⟩ ⟨_, rfl⟩ h0 hac hc hz fun s' I' => ⟨σ, _, I', q⟩
theorem ins_meets (l : Addr) (items : Array Value) (n : Nat) (x : Int) (u : Tok) (y : Value) (hc0 : ¬(!Builtin.List.listFitsIndex x) = true) (hs1 : items.size ≤ sizeLine) :
  Meets (Builtin.«list.insert» ⟨[.ref l, .int x u, y], []⟩) (fun _ R s => s.heap.get? l = some { cls := .type "list", data := .seq items n } ∧ R (.ok (.ret Value.none)) { s with heap := s.heap.update l (Obj.mapSeq fun xs => (xs.extract 0 (if x < 0 then (x + (xs.size : Int)).toNat else min x.toNat xs.size)).push y ++ xs.extract (if x < 0 then (x + (xs.size : Int)).toNat else min x.toNat xs.size)), toks := s.toks }) := AutoSeq1.list_insert_list_int_val_1 l items n x u y hc0 hs1
theorem fit_small {i : Int} (h0 : 0 ≤ i) (h : i < 16777216) : Builtin.List.listFitsIndex i = true := fitsIndex_both (by omega) (by omega)
theorem ins_at {i : Int} {n : Nat} (h0 : 0 ≤ i) (h : i ≤ n) : (if i < 0 then (i + (n : Int)).toNat else min i.toNat n) = i.toNat := by
 rw [if_neg (by omega)]
 omega
def rInsert : V → List V → Hp → VK → Prop := fun x vs H Q => ∃ l xs i y, x = .ref l ∧ vs = [.int i, y] ∧ H l = some (.lst xs) ∧ 0 ≤ i ∧ i ≤ xs.length ∧ xs.length < sizeLine ∧ Q .non (upd H l (.lst (xs.take i.toNat ++ [y] ++ xs.drop i.toNat)))
theorem mt_insert : MtM X "list.insert" rInsert := by
 intro pins s σ H x vs v us Q I rx rv h
 obtain ⟨l, xs, i, y, rfl, rfl, hH, hi0, hi, hz, q⟩ := h
 cases rx
 obtain ⟨u1, u2, rfl, ru, ru2⟩ := rv.two
 obtain ⟨t, rfl⟩ := ru
 obtain ⟨z, its, n, r, hl, e⟩ := I.lstM hH
 have hz' : xs.length < 16777216 := by rw [sizeLine_eq] at hz; exact hz
 have hfit : Builtin.List.listFitsIndex i = true := fit_small hi0 (by omega)
 have hno : ¬ (!Builtin.List.listFitsIndex i) = true := by rw [hfit]; exact Bool.false_ne_true
 have hsz : its.toArray.size ≤ sizeLine := by rw [List.size_toArray, ← hl]; exact Nat.le_of_lt hz
 have M := ins_meets l its.toArray n i t u2 hno hsz
 refine call_meets F.slot_list_insert ⟨_, e, rfl⟩ F.entry_list_insert (F.args_list_insert_3 _ _ _) M ⟨e, ?_⟩
 refine ⟨.non, _, I.lset (its' := its.take i.toNat ++ [u2] ++ its.drop i.toNat) hH e ?_ ((Vals.append (r.take i.toNat) (.cons ru2 .nil)).append (r.drop i.toNat)) ?_, rfl, q⟩
 ·show ((its.toArray.extract 0 (if i < 0 then (i + (its.toArray.size : Int)).toNat else min i.toNat its.toArray.size)).push u2 ++ its.toArray.extract (if i < 0 then (i + (its.toArray.size : Int)).toNat else min i.toNat its.toArray.size)) = _
  rw [ins_at hi0 (by rw [List.size_toArray, ← hl]; exact hi)]
  apply Array.toList_inj.mp
  simp
  exact List.take_of_length_le (by rw [List.length_drop]; omega)
 ·rw [List.length_append, List.length_append, List.length_take, List.length_drop, List.length_singleton]
  omega
end
end L2
namespace L3
open PySem PySem.Spec L2
open PyProof.Rows hiding St
def kT : Key → T
 | .inl i => .int i
 | .inr z => .str z
theorem i_key {H : Hp} {v : V} {k : Key} (h : R H v (kT k)) : v = kV k := by
 cases k with
 | inl i => exact i_int h
 | inr z => exact i_str h
def valT (kvs : List (Key × T)) (k : Key) : Option T := (kvs.find? fun kv => decide (kv.1 = k)).map (·.2)
def putKT (kvs : List (Key × T)) (k : Key) (v : T) : List (Key × T) :=
 if (kvs.any fun kv => decide (kv.1 = k)) = true then kvs.map (fun kv => if kv.1 = k then (kv.1, v) else kv) else kvs ++ [(k, v)]
def dropKT (kvs : List (Key × T)) (k : Key) : List (Key × T) := kvs.filter fun kv => decide (kv.1 ≠ k)
section
variable {H : Hp}
theorem Ks.len : ∀ {us : List (Key × V)} {kvs : List (Key × T)}, Ks H us kvs → us.length = kvs.length
 | _, _, .nil => rfl
 | _, _, .cons a b => by rw [List.length_cons, List.length_cons, Ks.len b]
theorem Ks.val : ∀ {us : List (Key × V)} {kvs : List (Key × T)} (k : Key), Ks H us kvs → (valV us k = none ∧ valT kvs k = none) ∨ ∃ v t, valV us k = some v ∧ valT kvs k = some t ∧ R H v t
 | _, _, k, .nil => .inl ⟨rfl, rfl⟩
 | (k1, v) :: us, (k2, t) :: kvs, k, .cons a b => by
  obtain ⟨e, r⟩ := a
  have e : k1 = k2 := e
  subst e
  by_cases h : k1 = k
  ·exact .inr ⟨v, t, valV_pos h, by simp [valT, List.find?_cons, h], r⟩
  ·rcases Ks.val k b with ⟨x, y⟩ | ⟨v', t', x, y, r'⟩
   ·exact .inl ⟨by rw [valV_neg h]; exact x, by rw [show valT ((k1, t) :: kvs) k = valT kvs k by simp [valT, List.find?_cons, h]]; exact y⟩
   ·exact .inr ⟨v', t', by rw [valV_neg h]; exact x, by rw [show valT ((k1, t) :: kvs) k = valT kvs k by simp [valT, List.find?_cons, h]]; exact y, r'⟩
theorem Ks.any : ∀ {us : List (Key × V)} {kvs : List (Key × T)} (k : Key), Ks H us kvs → (us.any fun kv => decide (kv.1 = k)) = (kvs.any fun kv => decide (kv.1 = k))
 | _, _, k, .nil => rfl
 | (k1, v) :: us, (k2, t) :: kvs, k, .cons a b => by
  obtain ⟨e, r⟩ := a
  have e : k1 = k2 := e
  subst e
  rw [List.any_cons, List.any_cons, Ks.any k b]
theorem Ks.map : ∀ {us : List (Key × V)} {kvs : List (Key × T)} {v : V} {t : T} (k : Key), R H v t → Ks H us kvs → Ks H (us.map fun kv => if kv.1 = k then (kv.1, v) else kv) (kvs.map fun kv => if kv.1 = k then (kv.1, t) else kv)
 | _, _, v, t, k, r, .nil => .nil
 | (k1, v1) :: us, (k2, t1) :: kvs, v, t, k, r, .cons a b => by
  obtain ⟨e, r1⟩ := a
  have e : k1 = k2 := e
  subst e
  rw [List.map_cons, List.map_cons]
  by_cases h : k1 = k
  ·rw [if_pos h, if_pos h]; exact .cons ⟨rfl, r⟩ (Ks.map k r b)
  ·rw [if_neg h, if_neg h]; exact .cons ⟨rfl, r1⟩ (Ks.map k r b)
theorem Ks.snoc : ∀ {us : List (Key × V)} {kvs : List (Key × T)} {v : V} {t : T} (k : Key), R H v t → Ks H us kvs → Ks H (us ++ [(k, v)]) (kvs ++ [(k, t)])
 | _, _, v, t, k, r, .nil => .cons ⟨rfl, r⟩ .nil
 | _ :: _, _ :: _, v, t, k, r, .cons a b => .cons a (Ks.snoc k r b)
theorem Ks.put {us : List (Key × V)} {kvs : List (Key × T)} {v : V} {t : T} (k : Key) (r : R H v t) (h : Ks H us kvs) : Ks H (putK us k v) (putKT kvs k t) := by
 unfold putK putKT
 rw [h.any k]
 split
 ·exact h.map k r
 ·exact h.snoc k r
theorem Ks.drop : ∀ {us : List (Key × V)} {kvs : List (Key × T)} (k : Key), Ks H us kvs → Ks H (dropKv us k) (dropKT kvs k)
 | _, _, k, .nil => .nil
 | (k1, v1) :: us, (k2, t1) :: kvs, k, .cons a b => by
  obtain ⟨e, r1⟩ := a
  have e : k1 = k2 := e
  subst e
  unfold dropKv dropKT
  rw [List.filter_cons, List.filter_cons]
  by_cases h : k1 = k
  ·rw [if_neg (by simpa using h), if_neg (by simpa using h)]; exact Ks.drop k b
  ·rw [if_pos (by simpa using h), if_pos (by simpa using h)]; exact .cons ⟨rfl, r1⟩ (Ks.drop k b)
end
section
variable {X : Cx} {E : St → XK} {C : Addr}
def eMethX (C : Addr) (m : Str) (sp : Sp3) (to : E3) (t : A3) : E3 := fun Y τ Γ Z => to Y τ Γ fun x Γ1 => ∃ a dx fs, x = .ref a ∧ Γ1 a = some (.ins C dx fs) ∧ fs.lookup m = none ∧ t Y τ Γ1 fun xs Γ2 => sp (.ref a :: xs) Γ2 Z (Y τ)
theorem qe_methX {m : Str} {k j : Nat} {ps : List Str} {sp : Sp3} {o e : Expr} {es : List Expr} {to : E3} {t : A3} {apos pos : Pos} {pl : Sem Bool} (c : ClMx X.prog X.w X.K X.mg X.base C m k ps sp) (hr : Room j X.A) (hk : k ≤ j) (hx : PassesW X E) (he : PE X o (liE E to)) (ha : PA X (e :: es) (liA E t))
  (hst : starEach (e :: es) X.env = (false, eval e X.env) :: starEach es X.env := by rfl) (hpl : (backTo pos (starEach es X.env)).any (·.1) = false := by rfl)
  (ht : eval (.Call (.Attribute o m apos) (e :: es) [] pos) X.env = (do
   let ov ← eval o X.env
   standAt apos.atName
   let (f, first) ← holding [ov] (getMethod ov m pl)
   callWith pos f first (backTo pos (starEach (e :: es) X.env)) (backToKw pos (keywordEach [] X.env))) := by rfl) : PE X (.Call (.Attribute o m apos) (e :: es) [] pos) (liE E (eMethX C m sp to t)) := by
 refine weakE3 (pe_methW (pl := pl) c hr hk hx he ha hst hpl ht) fun σ H Q τ Γ Y Z rs hr t vr xr => ?_
 refine ⟨τ, Γ, Y, _, rs, hr, t, fun v x H1 Γ1 s1 h1 r1 z1 => ?_, xr⟩
 obtain ⟨a, dx, fs, rfl, g, l, z⟩ := z1
 obtain ⟨gs, hg, q⟩ := h1 a _ g
 refine ⟨a, dx, gs, i_ref r1, hg, q.non l, ?_⟩
 refine ⟨τ, Γ1, Y, _, rs.mono s1.tq, h1, z, fun vs xs H2 Γ2 s2 h2 r2 z2 => ?_, xr.mono s1⟩
 have s12 := s1.trans s2
 exact ⟨.ref a :: xs, Γ2, Z, Y τ, rs_cons r_ref r2, h2, z2, vr.mono s12, fun C H' Γ' s' h' y => xr σ τ C H' Γ' (s12.trans s') h' (rs.mono (s12.trans s').tq) y⟩
theorem oq_dNin (hu : X.A.units + 1 < cLine) : OpQ X (compareOp .NotIn) (fun y x Γ Z => ∃ a kvs k, x = .ref a ∧ y = kT k ∧ Γ a = some (.dK kvs) ∧ Z (.bl (!(valT kvs k).isSome)) Γ) :=
 ⟨_, op_dNin hu, fun y x v b H Γ Q Z ra rb hr q0 vr => by
  obtain ⟨a, kvs, k, ex, ey, g, z⟩ := q0
  subst ex ey
  obtain ⟨us, hu, q⟩ := hr a _ g
  rw [i_key ra]
  refine ⟨a, _, i_ref rb, DGet.k hu, ?_⟩
  have e : (valV us k).isSome = (valT kvs k).isSome := by
   rcases q.val k with ⟨x, y⟩ | ⟨v, t, x, y, _⟩ <;> rw [x, y] <;> rfl
  rw [e]
  exact vr _ _ H Γ .refl hr r_bl z⟩
def eDGet (td ty : E3) : E3 := fun Y τ Γ Z => td Y τ Γ fun x Γ1 => ty Y τ Γ1 fun y Γ2 => ∃ a kvs k v, x = .ref a ∧ y = kT k ∧ Γ2 a = some (.dK kvs) ∧ valT kvs k = some v ∧ Z v Γ2
theorem qe_dget {o i : Expr} {td ty : E3} {pos : Pos} (hu : X.A.units + 1 < cLine) (ho : PE X o (liE E td)) (hi : PE X i (liE E ty)) (hs : NoSl i := by exact fun _ _ => rfl) : PE X (.Subscript o i pos) (liE E (eDGet td ty)) :=
 weakE3 (pe_dget hu ho hi hs) fun σ H Q τ Γ Y Z rs hr t vr xr => by
  refine ⟨τ, Γ, Y, _, rs, hr, t, fun v x H1 Γ1 s1 h1 r1 z1 => ?_, xr⟩
  refine ⟨τ, Γ1, Y, _, rs.mono s1.tq, h1, z1, fun w y H2 Γ2 s2 h2 r2 z2 => ?_, xr.mono s1⟩
  obtain ⟨a, kvs, k, u, rfl, rfl, g, l, z⟩ := z2
  obtain ⟨us, hu, q⟩ := h2 a _ g
  rcases q.val k with ⟨_, y⟩ | ⟨v', t', x', y', r'⟩
  ·rw [l] at y; cases y
  rw [l] at y'; cases y'
  refine ⟨a, v', i_ref r1, ?_, vr v' u H2 Γ2 (s1.trans s2) h2 r' z⟩
  rw [i_key r2, ← x']
  exact DGet.k hu
def cDPut (td ty tv : E3) : C3 := fun Y D τ Γ => tv Y τ Γ fun v Γ1 => td Y τ Γ1 fun x Γ2 => ty Y τ Γ2 fun y Γ3 => ∃ a kvs k, x = .ref a ∧ y = kT k ∧ Γ3 a = some (.dK kvs) ∧ kvs.length < sizeLine ∧ D.nx τ (up Γ3 a (.dK (putKT kvs k v)))
theorem qs_dput {o i value : Expr} {td ty tv : E3} {pos pos' : Pos} (hu : X.A.units + 1 < cLine) (ho : PE X o (liE E td)) (hi : PE X i (liE E ty)) (hv : PE X value (liE E tv)) (hs : swapsWith value (some (.Subscript o i pos')) pos.line X.env = pure false := by rfl) : PS X (.Assign [.Subscript o i pos'] value pos) (liS E (cDPut td ty tv)) :=
 weakS3 (ps_dput hu ho hi hv hs) fun D σ H τ Γ Y Z rs hr t dr xr => by
  refine ⟨τ, Γ, Y, _, rs, hr, t, fun v v3 H1 Γ1 s1 h1 r1 z1 => ?_, xr⟩
  refine ⟨τ, Γ1, Y, _, rs.mono s1.tq, h1, z1, fun x x3 H2 Γ2 s2 h2 r2 z2 => ?_, xr.mono s1⟩
  refine ⟨τ, Γ2, Y, _, rs.mono (s1.trans s2).tq, h2, z2, fun y y3 H3 Γ3 s3 h3 r3 z3 => ?_, xr.mono (s1.trans s2)⟩
  obtain ⟨a, kvs, k, rfl, rfl, g, l, z⟩ := z3
  obtain ⟨us, hu, q⟩ := h3 a _ g
  have s13 := (s1.trans s2).trans s3
  have st : Stp H3 Γ3 (upd H3 a (.dK (putK us k v))) (up Γ3 a (.dK (putKT kvs k v3))) := Stp.set h3 g
  refine ⟨a, _, i_ref r2, by rw [i_key r3]; exact DPut.k hu (by rw [q.len]; exact l), ?_⟩
  have tq : Tq H3 (upd H3 a (.dK (putK us k v))) := tq_set hu ⟨fun _ z => (nomatch z), fun _ _ z => (nomatch z)⟩
  exact dr.nx _ _ _ _ (s13.trans st) (h3.set g ⟨_, upd_same, (q.put k (r1.mono (s2.trans s3).tq)).mono tq⟩) (rs.mono (s13.trans st).tq) z
def cDDel (td ty : E3) : C3 := fun Y D τ Γ => td Y τ Γ fun x Γ1 => ty Y τ Γ1 fun y Γ2 => ∃ a kvs k, x = .ref a ∧ y = kT k ∧ Γ2 a = some (.dK kvs) ∧ (valT kvs k).isSome = true ∧ D.nx τ (up Γ2 a (.dK (dropKT kvs k)))
theorem qs_ddel {o i : Expr} {td ty : E3} {pos tpos : Pos} (ho : PE X o (liE E td)) (hi : PE X i (liE E ty)) : PS X (.Delete [.Subscript o i tpos] pos) (liS E (cDDel td ty)) :=
 weakS3 (ps_ddel ho hi) fun D σ H τ Γ Y Z rs hr t dr xr => by
  refine ⟨τ, Γ, Y, _, rs, hr, t, fun x x3 H1 Γ1 s1 h1 r1 z1 => ?_, xr⟩
  refine ⟨τ, Γ1, Y, _, rs.mono s1.tq, h1, z1, fun y y3 H2 Γ2 s2 h2 r2 z2 => ?_, xr.mono s1⟩
  obtain ⟨a, kvs, k, rfl, rfl, g, l, z⟩ := z2
  obtain ⟨us, hu, q⟩ := h2 a _ g
  have e : (valV us k).isSome = (valT kvs k).isSome := by
   rcases q.val k with ⟨x, y⟩ | ⟨v, t, x, y, _⟩ <;> rw [x, y] <;> rfl
  have s12 := s1.trans s2
  have st : Stp H2 Γ2 (upd H2 a (.dK (dropKv us k))) (up Γ2 a (.dK (dropKT kvs k))) := Stp.set h2 g
  have tq : Tq H2 (upd H2 a (.dK (dropKv us k))) := tq_set hu ⟨fun _ z => (nomatch z), fun _ _ z => (nomatch z)⟩
  exact ⟨a, us, k, i_ref r1, hu, i_key r2, by rw [e]; exact l, dr.nx _ _ _ _ (s12.trans st) (h2.set g ⟨_, upd_same, (q.drop k).mono tq⟩) (rs.mono (s12.trans st).tq) z⟩
def cSetSl (tv to : E3) (tl th : O3) : C3 := fun Y D τ Γ => tv Y τ Γ fun v Γ1 => to Y τ Γ1 fun x Γ2 => tl Y τ Γ2 fun lo Γ3 => th Y τ Γ3 fun hi Γ4 => ∃ l b xs ys a c, x = .ref l ∧ v = .ref b ∧ lo = some a ∧ hi = some c ∧ Γ4 l = some (.lst xs) ∧ Γ4 b = some (.lst ys) ∧ l ≠ b ∧ 0 ≤ a ∧ a ≤ c ∧ c ≤ (xs.length : Int) ∧ xs.length + ys.length ≤ sizeLine ∧ D.nx τ (up Γ4 l (.lst (xs.take a.toNat ++ ys ++ xs.drop c.toNat)))
theorem qs_setSl {o value : Expr} {lo hi : Option Expr} {tv to : E3} {tl th : O3} {p2 pos pos' : Pos} (hv : PE X value (liE E tv)) (ho : PE X o (liE E to)) (hl : PO X lo (liO E tl)) (hh : PO X hi (liO E th)) (hs : swapsWith value (some (.Subscript o (.Slice lo hi none p2) pos')) pos.line X.env = pure false := by rfl) : PS X (.Assign [.Subscript o (.Slice lo hi none p2) pos'] value pos) (liS E (cSetSl tv to tl th)) :=
 weakS3 (ps_setSl hv ho hl hh hs) fun D σ H τ Γ Y Z rs hr t dr xr => by
  refine ⟨τ, Γ, Y, _, rs, hr, t, fun v v3 H1 Γ1 s1 h1 r1 z1 => ?_, xr⟩
  refine ⟨τ, Γ1, Y, _, rs.mono s1.tq, h1, z1, fun x x3 H2 Γ2 s2 h2 r2 z2 => ?_, xr.mono s1⟩
  have s12 := s1.trans s2
  refine ⟨τ, Γ2, Y, _, rs.mono s12.tq, h2, z2, fun lo H3 Γ3 s3 h3 z3 => ?_, xr.mono s12⟩
  have s13 := s12.trans s3
  refine ⟨τ, Γ3, Y, _, rs.mono s13.tq, h3, z3, fun hi H4 Γ4 s4 h4 z4 => ?_, xr.mono s13⟩
  have s14 := s13.trans s4
  obtain ⟨l, b, xs, ys, a, c, rfl, rfl, rfl, rfl, gl, gb, ne, a0, ac, cx, hz, z⟩ := z4
  obtain ⟨us, hu, q⟩ := h4 l _ gl
  obtain ⟨ws, hw, q'⟩ := h4 b _ gb
  have st : Stp H4 Γ4 (upd H4 l (.lst (us.take a.toNat ++ ws ++ us.drop c.toNat))) (up Γ4 l (.lst (xs.take a.toNat ++ ys ++ xs.drop c.toNat))) := Stp.set h4 gl
  have qe : Rs H4 (us.take a.toNat ++ ws ++ us.drop c.toNat) (xs.take a.toNat ++ ys ++ xs.drop c.toNat) := Rs.app (Rs.app (q.take _) q') (q.drop _)
  refine ⟨l, b, us, ws, a, c, i_ref r2, i_ref r1, rfl, rfl, hu, hw, ne, a0, ac, by rw [q.length]; exact cx, by rw [q.length, q'.length]; exact hz, ?_⟩
  exact dr.nx _ _ _ _ (s14.trans st) (h4.set gl ⟨_, upd_same, qe.mono st.tq⟩) (rs.mono (s14.trans st).tq) z
theorem cq_instXk {K : PySem.W.Frag} (hK : X.K = K) : CallQ X (.builtin "isinstance") (fun xs Γ Z => ∃ (x D : Addr) (t : T) (c : Value) (b : Bool), xs = [.ref x, t] ∧ clsT t = some c ∧ ExC K D ∧ Γ x = some (.ext (ExAt x D)) ∧ PySem.W.kitOne K (.ref D) c = some b ∧ Z (.bl b) Γ) := by
 subst hK
 exact cq_instX
theorem cq_instXTk {K : PySem.W.Frag} (hK : X.K = K) : CallQ X (.builtin "isinstance") (fun xs Γ Z => ∃ (x D : Addr) (ts : List T) (cs : List Value) (b : Bool), xs = [.ref x, .tup ts] ∧ clsTs ts = some cs ∧ ExC K D ∧ Γ x = some (.ext (ExAt x D)) ∧ PySem.W.kitAny K (.ref D) cs = some b ∧ Z (.bl b) Γ) := by
 subst hK
 exact cq_instXT
theorem mq_insert : MQ X "list.insert" (fun x ts Γ Z => ∃ a us i y, x = .ref a ∧ ts = [.int i, y] ∧ Γ a = some (.lst us) ∧ 0 ≤ i ∧ i ≤ us.length ∧ us.length < sizeLine ∧ Z .non (up Γ a (.lst (us.take i.toNat ++ [y] ++ us.drop i.toNat)))) :=
 ⟨_, mt_insert, fun v x vs ts H Γ Q Z r rs hr q0 vr => by
  obtain ⟨a, us, i, y, ex, et, g, hi0, hi, hz, z⟩ := q0
  subst ex et
  obtain ⟨w1, w2, rfl, r1, r2⟩ := rs2 rs
  obtain ⟨va, hva, qa⟩ := hr a _ g
  refine ⟨a, va, i, w2, i_ref r, by rw [i_int r1], hva, hi0, by rw [qa.length]; exact hi, by rw [qa.length]; exact hz, ?_⟩
  have s : Stp H Γ (upd H a (.lst (va.take i.toNat ++ [w2] ++ va.drop i.toNat))) (up Γ a (.lst (us.take i.toNat ++ [y] ++ us.drop i.toNat))) := .set hr g
  have qe : Rs H (va.take i.toNat ++ [w2] ++ va.drop i.toNat) (us.take i.toNat ++ [y] ++ us.drop i.toNat) := Rs.app (Rs.app (qa.take _) (rs_cons r2 rs_nil)) (qa.drop _)
  exact vr _ _ _ _ s (hr.set g ⟨_, upd_same, qe.mono s.tq⟩) r_non z⟩
end
end L3
set_option Elab.async false
set_option linter.all false
set_option maxRecDepth 100000
namespace Sr
open PySem PyProof.Rows
section
variable {prog : Program} {w : World} {A : Around} {E : Value → Shared → Prop} {s : Shared} {Kk : Type} [DecidableEq Kk] {knd : KeyKind prog w Kk}
end
end Sr
namespace L2
open PySem PyProof.Rows
section
variable {X : Cx}
end
end L2
namespace L3
open PySem PySem.Spec L2
theorem Ks.keys {H : Hp} : ∀ {us : List (Key × V)} {kvs : List (Key × T)}, Ks H us kvs → us.map (·.1) = kvs.map (·.1)
 | _, _, .nil => rfl
 | _, _, .cons a b => by rw [List.map_cons, List.map_cons, a.1, Ks.keys b]
section
variable {X : Cx} {E : St → XK}
end
end L3
set_option Elab.async false
set_option linter.all false
set_option maxRecDepth 100000
namespace L2
open PySem PySem.Spec PyProof.Rows PySem.W
section
variable {X : Cx} {body suite suite2 : List Stmt} {b₀ b₂ : Stmt} {y y2 : Str} {np hpos np2 hpos2 pos : Pos} {Cy Cz : Addr} {tb : (St → XK) → TS} {ts ts2 : TS}
def wTry2 (K : PySem.W.Frag) (Cy Cz : Addr) (ts ts2 : TS) (D : Ends) : St → XK := fun σ C _ H' => (exmOne K C (.ref Cy) = some true ∧ ts D σ H') ∨ (exmOne K C (.ref Cy) = some false ∧ exmOne K C (.ref Cz) = some true ∧ ts2 D σ H')
def tTry2 (K : PySem.W.Frag) (Cy Cz : Addr) (tb : (St → XK) → TS) (ts ts2 : TS) : TS := fun D σ H => tb (wTry2 K Cy Cz ts ts2 D) D σ H
theorem catch_2 {pins : List (Addr × Obj)} {D : Ends} (ok : X.Ok) (hst : X.stack = X.env :: X.outer) (hfr : X.env.frame = some X.env.locals) (hy : Gl X y) (hmy : X.mg y = some (.ref Cy)) (hy2 : Gl X y2) (hmy2 : X.mg y2 = some (.ref Cz))
  (hs : ∀ x, PSs (X.su x) (b₀ :: suite) ts) (hs2 : ∀ x, PSs (X.su x) (b₂ :: suite2) ts2) (hd : (y == ("__debug__" : Str)) = false) (hd2 : (y2 == ("__debug__" : Str)) = false) {σ1 : St} {H1 : Hp} {s1 : Shared} {e : Value} {s2 : Shared} (J1 : Inv X pins σ1 H1 s1) (hcx : CXe X.prog X.w X.stack H1 s1 (wTry2 X.K Cy Cz ts ts2 D σ1) e s2) :
  eTry X pins D [.ExceptHandler (some (.Name y np)) none (b₀ :: suite) hpos, .ExceptHandler (some (.Name y2 np2)) none (b₂ :: suite2) hpos2] e s2 := by
 obtain ⟨x, C, a0, H', B, rfl, os, bare, fl, hok, u, hw⟩ := hcx
 have hfrm : X.A.frames = some (X.env :: X.outer) := by rw [← hst]; exact ok.frames
 have fl' : Heap.FlyingW B (X.env :: X.outer) x C a0 s2.heap := by rw [← hst]; exact fl
 have data : ∀ b ∈ frs X.stack, ∀ o, s1.heap.get? b = some o → ∀ vs, o.data ≠ .fields vs := fun b hb o q => by
  obtain ⟨_, o', ho', hd'⟩ := J1.stack.mem hb
  rw [q] at ho'; cases ho'; exact hd'
 have mkI : ∀ h5 : Heap, B.StaysIn h5 → s2.heap.UpToSlots h5 → Inv X pins σ1 H' { s2 with heap := h5 } := fun h5 st up => by
  have u5 : UnB (frs X.stack) H1 H' s1.heap B h5 := ⟨u.keep, fun b o q n' hb => by
   obtain ⟨sl, z⟩ := u.slot b o q n' hb
   obtain ⟨sl2, z2⟩ := up b _ z (have dd := data b hb o q; fun vs => dd vs)
   exact ⟨sl2, z2⟩, u.free, u.there, u.tups, u.frzs, u.tbls⟩
  exact J1.call' (s' := { s2 with heap := h5 }) (ch := []) os (u5.un st J1.stkFree) (hok.kept st) bare (fun b hb => nomatch hb)
 have hxB : B.get? x = none := fl'.2.1
 have Hx : H' x = none := by
  cases q : H' x with
  | none => rfl
  | some o =>
   obtain ⟨z, hz⟩ := (hok x o q).got
   rw [hxB] at hz; cases hz
 refine wpAny_looks_onW hfrm hfr fl' fun h4 held4 up4 => ?_
 refine wpAny_landsW held4 fun h5 fl5 up5 => ?_
 have I5 := mkI h5 fl5.1 (up4.trans up5)
 obtain ⟨ob, hob, hoc⟩ := fl5.there
 have LT : Looks (model X.prog X.w) h5 (typeOf (.ref x)) C := by rw [← hoc]; exact (Looks.ld hob).andThen .now
 have hit : ∀ (y : Str) (np hpos : Pos) (Cy : Addr) (b₀ : Stmt) (suite : List Stmt) (ts : TS) (rest : List ExceptHandler), Gl X y → X.mg y = some (.ref Cy) → (∀ x, PSs (X.su x) (b₀ :: suite) ts) → (y == ("__debug__" : Str)) = false → exmOne X.K C (.ref Cy) = some true → ts D σ1 H' →
   wpAny (model X.prog X.w) X.A (handleBy (.ref x) X.env (.ExceptHandler (some (.Name y np)) none (b₀ :: suite) hpos :: rest)) (SP X pins D) X.xe { s2 with heap := h5 } := fun y np hpos Cy b₀ suite ts rest hy hmy hs hd hm hw => by
  refine wpAny_handleBy_cons (codeAny_handlers_test (ld_glob (X := X.su x) (I5.su x) hy hmy ?_ hd)) (by intro q; cases q)
  refine (exm_one I5.kIn LT hm).here ?_
  refine codeAny_handlers_suite ?_
  refine lands_againW fl5 fun h6 fl6 up6 => ?_
  have I6 := mkI h6 fl6.1 ((up4.trans up5).trans up6)
  refine wpAny_mono ((hs x).run pins { s2 with heap := h6 } _ _ _ (I6.su x) hw) (fun f s8 q => ?_) (fun _ _ z => z.elim)
  cases f with
  | next => obtain ⟨σ2, H2, I8, q⟩ := q; exact ⟨_, _, Inv.unsu ok I8, q⟩
  | brk => obtain ⟨σ2, H2, I8, q⟩ := q; exact ⟨_, _, Inv.unsu ok I8, q⟩
  | cont => obtain ⟨σ2, H2, I8, q⟩ := q; exact ⟨_, _, Inv.unsu ok I8, q⟩
  | ret v => obtain ⟨v', σ2, H2, I8, r, q⟩ := q; exact ⟨v', _, _, Inv.unsu ok I8, r, q⟩
 rcases hw with ⟨hm, hw⟩ | ⟨hm, hm2, hw⟩
 ·exact hit y np hpos Cy b₀ suite ts _ hy hmy hs hd hm hw
 ·refine wpAny_handleBy_cons (codeAny_handlers_test (ld_glob (X := X.su x) (I5.su x) hy hmy ?_ hd)) (by intro q; cases q)
  refine (exm_one I5.kIn LT hm).here ?_
  exact hit y2 np2 hpos2 Cz b₂ suite2 ts2 _ hy2 hmy2 hs2 hd2 hm2 hw
theorem ps_try2 (hst : X.stack = X.env :: X.outer) (hfr : X.env.frame = some X.env.locals) (hy : Gl X y) (hmy : X.mg y = some (.ref Cy)) (hy2 : Gl X y2) (hmy2 : X.mg y2 = some (.ref Cz))
  (hb : ∀ (E' : Value → Shared → Prop) (pn : List (Addr × Obj)) (W : St → XK), (∀ pins σ H s e s', Inv (X.tr E' pn) pins σ H s → CXe X.prog X.w X.stack H s (W σ) e s' → E' e s') → PSs (X.tr E' pn) body (tb W))
  (hs : ∀ x, PSs (X.su x) (b₀ :: suite) ts) (hs2 : ∀ x, PSs (X.su x) (b₂ :: suite2) ts2) (hd : (y == ("__debug__" : Str)) = false := by decide) (hd2 : (y2 == ("__debug__" : Str)) = false := by decide) :
  PS X (.Try body [.ExceptHandler (some (.Name y np)) none (b₀ :: suite) hpos, .ExceptHandler (some (.Name y2 np2)) none (b₂ :: suite2) hpos2] [] [] pos) (tTry2 X.K Cy Cz tb ts ts2) := by
 refine .mk ?_
 intro pins s σ H D I h
 have ok := I.ok
 refine wpAny_Try_except ?_
 have fin := (hb (eTry X pins D [.ExceptHandler (some (.Name y np)) none (b₀ :: suite) hpos, .ExceptHandler (some (.Name y2 np2)) none (b₂ :: suite2) hpos2]) (X.pn ++ pins) (wTry2 X.K Cy Cz ts ts2 D) (fun pins' σ1 H1 s1 e s2 J hcx => catch_2 ok hst hfr hy hmy hy2 hmy2 hs hs2 hd hd2 (Inv.untr ok J) hcx)).run [] s σ H D (I.tr _) h
 refine wpAny_mono fin (fun f s1 q => ?_) fun e s1 q => q
 cases f with
 | next =>
  obtain ⟨σ', H', I', q⟩ := q
  exact wpAny_execs_nil ⟨σ', H', Inv.untr ok I', q⟩
 | brk => obtain ⟨σ', H', I', q⟩ := q; exact ⟨σ', H', Inv.untr ok I', q⟩
 | cont => obtain ⟨σ', H', I', q⟩ := q; exact ⟨σ', H', Inv.untr ok I', q⟩
 | ret v => obtain ⟨v', σ', H', I', r, q⟩ := q; exact ⟨v', σ', H', Inv.untr ok I', r, q⟩
end
end L2
namespace L3
open PySem PySem.Spec L2
section
variable {X : Cx} {E : St → XK} {body suite suite2 : List Stmt} {b₀ b₂ : Stmt} {y y2 : Str} {np hpos np2 hpos2 pos : Pos} {Cy Cz : Addr} {tb ts ts2 : C3}
def cTry2 (K : PySem.W.Frag) (Cy Cz : Addr) (tb ts ts2 : C3) : C3 := fun _ D τ Γ => tb (fun τ' C Γ' => (PySem.W.exmOne K C (.ref Cy) = some true ∧ ts Y0 D τ' Γ') ∨ (PySem.W.exmOne K C (.ref Cy) = some false ∧ PySem.W.exmOne K C (.ref Cz) = some true ∧ ts2 Y0 D τ' Γ')) D τ Γ
theorem qs_try2 (hst : X.stack = X.env :: X.outer) (hfr : X.env.frame = some X.env.locals) (hy : Gl X y) (hmy : X.mg y = some (.ref Cy)) (hy2 : Gl X y2) (hmy2 : X.mg y2 = some (.ref Cz))
  (hb : ∀ (E' : Value → Shared → Prop) (pn : List (Addr × Obj)) (W : St → XK), (∀ pins σ H s e s', Inv (X.tr E' pn) pins σ H s → CXe X.prog X.w X.stack H s (W σ) e s' → E' e s') → PSs (X.tr E' pn) body (liS W tb))
  (hs : ∀ x, PSs (X.su x) (b₀ :: suite) (liS EN ts)) (hs2 : ∀ x, PSs (X.su x) (b₂ :: suite2) (liS EN ts2)) (hd : (y == ("__debug__" : Str)) = false := by decide) (hd2 : (y2 == ("__debug__" : Str)) = false := by decide) :
  PS X (.Try body [.ExceptHandler (some (.Name y np)) none (b₀ :: suite) hpos, .ExceptHandler (some (.Name y2 np2)) none (b₂ :: suite2) hpos2] [] [] pos) (liS E (cTry2 X.K Cy Cz tb ts ts2)) :=
 weakS3 (ps_try2 hst hfr hy hmy hy2 hmy2 hb hs hs2 hd hd2) fun D σ H τ Γ Y Z rs hr t dr xr =>
  ⟨τ, Γ, _, Z, rs, hr, t, dr, fun σ1 τ1 C H1 Γ1 s1 h1 r1 y1 => by
   rcases y1 with ⟨a, b⟩ | ⟨a, a2, b⟩
   ·exact .inl ⟨a, _, _, Y0, _, r1, h1, b, dr.mono s1, xr0⟩
   ·exact .inr ⟨a, a2, _, _, Y0, _, r1, h1, b, dr.mono s1, xr0⟩⟩
end
end L3
set_option Elab.async false
set_option linter.all false
set_option maxRecDepth 100000
namespace Sr
open PySem PyProof.Rows
def intOrd : KeyOrd where
 α := Int
 blt a b := decide (a < b)
 irrefl a := by simp
 trans a b c h h' := by simp at *; omega
 negTrans a b c h := by simp at *; omega
 total a b h h' := by simp at *; omega
def IsI (h : Heap) (v : Value) (i : Int) : Prop := ∃ a o t rest n, v = .ref a ∧ h.get? a = some o ∧ o.cls = .type "tuple" ∧ o.data = .seq (Value.int i t :: rest).toArray n
def fstI (h : Heap) (v : Value) : Int := match v with
 | .ref a => match h.get? a with
  | some o => match o.data with
   | .seq xs _ => match (xs[0]? : Option Value) with
    | some (Value.int i _) => i
    | _ => 0
   | _ => 0
  | none => 0
 | _ => 0
theorem IsI.fst {h : Heap} {v : Value} {i : Int} (x : IsI h v i) : fstI h v = i := by
 obtain ⟨a, o, t, rest, n, rfl, g, c, d⟩ := x
 unfold fstI
 simp [g, d]
theorem IsI.keep {h h' : Heap} {v : Value} {i : Int} (x : IsI h v i) (k : ∀ b o, h.get? b = some o → v = .ref b → h'.get? b = some o) : IsI h' v i := by
 obtain ⟨a, o, t, rest, n, rfl, g, c, d⟩ := x
 exact ⟨a, o, t, rest, n, rfl, k a o g rfl, c, d⟩
theorem zip_fst (f : Value → Int) : ∀ vs : List Value, (vs.zip vs).map (fun p => f p.1) = vs.map f
 | [] => rfl
 | v :: r => by rw [List.zip_cons_cons, List.map_cons, List.map_cons, zip_fst f r]
section
variable {M : Model} {prog : Program} {w : World} {A : Around} {E : Value → Shared → Prop} {s : Shared}
theorem first_I {v : Value} {i : Int} {Q : Option Value → Shared → Prop} (h : IsI s.heap v i) (q : ∀ t, Q (some (.int i t)) s) : wpAny M A (firstOfTuple' v) Q E s := by
 obtain ⟨a, o, t, rest, n, rfl, g, c, d⟩ := h
 show wpAny M A (typeOf (.ref a) >>= _) Q E s
 refine wpAny_bind (wpAny_typeOf (T := "tuple") ⟨o, g, c⟩ ?_)
 rw [if_neg (by decide)]
 refine wpAny_bind (listItems_at g d ?_)
 refine wpAny_pure ?_
 have e : (Value.int i t :: rest).toArray[0]? = some (Value.int i t) := by simp
 first
  | exact q t
  | (rw [e]; exact q t)
theorem kind_I {vs : List Value} {Q : SortKind → Shared → Prop} (h : ∀ v ∈ vs, ∃ i, IsI s.heap v i) (ne : 0 < vs.length) (q : Q (tuples' true) s) : wpAny M A (keyKind' vs.toArray) Q E s := by
 rw [keyKind'_eq]
 refine wpAny_bind (wp_arrM (fun r => ∃ i t, r = some (Value.int i t)) (fun v hv Q' hQ => ?_) fun rs hl hr => ?_)
 ·obtain ⟨i, hp⟩ := h v hv
  exact first_I hp fun t => hQ _ ⟨i, t, rfl⟩
 have ha : (rs.toArray.all fun x => x.isSome) = true := by
  rw [List.all_toArray, List.all_eq_true]
  intro x hx
  obtain ⟨z, t, rfl⟩ := hr x hx
  rfl
 rw [if_pos ha]
 refine wpAny_bind (wpAny_rule ?_)
 rw [oneTypeOnly'_eq]
 have hf : Array.filterMap id rs.toArray = (rs.filterMap id).toArray := by simp
 rw [hf]
 have hm : ∀ v ∈ rs.filterMap id, ∃ z t, v = Value.int z t := fun v hv => by
  obtain ⟨x, hx, e⟩ := List.mem_filterMap.mp hv
  obtain ⟨z, t, rfl⟩ := hr x hx
  cases e
  exact ⟨z, t, rfl⟩
 have hlen : (rs.filterMap id).length = rs.length := by
  clear hf hm ha hl
  induction rs with
  | nil => rfl
  | cons x r ih =>
   obtain ⟨z, t, rfl⟩ := hr x (by simp)
   show ((Value.int z t) :: r.filterMap id).length = _
   rw [List.length_cons, List.length_cons, ih fun y hy => hr y (by simp [hy])]
 refine wpAny_bind (wpAny_bind (wp_arrM (fun r => r = Value.type "int") (fun v hv Q' hQ => ?_) fun ts hl2 ht => ?_))
 ·obtain ⟨z, t, rfl⟩ := hm v hv
  exact wpAny_typeOf (T := "int") rfl (hQ _ rfl)
 cases ts with
 | nil => rw [hlen, hl] at hl2; simp at hl2; omega
 | cons x r =>
  have hx := ht x (by simp)
  subst hx
  have hall : ((Value.type "int" :: r).toArray.all fun y => y == Value.type "int") = true := by
   rw [List.all_toArray, List.all_eq_true]
   intro y hy
   rw [ht y hy]
   decide
  show wpAny M A (pure (if ((Value.type "int" :: r).toArray.all fun y => y == Value.type "int") = true then some (Value.type "int") else none)) _ E s
  rw [if_pos hall]
  exact wpAny_pure (wpAny_pure q)
theorem lt_I {u v : Value} {i j : Int} {Q : Bool → Shared → Prop} (hu : IsI s.heap u i) (hv : IsI s.heap v j) (ne : i ≠ j) (q : Q (decide (i < j)) s) : wpAny (model prog w) A (keyLt' (tuples' true) u v) Q E s := by
 obtain ⟨a, o1, t1, r1, n1, rfl, g1, c1, d1⟩ := hu
 obtain ⟨b, o2, t2, r2, n2, rfl, g2, c2, d2⟩ := hv
 show wpAny (model prog w) A (Builtin.List.listItems (.ref a) >>= _) Q E s
 refine wpAny_bind (listItems_at g1 d1 ?_)
 refine wpAny_bind (listItems_at g2 d2 ?_)
 refine wpAny_bind ?_
 have e0 : ((Value.int i t1 :: r1).toArray.toList.zip (Value.int j t2 :: r2).toArray.toList).zipIdx = ((Value.int i t1, Value.int j t2), 0) :: (r1.zip r2).zipIdx 1 := rfl
 rw [e0, List.forIn_cons]
 refine wpAny_bind (wpAny_bind (L2.eqAt_V (y := .int i) (x := .int j) ⟨t1, rfl⟩ ⟨t2, rfl⟩ rfl rfl prog w _ _ ?_))
 have e1 : L2.eqV (.int i) (.int j) = false := by simp [L2.eqV, ne]
 rw [e1, if_pos (by decide)]
 refine wpAny_bind (oneLt_int ?_)
 refine wpAny_pure ?_
 dsimp only
 exact wpAny_pure (wpAny_pure q)
theorem sort_tree_I {a : Addr} {vs : List Value} {n : Nat} {P : Fin → Shared → Prop} (ho : s.heap.get? a = some (seqObj "list" vs.toArray n)) (hI : ∀ v ∈ vs, ∃ i, IsI s.heap v i ∧ v ≠ .ref a) (nd : (vs.map (fstI s.heap)).Nodup) (h64 : vs.length < 64)
  (h : ∀ out : Array Value, out.toList.Perm vs → (out.toList.map (fstI s.heap)).Pairwise (· ≤ ·) → P (.done (.ret .none)) { s with heap := sortedHeap s.heap a vs out }) : wpAny (model prog w) A (Builtin.«list.sort» { pos := [.ref a] }) P E s := by
 have hl : ∀ k : Nat, k < 64 → k ≤ sizeLine := fun k hk => by rw [sizeLine_eq]; omega
 rw [list_sort_plain]
 have ha := Heap.lt_size ho
 refine wpAny_bind (listItems_at ho rfl ?_)
 refine wpAny_bind (listUpdate_at ho rfl ?_ (by simpa using hl _ h64) (by simp))
 obtain ⟨e1, ho1⟩ : ∃ e, (s.heap.update a (Obj.mapSeq fun x => #[])).get? a = some (seqObj "list" #[] e) := ⟨_, get?_update_seq ho fun x => #[]⟩
 refine wpAny_bind (seqEpoch_at ho1 rfl ?_)
 refine wpAny_bind (wpAny_newTuple ?_ (by simpa using hl _ h64))
 refine wpAny_bind (wpAny_newList ?_)
 refine wpAny_holding ?_
 have ho6 : (((s.heap.update a (Obj.mapSeq fun x => #[])).push (seqObj "tuple" vs.toArray 0)).push (seqObj "list" #[] 0)).get? a = some (seqObj "list" #[] e1) := by
  rw [Heap.get?_push_ne _ _ _ (by rw [size_push', Heap.size_update]; exact Nat.ne_of_lt (Nat.lt_succ_of_lt ha)), Heap.get?_push_ne _ _ _ (by rw [Heap.size_update]; exact Nat.ne_of_lt ha)]
  exact ho1
 have keep : ∀ b o, b ≠ a → s.heap.get? b = some o → (((s.heap.update a (Obj.mapSeq fun x => #[])).push (seqObj "tuple" vs.toArray 0)).push (seqObj "list" #[] 0)).get? b = some o := fun b o nb hb => by
  have hbl := Heap.lt_size hb
  rw [Heap.get?_push_ne _ _ _ (by rw [size_push', Heap.size_update]; exact Nat.ne_of_lt (Nat.lt_succ_of_lt hbl)), Heap.get?_push_ne _ _ _ (by rw [Heap.size_update]; exact Nat.ne_of_lt hbl)]
  rw [Heap.get?_update_ne _ _ _ _ nb]
  exact hb
 dsimp only
 have sz : ∀ out : Array Value, out.toList.Perm vs → out.size ≤ sizeLine + 1 := fun out hp => by
  have := hp.length_eq
  rw [Array.length_toList] at this
  rw [this]
  exact Nat.le_succ_of_le (hl _ h64)
 by_cases h2 : vs.length < 2
 ·have h2' : vs.toArray.size < 2 := by simpa using h2
  rw [if_pos h2', if_pos h2']
  refine wpAny_bind (wpAny_pure ?_)
  rw [StateT.run_pure]
  refine wpAny_bind (wpAny_pure ?_)
  dsimp only
  refine wpAny_bind (seqEpoch_at ho6 rfl ?_)
  have hp : (((arrOf (SortSt.mk' general' (vs.toArray.zip vs.toArray) #[] 7 none)).map fun x => x.2)).toList.Perm vs := out_perm (Array.Perm.refl _)
  refine wpAny_bind (listUpdate_at ho6 rfl ?_ (by simp) (sz _ hp))
  rw [if_neg (by simp)]
  refine wpAny_pure (h _ hp ?_)
  have hle := hp.length_eq
  generalize (((arrOf (SortSt.mk' general' (vs.toArray.zip vs.toArray) #[] 7 none)).map fun x => x.2)).toList = l at hle
  match l, hle with
  | [], _ => exact .nil
  | [x], _ => exact List.pairwise_singleton _ _
  | x :: y :: r, hle => rw [List.length_cons, List.length_cons] at hle; omega
 ·have h2' : ¬ vs.toArray.size < 2 := by simpa using h2
  rw [if_neg h2']
  have mem : ∀ x ∈ (pairsOf vs).toList, x.1 ∈ vs ∧ x.2 = x.1 := fun x hx => by
   unfold pairsOf at hx
   rw [Array.toList_zip] at hx
   obtain ⟨p, q⟩ := x
   refine ⟨(List.of_mem_zip hx).1, ?_⟩
   have : ∀ (l : List Value), (p, q) ∈ l.zip l → q = p := fun l => by
    induction l with
    | nil => intro z; simp at z
    | cons y r ih =>
     intro z
     rw [List.zip_cons_cons] at z
     rcases List.mem_cons.mp z with z | z
     ·cases z; rfl
     ·exact ih z
   exact this _ hx
  refine wpAny_bind (kind_I (fun v hv => ?_) (by omega) ?_)
  ·obtain ⟨i, hi, nv⟩ := hI v hv
   exact ⟨i, hi.keep fun b o g e => keep b o (fun z => nv (by rw [e, z])) g⟩
  rw [if_neg h2']
  have B : SB (pairsOf vs) (tuples' true) (SortSt.mk' (tuples' true) (vs.toArray.zip vs.toArray) #[] 7 none) := ⟨Array.Perm.refl _, rfl, rfl, rfl⟩
  have psz : (pairsOf vs).size = vs.length := by unfold pairsOf; simp
  have L : ∀ A, LtIs (model prog w) A { s with heap := ((s.heap.update a (Obj.mapSeq fun x => #[])).push (seqObj "tuple" vs.toArray 0)).push (seqObj "list" #[] 0) } (tuples' true) (pairsOf vs) intOrd (fun p => fstI s.heap p.1) := fun A x hx y hy nxy Q E q => by
   obtain ⟨i, hi, ni⟩ := hI x.1 (mem x hx).1
   obtain ⟨j, hj, nj⟩ := hI y.1 (mem y hy).1
   dsimp only at nxy q
   rw [hi.fst, hj.fst] at nxy q
   exact lt_I (hi.keep fun b o g e => keep b o (fun z => ni (by rw [e, z])) g) (hj.keep fun b o g e => keep b o (fun z => nj (by rw [e, z])) g) nxy q
  have D : Dif (O := intOrd) (fun p : Keyed => fstI s.heap p.1) (pairsOf vs) := by
   unfold Dif
   have : (pairsOf vs).toList.map (fun p : Keyed => fstI s.heap p.1) = vs.map (fstI s.heap) := by
    unfold pairsOf
    rw [Array.toList_zip]
    exact zip_fst (fstI s.heap) vs
   exact Eq.mpr (congrArg List.Nodup this) nd
  refine wpAny_bind (wpAny_mono (o_runs (d0 := (0 : Int)) (Q := fun _ st' => (arrOf st').Perm (pairsOf vs) ∧ failedOf st' = none ∧ SortTo (O := intOrd) (fun p : Keyed => fstI s.heap p.1) (0 : Int) (arrOf st') (pairsOf vs).size) (L A) D B (by omega) (by omega) fun st' hp hf so => ⟨hp, hf, so⟩) (fun r s' hr => ?_) (fun _ _ z => z))
  obtain ⟨rfl, hp, hf, so⟩ := hr
  obtain ⟨u, st'⟩ := r
  dsimp only at hp hf so ⊢
  refine wpAny_bind (seqEpoch_at ho6 rfl ?_)
  have op := out_perm hp
  refine wpAny_bind (listUpdate_at ho6 rfl ?_ (by simp) (sz _ op))
  rw [hf]
  dsimp only
  rw [if_neg (by simp)]
  refine wpAny_pure (h _ op ?_)
  rw [List.pairwise_iff_getElem]
  intro i j hi hj hij
  rw [List.length_map, Array.length_toList, Array.size_map] at hi hj
  have hz := hp.size_eq
  have := so i j (Nat.le_of_lt hij) (by omega)
  unfold Le at this
  have k1 := kat_at (O := intOrd) (fun p : Keyed => fstI s.heap p.1) (0 : Int) (Array.getElem?_eq_getElem hi)
  have k2 := kat_at (O := intOrd) (fun p : Keyed => fstI s.heap p.1) (0 : Int) (Array.getElem?_eq_getElem hj)
  have this := (congr (congrArg intOrd.blt k2.symm) k1.symm).trans this
  have m1 := mem (arrOf st')[i] ((Array.perm_iff_toList_perm.mp hp).mem_iff.mp (by simp))
  have m2 := mem (arrOf st')[j] ((Array.perm_iff_toList_perm.mp hp).mem_iff.mp (by simp))
  simp only [List.getElem_map, Array.getElem_toList, Array.getElem_map]
  rw [m1.2, m2.2]
  have : decide (fstI s.heap (arrOf st')[j].1 < fstI s.heap (arrOf st')[i].1) = false := this
  have := of_decide_eq_false this
  omega
end
end Sr
set_option Elab.async false
set_option linter.all false
set_option maxRecDepth 100000
namespace Sr
open PySem PyProof.Rows
theorem fst_same {h h' : Heap} : ∀ {vs : List Value}, (∀ v ∈ vs, ∃ i, IsI h v i ∧ IsI h' v i) → vs.map (fstI h) = vs.map (fstI h')
 | [], _ => rfl
 | v :: r, H => by
  obtain ⟨i, a, b⟩ := H v (by simp)
  rw [List.map_cons, List.map_cons, a.fst, b.fst, fst_same fun v hv => H v (by simp [hv])]
section
variable {prog : Program} {w : World} {A : Around} {E : Value → Shared → Prop} {s : Shared}
theorem sort_new {vs : List Value} {Q : Value → Shared → Prop} (h64 : vs.length < 64) (hI : ∀ v ∈ vs, ∃ i, IsI s.heap v i) (nd : (vs.map (fstI s.heap)).Nodup)
  (h : ∀ (out : Array Value) (h' : Heap), out.toList.Perm vs → (out.toList.map (fstI s.heap)).Pairwise (· ≤ ·) → (∀ b o, s.heap.get? b = some o → h'.get? b = some o) → (∃ e, h'.get? s.heap.objs.size = some (seqObj "list" out e)) → Q (.ref s.heap.objs.size) { s with heap := h' }) :
  wpAny (model prog w) A (do
   let l ← newList vs
   let _ ← holding [l] (call (.builtin "list.sort") [l] [])
   ret l) (fun fin s' => ∃ v, fin = Fin.done (Flow.ret v) ∧ Q v s') E s := by
 have hz : vs.length ≤ sizeLine := by rw [sizeLine_eq]; omega
 refine wpAny_bind (wpAny_newList ?_ hz)
 have hoL : (s.heap.push (seqObj "list" vs.toArray 0)).get? s.heap.objs.size = some (seqObj "list" vs.toArray 0) := Heap.get?_push_size _ rfl
 have up : ∀ v ∈ vs, ∃ i, IsI s.heap v i ∧ IsI (s.heap.push (seqObj "list" vs.toArray 0)) v i := fun v hv => by
  obtain ⟨i, x⟩ := hI v hv
  exact ⟨i, x, x.keep fun b o g _ => Heap.get?_push_of_some _ g⟩
 refine wpAny_bind (wpAny_holding (wpAny_call_entry slot_list_sort ⟨_, hoL, rfl⟩ entry_list_sort (sort_tree_I hoL (fun v hv => ?_) ?_ h64 fun out hp hs => ⟨.none, rfl, wpAny_pure ⟨_, rfl, ?_⟩⟩) (args_list_sort _)))
 ·obtain ⟨i, x, y⟩ := up v hv
  refine ⟨i, y, fun e => ?_⟩
  obtain ⟨a, o, t, r, n, e2, g, _⟩ := x
  rw [e2] at e
  cases e
  exact Nat.lt_irrefl _ (Heap.lt_size g)
 ·rw [← fst_same up]; exact nd
 ·rw [← fst_same (vs := out.toList) fun v hv => up v (hp.mem_iff.mp hv)] at hs
  obtain ⟨e, he⟩ := sortedHeap_at (vs := vs) (out := out) hoL
  refine h out _ hp hs (fun b o hb => ?_) ⟨e, he⟩
  have hl := Heap.lt_size hb
  rw [sortedHeap_old (Nat.ne_of_lt hl) (by rw [size_push']; exact Nat.lt_succ_of_lt hl)]
  exact Heap.get?_push_of_some _ hb
theorem sorted_I {l : Addr} {vs : List Value} {Q : Value → Shared → Prop} (hl : s.heap.IsList l vs.toArray) (h64 : vs.length < 64) (hI : ∀ v ∈ vs, ∃ i, IsI s.heap v i) (nd : (vs.map (fstI s.heap)).Nodup)
  (h : ∀ (out : Array Value) (a : Addr) (h' : Heap), out.toList.Perm vs → (out.toList.map (fstI s.heap)).Pairwise (· ≤ ·) → s.heap.objs.size ≤ a → (∀ b o, s.heap.get? b = some o → h'.get? b = some o) → (∃ e, h'.get? a = some (seqObj "list" out e)) → Q (.ref a) { s with heap := h' }) :
  wpAny (model prog w) A (call (.builtin "sorted") [.ref l]) Q E s := by
 have hz : vs.length ≤ sizeLine := by rw [sizeLine_eq]; omega
 refine Calls.call_function_entry kind_sorted plain_sorted entry_sorted (args_sorted1 _) ?_
 show wpAny _ _ (do
  checkCount "sorted" 1 1 1
  let __do_lift ← collect (.ref l)
  let l ← newList __do_lift
  let _ ← holding [l] (call (.builtin "list.sort") [l] [])
  ret l) _ _ _
 refine wpAny_bind (wpAny_pure ?_)
 refine wpAny_bind (collect_list hl ?_ hz)
 have keep : ∀ b o, s.heap.get? b = some o → ((s.heap.push (seqObj "list" #[] 0)).update s.heap.objs.size (Obj.mapSeq fun x => x ++ vs.toArray)).get? b = some o := fun b o hb => by
  have hbl := Heap.lt_size hb
  rw [Heap.get?_update_ne _ _ _ _ (Nat.ne_of_lt hbl), Heap.get?_push_ne _ _ _ (Nat.ne_of_lt hbl)]
  exact hb
 have hsz : ((s.heap.push (seqObj "list" #[] 0)).update s.heap.objs.size (Obj.mapSeq fun x => x ++ vs.toArray)).objs.size = s.heap.objs.size + 1 := by rw [Heap.size_update, size_push']
 have up : ∀ v ∈ vs, ∃ i, IsI s.heap v i ∧ IsI ((s.heap.push (seqObj "list" #[] 0)).update s.heap.objs.size (Obj.mapSeq fun x => x ++ vs.toArray)) v i := fun v hv => by
  obtain ⟨i, x⟩ := hI v hv
  exact ⟨i, x, x.keep fun b o g _ => keep b o g⟩
 refine sort_new (s := { s with heap := (s.heap.push (seqObj "list" #[] 0)).update s.heap.objs.size (Obj.mapSeq fun x => x ++ vs.toArray) }) h64 (fun v hv => let ⟨i, _, y⟩ := up v hv; ⟨i, y⟩) (by rw [← fst_same up]; exact nd) fun out h' hp hs k he => ?_
 rw [← fst_same (vs := out.toList) fun v hv => up v (hp.mem_iff.mp hv)] at hs
 exact h out _ h' hp hs (by dsimp only; rw [hsz]; exact Nat.le_succ _) (fun b o hb => k b o (keep b o hb)) he
end
end Sr
namespace L2
open PySem PyProof.Rows
def fstV (H : Hp) : V → Int
 | .ref a => match H a with
  | some (.tup (.int i :: _)) => i
  | _ => 0
 | _ => 0
theorem fstV_at {H : Hp} {a : Addr} {i : Int} {r : List V} (h : H a = some (.tup (.int i :: r))) : fstV H (.ref a) = i := by
 show (match H a with | some (.tup (.int i :: _)) => i | _ => 0) = i
 rw [h]
section
variable {X : Cx} {pins : List (Addr × Obj)} {σ : St} {H : Hp} {s : Shared}
theorem isI_of (I : Inv X pins σ H s) {a : Addr} {i : Int} {r : List V} (e : H a = some (.tup (.int i :: r))) : Sr.IsI s.heap (.ref a) i := by
 obtain ⟨is2, r2, t2, _⟩ := I.tuple (SqT.of (K := X.K) e)
 cases r2 with
 | cons ra r3 =>
  obtain ⟨t, rfl⟩ := ra
  obtain ⟨o, g, c, n, d⟩ := t2
  exact ⟨a, o, t, _, n, rfl, g, c, d⟩
theorem keys_eq (I : Inv X pins σ H s) : ∀ {ys : List V} {its : List Value}, Vals ys its → (∀ y ∈ ys, ∃ a i r, y = .ref a ∧ H a = some (.tup (.int i :: r))) → its.map (Sr.fstI s.heap) = ys.map (fstV H) ∧ ∀ v ∈ its, ∃ i, Sr.IsI s.heap v i
 | _, _, .nil, _ => ⟨rfl, fun _ h => (nomatch h)⟩
 | _, _, .cons (a := y) r h', hy => by
  obtain ⟨a, i, rr, rfl, e⟩ := hy y (by simp)
  cases r
  obtain ⟨k1, k2⟩ := keys_eq I h' fun y hm => hy y (by simp [hm])
  have x := isI_of I e
  refine ⟨?_, fun v hv => ?_⟩
  ·rw [List.map_cons, List.map_cons, k1, x.fst, fstV_at e]
  ·rcases List.mem_cons.mp hv with rfl | hv
   ·exact ⟨i, x⟩
   ·exact k2 v hv
theorem call_sortI : CallR X (.builtin "sorted") (fun xs H Q => ∃ p ys, xs = [.ref p] ∧ H p = some (.lst ys) ∧ ys.length < 64 ∧ (∀ y ∈ ys, ∃ a i r, y = .ref a ∧ H a = some (.tup (.int i :: r))) ∧ (ys.map (fstV H)).Nodup ∧ ∀ zs l, zs.Perm ys → (zs.map (fstV H)).Pairwise (· ≤ ·) → H l = none → Q (.ref l) (upd H l (.lst zs))) := by
 intro pins s σ H xs us Q I r h
 obtain ⟨p, ys, rfl, hp, h64, hy, hd, q⟩ := h
 obtain ⟨u, rfl, rx⟩ := vals1 r
 cases rx
 obtain ⟨its, rv, pl, hz⟩ := I.list (SqL.of (K := X.K) hp)
 have hl := rv.length
 obtain ⟨k1, k2⟩ := keys_eq I rv hy
 refine Sr.sorted_I pl.isList (by omega) k2 (by rw [k1]; exact hd) fun out a h' hperm hs ge keep he => ?_
 obtain ⟨e, he⟩ := he
 obtain ⟨zs, pz, hvz⟩ := vals_perm hperm rv
 obtain ⟨k3, _⟩ := keys_eq I hvz fun y hm => hy y (pz.mem_iff.mp hm)
 rw [k3] at hs
 have hf : H a = none := I.hok.fresh ge
 exact ⟨.ref a, _, I.laid (t' := s.toks) keep ge (show ObjOk X.prog X.w _ _ _ (.lst zs) from ⟨by rw [pz.length_eq]; exact hz, out.toList, e, hvz, by rw [he]⟩), rfl, q zs a pz hs hf⟩
end
end L2
namespace L3
open PySem PySem.Spec L2
theorem rs_keys {H : Hp} {α : Type} {f : α → T} {key : α → Int} (hf : ∀ x, ∃ r, f x = .tup (.int (key x) :: r)) : ∀ {ns : List α} {vs : List V}, Rs H vs (ns.map f) → vs.map (fstV H) = ns.map key ∧ ∀ y ∈ vs, ∃ a i r, y = .ref a ∧ H a = some (.tup (.int i :: r))
 | [], vs, h => by rw [rs_inv0 h]; exact ⟨rfl, fun _ h => (nomatch h)⟩
 | n :: ns, vs, h => by
  obtain ⟨v, ws, rfl, a, b⟩ := rs_inv h
  obtain ⟨r, er⟩ := hf n
  rw [er] at a
  obtain ⟨p, us, rfl, hp, q⟩ := i_tup a
  obtain ⟨w, us', rfl, r1, _⟩ := rs_inv q
  rw [i_int r1] at hp
  obtain ⟨k1, k2⟩ := rs_keys hf b
  refine ⟨by rw [List.map_cons, List.map_cons, k1, fstV_at hp], fun y hy => ?_⟩
  rcases List.mem_cons.mp hy with rfl | hy
  ·exact ⟨p, _, _, rfl, hp⟩
  ·exact k2 y hy
section
variable {X : Cx} {E : St → XK}
theorem cq_sortI {α : Type} (f : α → T) (key : α → Int) (hf : ∀ x, ∃ r, f x = .tup (.int (key x) :: r)) : CallQ X (.builtin "sorted") (fun xs Γ Z => ∃ (p : Addr) (ns : List α), xs = [.ref p] ∧ Γ p = some (.lst (ns.map f)) ∧ ns.length < 64 ∧ (ns.map key).Nodup ∧ ∀ (ms : List α) (l : Addr), ms.Perm ns → (ms.map key).Pairwise (· ≤ ·) → Γ l = none → Z (.ref l) (up Γ l (.lst (ms.map f)))) :=
 ⟨_, call_sortI, fun vs xs H Γ Q Z r hr q0 vr => by
  obtain ⟨p, ns, e, g, h64, nd, z⟩ := q0
  subst e
  obtain ⟨v, rfl, a⟩ := rs1 r
  obtain ⟨us, hu, q⟩ := hr p _ g
  obtain ⟨k1, k2⟩ := rs_keys hf q
  refine ⟨p, us, by rw [i_ref a], hu, by rw [q.length, List.length_map]; exact h64, k2, by rw [k1]; exact nd, fun zs l pz hs hl => ?_⟩
  obtain ⟨ms, pm, hm⟩ := rs_perm pz q
  have k := keep_new (o := .lst zs) hl
  rw [(rs_keys hf hm).1] at hs
  exact vr _ _ _ _ (.make hl) (hr.make (o3 := .lst (ms.map f)) hl ⟨_, upd_same, hm.mono (tq_kp k)⟩) r_ref (z ms l pm hs (hr.free hl))⟩
end
end L3
set_option Elab.async false
set_option linter.all false
set_option maxRecDepth 100000
namespace Sr
open PySem PyProof.Rows
abbrev ItAt (h : Heap) (it d : Addr) (i n ep : Nat) (own fl ok ov : Value) : Prop :=
 h.get? it = some { cls := .type "dict_itemiterator", dict := none, data := .fields #[own, fl, .ref d, .int i 0, .int n 0, .int ep 0, ok, ov], slots := #[] }
theorem len_items : typeLookup (.type "dict_items") "__len__" = pure (some (.builtin "dict_items.__len__")) := by rw [typeLookup_type, builtinLookup_eq_fast]; kernel_rfl
section
variable {prog : Program} {w : World} {K : Type} [DecidableEq K] {knd : PySem.KeyKind prog w K} {A : Around} {E : Value → Shared → Prop} {s : Shared}
theorem items_kept {it d t : Addr} {i ep : Nat} {kvs : List (K × Value)} {k : K} {v ok ov : Value} {fl : Bool} {ot : Obj} {Q : Option Value → Shared → Prop} (hit : ItAt s.heap it d i kvs.length ep (rawInt t) (.bool fl) ok ov) (ht : s.heap.get? t = some ot) (nt : t ≠ it)
  (hm : s.heap.DictAt knd d kvs ep) (hx : kvs[i]? = some (k, v))
  (hQ : ∀ key h', knd.is k key = true → ItAt h' it d (i + 1) kvs.length ep (rawInt t) (.bool true) ok ov →
   h'.get? s.heap.objs.size = some { cls := .type "tuple", data := .seq #[key, v] } →
   (∀ b o, b ≠ it → s.heap.get? b = some o → h'.get? b = some o) → Q (some (.ref s.heap.objs.size)) { s with heap := h' }) :
  wpAny (model prog w) A (pyNext (.ref it)) Q E s := by
 obtain ⟨hp, g, dr, tk, os⟩ := s
 obtain ⟨od, es, hod, hcd, hdd, hk, hpr, hn⟩ := id hm
 have hT : Shared.TypeIs ⟨hp, g, dr, tk, os⟩ (.ref it) "dict_itemiterator" := ⟨_, hit, rfl⟩
 unfold pyNext
 refine wpAny_bind (wpAny_attempt (wpAny_callSpecial?_slot (name := Str.ofString "__next__") hT F.slot_dict_itemiterator_next
  (wpAny_call_entry F.slot_dict_itemiterator_next hT F.entry_dict_itemiterator_next ?_ (F.args_dict_itemiterator_next_1 _))))
 refine wpAny_bind (wpAny_pure ?_)
 refine wpAny_bind ?_
 refine wpAny_bind ?_
 first | refine wpAny_bind (wpAny_typeNameOfWhole_itemiter hT (wpAny_pure ?_)) | refine wpAny_bind (wpAny_typeNameOf_itemiter hT (wpAny_pure ?_))
 refine wpAny_bind (wpAny_fieldsOf hit rfl ?_)
 have hown : Builtin.Dict_items.ownsTuple "dict_itemiterator" = true := by decide
 simp only [hown, if_true]
 show wpAny _ _ (if (Value.ref d == Value.none) = true then _ else _) _ _ _
 rw [if_neg (show ¬ ((Value.ref d == Value.none) = true) from Bool.false_ne_true)]
 refine wpAny_bind (wpAny_pure ?_)
 refine wpAny_bind (wpAny_dictEntries hod hdd ?_)
 have hsz : es.size = kvs.length := by rw [← hpr.length]; simp
 rw [if_neg (by rw [hsz]; simp)]
 refine wpAny_bind (wpAny_pure ?_)
 refine wpAny_bind (wpAny_dictEpoch hod hdd ?_)
 rw [if_neg (by simp)]
 refine wpAny_pure ?_
 have hlt : i < kvs.length := by
  rcases Nat.lt_or_ge i kvs.length with h | h
  ·exact h
  ·simp [List.getElem?_eq_none h] at hx
 have hlt' : i < es.size := by rw [hsz]; exact hlt
 obtain ⟨hkey, hval⟩ := hpr.get? (e := es[i]) (by simp [hlt']) hx
 simp only [show ¬ ((i : Int) < 0) from by omega, if_false, Int.toNat_natCast, Array.getElem?_eq_getElem hlt']
 refine wpAny_bind ?_
 first | refine wpAny_bind (wpAny_typeNameOfWhole_itemiter hT (wpAny_pure ?_)) | refine wpAny_bind (wpAny_typeNameOf_itemiter hT (wpAny_pure ?_))
 refine wpAny_bind (wpAny_isOneOf_itemiter hT ?_)
 show wpAny _ _ (setField (.ref it) 3 (rawInt ((i : Int) + 1)) >>= _) _ _ ⟨hp, g, dr, tk, os⟩
 refine wpAny_bind (wpAny_setField_rec hit (by simp) fun h₁ he₁ hs₁ => ?_)
 replace hs₁ : Heap.SameBut it hp h₁ := hs₁
 replace he₁ : ItAt h₁ it d (i + 1) kvs.length ep (rawInt t) (.bool fl) ok ov := by
  have e : ((i + 1 : Nat) : Int) = (i : Int) + 1 := by omega
  unfold ItAt; rw [e]; simpa [rawInt] using he₁
 have hT₁ : Shared.TypeIs ⟨h₁, g, dr, tk, os⟩ (.ref it) "dict_itemiterator" := ⟨_, he₁, rfl⟩
 refine wpAny_bind (wpAny_holding ?_)
 refine wpAny_bind (wpAny_isOneOf_itemiter hT₁ ?_)
 refine wpAny_bind (wpAny_isOneOf_itemiter hT₁ ?_)
 show wpAny _ _ (Builtin.Dict_items.pairFromOwner (.ref it) 6 es[i].key es[i].val) _ _ ⟨h₁, g, dr, tk, os⟩
 unfold Builtin.Dict_items.pairFromOwner
 refine wpAny_bind (wpAny_newTuple ?_)
 have he₂ : ItAt (h₁.push { cls := .type "tuple", data := .seq #[es[i].key, es[i].val] }) it d (i + 1) kvs.length ep (rawInt t) (.bool fl) ok ov := Heap.get?_push_of_some _ he₁
 generalize hh₂ : h₁.push { cls := .type "tuple", data := .seq #[es[i].key, es[i].val] } = h₂ at he₂
 have hz₁ : h₁.objs.size = hp.objs.size := hs₁.1
 have hil : it < hp.objs.size := Heap.lt_size hit
 have ht₂ : h₂.get? hp.objs.size = some { cls := .type "tuple", data := .seq #[es[i].key, es[i].val] } := by rw [← hh₂, ← hz₁]; exact Heap.get?_push_size _ rfl
 have hk₂ : ∀ b o, b ≠ it → hp.get? b = some o → h₂.get? b = some o := fun b o hb e => by rw [← hh₂]; exact Heap.get?_push_of_some _ (hs₁.extBut b o hb e)
 show wpAny _ _ (Builtin.Dict_items.ownedTupleIsFree (.ref it) >>= _) _ _ ⟨h₂, g, dr, tk, os⟩
 rw [hz₁]
 clear hh₂ he₁ hs₁ hT₁ hz₁ h₁
 have own : wpAny (model prog w) A.in1 (Builtin.Dict_items.ownedTupleIsFree (.ref it)) (fun b s' => b = false ∧ ∃ g1, s' = (⟨g1, g, dr, tk, os⟩ : Shared) ∧ ItAt g1 it d (i + 1) kvs.length ep (rawInt t) (.bool true) ok ov ∧ Heap.SameBut it h₂ g1) (fun _ _ => False) ⟨h₂, g, dr, tk, os⟩ := by
  unfold Builtin.Dict_items.ownedTupleIsFree
  refine wpAny_bind (wpAny_field he₂ rfl (x := rawInt t) rfl ?_)
  show wpAny _ _ (loadIfAlive ((t : Nat) : Int).toNat >>= _) _ _ _
  rw [Int.toNat_natCast]
  refine wpAny_bind (PySem.W.kdx_alive (hk₂ t ot nt ht) ?_)
  dsimp only [Option.isNone]
  rw [if_neg Bool.false_ne_true]
  refine wpAny_bind (wpAny_field he₂ rfl (x := .bool fl) rfl ?_)
  cases fl with
  | true => exact wpAny_pure ⟨rfl, h₂, rfl, he₂, Heap.SameBut.refl _ _⟩
  | false =>
   rw [if_pos (by decide)]
   exact wpAny_bind (wpAny_setField_rec he₂ (by simp) fun g1 z1 e1 => wpAny_pure ⟨rfl, g1, rfl, z1, e1⟩)
 refine wpAny_bind (wpAny_mono own (fun b s' hb => ?_) fun _ _ e => e.elim)
 obtain ⟨rfl, g1, rfl, z1, e1⟩ := hb
 rw [if_neg Bool.false_ne_true]
 refine wpAny_pure (wpAny_pure ⟨_, rfl, wpAny_pure (hQ es[i].key g1 hkey z1 ?_ ?_)⟩)
 ·rw [← hval]; exact e1.extBut _ _ (Nat.ne_of_gt hil) ht₂
 ·exact fun b o hb e => e1.extBut b o hb (hk₂ b o hb e)
theorem items_end {it d : Addr} {i ep : Nat} {kvs : List (K × Value)} {ok ov own fl : Value} {Q : Option Value → Shared → Prop} (hh : A.handled = none) (hit : ItAt s.heap it d i kvs.length ep own fl ok ov)
  (hm : s.heap.DictAt knd d kvs ep) (hx : kvs[i]? = none)
  (hQ : ∀ h', Heap.ExtBut it s.heap h' → Q none { s with heap := h' }) : wpAny (model prog w) A (pyNext (.ref it)) Q E s := by
 obtain ⟨od, es, hod, hcd, hdd, hk, hpr, hn⟩ := id hm
 have hT : s.TypeIs (.ref it) "dict_itemiterator" := ⟨_, hit, rfl⟩
 unfold pyNext
 refine wpAny_bind (wpAny_attempt (wpAny_callSpecial?_slot (name := Str.ofString "__next__") hT F.slot_dict_itemiterator_next
  (wpAny_call_entry F.slot_dict_itemiterator_next hT F.entry_dict_itemiterator_next ?_ (F.args_dict_itemiterator_next_1 _))))
 refine wpAny_bind (wpAny_pure ?_)
 refine wpAny_bind ?_
 refine wpAny_bind ?_
 first | refine wpAny_bind (wpAny_typeNameOfWhole_itemiter hT (wpAny_pure ?_)) | refine wpAny_bind (wpAny_typeNameOf_itemiter hT (wpAny_pure ?_))
 refine wpAny_bind (wpAny_fieldsOf hit rfl ?_)
 have hown : Builtin.Dict_items.ownsTuple "dict_itemiterator" = true := by decide
 simp only [hown, if_true]
 show wpAny _ _ (if (Value.ref d == Value.none) = true then _ else _) _ _ s
 rw [if_neg (show ¬ ((Value.ref d == Value.none) = true) from Bool.false_ne_true)]
 refine wpAny_bind (wpAny_pure ?_)
 refine wpAny_bind (wpAny_dictEntries hod hdd ?_)
 have hsz : es.size = kvs.length := by rw [← hpr.length]; simp
 rw [if_neg (by rw [hsz]; simp)]
 refine wpAny_bind (wpAny_pure ?_)
 refine wpAny_bind (wpAny_dictEpoch hod hdd ?_)
 rw [if_neg (by simp)]
 refine wpAny_pure ?_
 have hge : es.size ≤ i := by rw [hsz]; simpa using hx
 simp only [show ¬ ((i : Int) < 0) from by omega, if_false, Int.toNat_natCast, Array.getElem?_eq_none hge]
 refine wpAny_bind ?_
 first | refine wpAny_bind (wpAny_typeNameOfWhole_itemiter hT (wpAny_pure ?_)) | refine wpAny_bind (wpAny_typeNameOf_itemiter hT (wpAny_pure ?_))
 show wpAny _ _ (setField (.ref it) 2 .none >>= _) _ _ s
 refine wpAny_bind (wpAny_setField hit rfl (by simp) ?_)
 show wpAny _ _ (newExc (.type "StopIteration") [] >>= _) _ _ _
 refine wpAny_bind ?_
 simp only [newExc, newTuple]
 refine wpAny_bind (wpAny_newObj_type ?_ (by size_fits))
 refine wpAny_bind (m := firstArgMember _ _) (wpAny_of_eq (a := Value.none) (by first | rfl | (simp only [firstArgMember]; rfl)) ?_)
 refine wpAny_newObj_type ?_ (by size_fits)
 simp only [raiseNew]
 refine wpAny_bind (wpAny_handled ?_)
 rw [show A.in1.handled = none from hh]
 refine wpAny_bind (wpAny_pure (wpAny_throw ?_))
 refine wpAny_bind (wpAny_isInstance (T := "StopIteration") (b := true) ⟨_, Heap.get?_push_size _ rfl, rfl⟩ isSubtype_stop ?_)
 exact wpAny_pure (hQ _ (((Heap.SameBut.update ..).extBut.push _).push _))
end
end Sr
set_option Elab.async false
set_option linter.all false
set_option maxRecDepth 100000
namespace Sr
open PySem PyProof.Rows
section
variable {prog : Program} {w : World} {K : Type} [DecidableEq K] {knd : PySem.KeyKind prog w K} {A : Around} {s : Shared}
def Tups (knd : PySem.KeyKind prog w K) (kvs : List (K × Value)) (h : Heap) (bs : List Addr) : Prop := bs.Nodup ∧ ∀ (j : Nat) (b : Addr), bs[j]? = some b → ∃ key k x, h.get? b = some { cls := .type "tuple", data := .seq #[key, x] } ∧ kvs[j]? = some (k, x) ∧ knd.is k key = true
theorem Tups.nil {kvs : List (K × Value)} {h : Heap} : Tups knd kvs h [] := ⟨.nil, fun j b e => by simp at e⟩
theorem Tups.keep {kvs : List (K × Value)} {h h' : Heap} {bs : List Addr} (t : Tups knd kvs h bs) (k : ∀ b o, b ∈ bs → h.get? b = some o → h'.get? b = some o) : Tups knd kvs h' bs := ⟨t.1, fun j b e => by
 obtain ⟨key, kk, x, g, r⟩ := t.2 j b e
 exact ⟨key, kk, x, k b _ (List.mem_of_getElem? e) g, r⟩⟩
theorem Tups.lt {kvs : List (K × Value)} {h : Heap} {bs : List Addr} (t : Tups knd kvs h bs) : ∀ b ∈ bs, b < h.objs.size := fun b hb => by
 obtain ⟨j, hj, e⟩ := List.getElem_of_mem hb
 obtain ⟨_, _, _, g, _⟩ := t.2 j b (by rw [List.getElem?_eq_getElem hj, e])
 exact Heap.lt_size g
theorem Tups.snoc {kvs : List (K × Value)} {h : Heap} {bs : List Addr} {T : Addr} {key x : Value} {k : K} (t : Tups knd kvs h bs) (nT : T ∉ bs) (g : h.get? T = some { cls := .type "tuple", data := .seq #[key, x] }) (e : kvs[bs.length]? = some (k, x)) (hk : knd.is k key = true) : Tups knd kvs h (bs ++ [T]) := by
 refine ⟨?_, fun j b ej => ?_⟩
 ·rw [List.nodup_append]
  exact ⟨t.1, by simp, fun a ha b hb z => nT (by rw [List.mem_singleton.mp hb] at z; exact z ▸ ha)⟩
 ·by_cases hj : j < bs.length
  ·rw [List.getElem?_append_left hj] at ej; exact t.2 j b ej
  ·rw [List.getElem?_append_right (by omega)] at ej
   have h0 : j - bs.length = 0 := by
    by_cases h0 : j - bs.length = 0
    ·exact h0
    ·rw [List.getElem?_eq_none (by simp; omega)] at ej; cases ej
   have ej2 : j = bs.length := by omega
   subst ej2
   simp at ej
   subst ej
   exact ⟨key, k, x, g, e, hk⟩
theorem loop_items {R : Result → Shared → Prop} {kvs : List (K × Value)} {it d S : Addr} {ep : Nat} {res : Value} {n0 : Nat} (hh : A.handled = none) (hn : kvs.length ≤ sizeLine) (hdi : d ≠ it) (hSi : S ≠ it) (hdS : d ≠ S) :
  ∀ (m i : Nat) (s : Shared) (bs : List Addr) (c : Nat), kvs.length - i = m → i ≤ kvs.length → n0 ≤ s.heap.objs.size → ((i = 0 ∧ IsItemIter s.heap it d i kvs.length ep .none .none) ∨ ∃ (t : Addr) (ot : Obj) (fl : Bool) (ok ov : Value), ItAt s.heap it d i kvs.length ep (rawInt t) (.bool fl) ok ov ∧ s.heap.get? t = some ot ∧ t ≠ it ∧ t ∈ bs) → s.heap.DictAt knd d kvs ep →
  s.heap.get? S = some { cls := .type "list", dict := none, data := .seq (bs.map Value.ref).toArray c, slots := #[] } → bs.length = i → Tups knd kvs s.heap bs → (∀ b ∈ bs, n0 ≤ b ∧ b ≠ it ∧ b ≠ S) →
  (∀ (h' : Heap) (bs' : List Addr) (c' : Nat), (∀ b o, b ≠ it → b ≠ S → s.heap.get? b = some o → h'.get? b = some o) → h'.get? S = some { cls := .type "list", dict := none, data := .seq (bs'.map Value.ref).toArray c', slots := #[] } → bs'.length = kvs.length → Tups knd kvs h' bs' → (∀ b ∈ bs', n0 ≤ b ∧ b ≠ it ∧ b ≠ S) → R (.ok (.ret res)) { s with heap := h' }) →
  codeAny (model prog w) A (.builtin "list.extend.loop" ⟨[.ref S, .ref it, res], []⟩) R s := by
 intro m
 induction m with
 | zero =>
  intro i s bs c hk hi hn0 hst hd hS hl tp hb hR
  have hin : i = kvs.length := by omega
  refine codeAny_builtin F.entry_extend_loop ?_
  rw [Around.under_plainId F.plain_extend_loop _]
  show wpAny _ A.in1 (pyNext (.ref it) >>= _) _ _ s
  have fin : ∀ h', Heap.ExtBut it s.heap h' → R (.ok (.ret res)) { s with heap := h' } := fun h' e => hR h' bs c (fun b o nb _ g => e b o nb g) (e S _ hSi hS) (by omega) (tp.keep fun b o m g => e b o (hb b m).2.1 g) hb
  rcases hst with ⟨_, h⟩ | ⟨t, ot, fl, ok, ov, h, _⟩
  ·exact wpAny_bind (items_end (own := .none) (fl := .bool false) hh h hd (by rw [hin]; simp) fun h' e => wpAny_pure (fin h' e))
  ·exact wpAny_bind (items_end hh h hd (by rw [hin]; simp) fun h' e => wpAny_pure (fin h' e))
 | succ m ih =>
  intro i s bs c hk hi hn0 hst hd hS hl tp hb hR
  have hlt : i < kvs.length := by omega
  obtain ⟨⟨k, x⟩, hx⟩ : ∃ p, kvs[i]? = some p := ⟨kvs[i], by simp [hlt]⟩
  have hSz := Heap.lt_size hS
  refine codeAny_builtin F.entry_extend_loop ?_
  rw [Around.under_plainId F.plain_extend_loop _]
  show wpAny _ A.in1 (pyNext (.ref it) >>= _) _ _ s
  have hitz : it < s.heap.objs.size := by
   rcases hst with ⟨_, h⟩ | ⟨t, ot, fl, ok, ov, h, _⟩ <;> exact Heap.lt_size h
  have nS : s.heap.objs.size ≠ S := Nat.ne_of_gt hSz
  have nIt : s.heap.objs.size ≠ it := Nat.ne_of_gt hitz
  have next : ∀ (key : Value) (h' : Heap) (t : Addr) (ot : Obj) (fl : Bool) (ok ov : Value), knd.is k key = true → ItAt h' it d (i + 1) kvs.length ep (rawInt t) (.bool fl) ok ov → h'.get? t = some ot → t ≠ it → t ∈ bs ++ [s.heap.objs.size] →
    h'.get? s.heap.objs.size = some { cls := .type "tuple", data := .seq #[key, x] } → (∀ b o, b ≠ it → s.heap.get? b = some o → h'.get? b = some o) →
    codeAny (model prog w) A (.builtin "list.extend.loop" ⟨[.ref S, .ref it, res], []⟩) R { s with heap := h'.update S (Obj.mapSeq (·.push (.ref s.heap.objs.size))) } := fun key h' t ot fl ok ov hkey hit' ht nt mt hT hk' => by
   have hS' := hk' S _ hSi hS
   have oth : ∀ b o, b ≠ S → h'.get? b = some o → (h'.update S (Obj.mapSeq (·.push (Value.ref s.heap.objs.size)))).get? b = some o := fun b o hb e => (Heap.get?_update_other _ _ (Ne.symm hb)).trans e
   have tS : t ≠ S := by
    rcases List.mem_append.mp mt with h | h
    ·exact (hb t h).2.2
    ·rw [List.mem_singleton.mp h]; exact nS
   have hS2 := Heap.get?_update_self (Obj.mapSeq (·.push (Value.ref s.heap.objs.size))) hS' rfl
   have tp2 : Tups knd kvs (h'.update S (Obj.mapSeq (·.push (Value.ref s.heap.objs.size)))) (bs ++ [s.heap.objs.size]) :=
    Tups.snoc (tp.keep fun b o m g => oth b o (hb b m).2.2 (hk' b o (hb b m).2.1 g)) (fun m => Nat.lt_irrefl _ (tp.lt _ m)) (oth _ _ nS hT) (by rw [hl]; exact hx) hkey
   obtain ⟨c3, hS3⟩ : ∃ c3, (h'.update S (Obj.mapSeq (·.push (Value.ref s.heap.objs.size)))).get? S = some { cls := .type "list", dict := none, data := .seq ((bs.map Value.ref).toArray.push (Value.ref s.heap.objs.size)) c3, slots := #[] } := ⟨_, hS2⟩
   rw [show (bs.map Value.ref).toArray.push (Value.ref s.heap.objs.size) = ((bs ++ [s.heap.objs.size]).map Value.ref).toArray by simp] at hS3
   refine ih (i + 1) _ (bs ++ [s.heap.objs.size]) c3 (by omega) hlt ?_ (.inr ⟨t, ot, fl, ok, ov, oth _ _ hSi.symm hit', oth _ _ tS ht, nt, mt⟩) (hd.at' fun o e => oth _ _ hdS (hk' _ _ hdi e)) hS3 (by rw [List.length_append, hl]; rfl) tp2 (fun b hbm => ?_) fun h2 bs2 c2 k2 g2 l2 t2 n2 => ?_
   ·exact Nat.le_of_lt (Nat.lt_of_le_of_lt hn0 (Heap.lt_size (oth _ _ nS hT)))
   ·rcases List.mem_append.mp hbm with h | h
    ·exact hb b h
    ·rw [List.mem_singleton.mp h]; exact ⟨hn0, nIt, nS⟩
   ·exact hR h2 bs2 c2 (fun b o n1 n2 g => k2 b o n1 n2 (oth b o n2 (hk' b o n1 g))) g2 l2 t2 n2
  have sz : (bs.map Value.ref).toArray.size ≤ sizeLine ∧ ((bs.map Value.ref).toArray.push (Value.ref s.heap.objs.size)).size ≤ sizeLine + 1 := by simp; omega
  rcases hst with ⟨_, h⟩ | ⟨t, ot, fl, ok, ov, h, ht, nt, mt⟩
  ·refine wpAny_bind (wpAny_pyNext_items_item h hd hx fun key h' hkey hit' hT hz hk' => ?_)
   show wpAny _ A.in1 (updateSeq S (·.push (.ref s.heap.objs.size)) >>= _) _ _ _
   refine wpAny_bind ?_
   exact wpAny_updateSeq (hk' S _ hSi hS) rfl (wpAny_pure ⟨plainId_quiet F.plain_extend_loop _, next key h' s.heap.objs.size _ false key x hkey hit' hT nIt (by simp) hT hk'⟩) sz.1 sz.2
  ·refine wpAny_bind (items_kept h ht nt hd hx fun key h' hkey hit' hT hk' => ?_)
   show wpAny _ A.in1 (updateSeq S (·.push (.ref s.heap.objs.size)) >>= _) _ _ _
   refine wpAny_bind ?_
   exact wpAny_updateSeq (hk' S _ hSi hS) rfl (wpAny_pure ⟨plainId_quiet F.plain_extend_loop _, next key h' t ot true ok ov hkey hit' (hk' t _ nt ht) nt (List.mem_append_left _ mt) hT hk'⟩) sz.1 sz.2
theorem collect_items {E : Value → Shared → Prop} {v d : Addr} {kvs : List (K × Value)} {ep : Nat} {Q : List Value → Shared → Prop} (hh : A.handled = none) (hv : s.heap.IsItemsView v d) (hm : s.heap.DictAt knd d kvs ep) (hn : kvs.length ≤ sizeLine)
  (hQ : ∀ (h' : Heap) (bs : List Addr), s.heap.objs.size < h'.objs.size → (∀ b o, s.heap.get? b = some o → h'.get? b = some o) → bs.length = kvs.length → Tups knd kvs h' bs → (∀ b ∈ bs, s.heap.objs.size ≤ b) → Q (bs.map Value.ref) { s with heap := h' }) : wpAny (model prog w) A (collect (.ref v)) Q E s := by
 obtain ⟨ov, hov, hcv, hdv⟩ := id hv
 have hvl := Heap.lt_size hov
 have hlt := hm.lt_size
 unfold collect
 refine wpAny_bind (wpAny_runValue (codeAny_builtin F.entry_proto_collect ?_))
 rw [Around.under_plainId F.plain_proto_collect _]
 show wpAny _ A.in1 (newList [] >>= fun l => again (.builtin "list.__iadd__" ⟨[l, .ref v], []⟩)) _ _ s
 refine wpAny_bind (wpAny_newObj_type ?_)
 refine wpAny_pure ⟨plainId_quiet F.plain_list_iadd _, codeAny_builtin F.entry_list_iadd ?_⟩
 rw [Around.under_plainId F.plain_list_iadd _]
 show wpAny _ A.in1 (Builtin.List.listExtendWith (.ref s.heap.objs.size) (.ref v) (.ref s.heap.objs.size)) _ _ _
 have hm1 := hm.push { cls := .type "list", data := .seq ([] : List Value).toArray }
 have hv1 : (s.heap.push { cls := .type "list", data := .seq ([] : List Value).toArray }).IsItemsView v d := ⟨ov, Heap.get?_push_of_some _ hov, hcv, hdv⟩
 have hS1 : (s.heap.push { cls := .type "list", data := .seq ([] : List Value).toArray }).get? s.heap.objs.size = some { cls := .type "list", data := .seq ([] : List Value).toArray } := Heap.get?_push_size _ rfl
 have hz1 : (s.heap.push { cls := .type "list", data := .seq ([] : List Value).toArray }).objs.size = s.heap.objs.size + 1 := size_push' _ _
 unfold Builtin.List.listExtendWith
 refine wpAny_bind (wpAny_typeOf (T := "dict_items") hv1.typeIs ?_)
 have h1 : Builtin.List.listSameRef (.ref s.heap.objs.size) (.ref v) = false := by simp [Builtin.List.listSameRef, Nat.ne_of_gt hvl]
 have h2 : (Value.type "dict_items" == Value.type "list") = false := by decide
 have h3 : (Value.type "dict_items" == Value.type "tuple") = false := by decide
 simp only [h1, h2, h3, Bool.or_false, Bool.false_eq_true, if_false]
 refine wpAny_bind (wpAny_pyIter_items hv1 hm1 ?_)
 dsimp only
 rw [hz1]
 refine wpAny_bind (wpAny_holding ?_)
 have hm2 := hm1.push { cls := .type "dict_itemiterator", data := .fields #[.none, .bool false, .ref d, .int 0 0, .int kvs.length 0, .int ep 0, .none, .none] }
 have hv2 : ((s.heap.push { cls := .type "list", data := .seq ([] : List Value).toArray }).push { cls := .type "dict_itemiterator", data := .fields #[.none, .bool false, .ref d, .int 0 0, .int kvs.length 0, .int ep 0, .none, .none] }).IsItemsView v d := ⟨ov, Heap.get?_push_of_some _ (Heap.get?_push_of_some _ hov), hcv, hdv⟩
 have hS2 := Heap.get?_push_of_some { cls := .type "dict_itemiterator", data := .fields #[.none, .bool false, .ref d, .int 0 0, .int kvs.length 0, .int ep 0, .none, .none] } hS1
 have hI2 : IsItemIter ((s.heap.push { cls := .type "list", data := .seq ([] : List Value).toArray }).push { cls := .type "dict_itemiterator", data := .fields #[.none, .bool false, .ref d, .int 0 0, .int kvs.length 0, .int ep 0, .none, .none] }) (s.heap.objs.size + 1) d 0 kvs.length ep .none .none := by
  unfold IsItemIter
  rw [← hz1]; exact Heap.get?_push_size _ rfl
 have old : ∀ b o, s.heap.get? b = some o → ((s.heap.push { cls := .type "list", data := .seq ([] : List Value).toArray }).push { cls := .type "dict_itemiterator", data := .fields #[.none, .bool false, .ref d, .int 0 0, .int kvs.length 0, .int ep 0, .none, .none] }).get? b = some o := fun b o e => Heap.get?_push_of_some _ (Heap.get?_push_of_some _ e)
 generalize ((s.heap.push { cls := .type "list", data := .seq ([] : List Value).toArray }).push { cls := .type "dict_itemiterator", data := .fields #[.none, .bool false, .ref d, .int 0 0, .int kvs.length 0, .int ep 0, .none, .none] }) = h2 at *
 unfold Builtin.List.listLengthHint
 refine wpAny_bind (wpAny_specialOf (name := Str.ofString "__len__") (s := { s with heap := h2 }) hv2.typeIs len_items ?_)
 (generalize hid : ("dict_items.__len__" : String) = id0; (fail_if_success (clear hid id0)); wp_delta; rw [show splitId id0 = some ("dict_items", "__len__") from by subst hid; decide +kernel]; subst hid)
 refine wpAny_bind (wpAny_isInstance (b := true) (s := { s with heap := h2 }) hv2.typeIs (by rw [isSubtype_type]; kernel_rfl) ?_)
 refine wpAny_bind (wpAny_typeOf (T := "dict_items") (s := { s with heap := h2 }) hv2.typeIs ?_)
 refine wpAny_pure ?_
 show wpAny _ A.in1 (rule "list.extend.makes-room" >>= fun _ => Builtin.List.listTouch (.ref s.heap.objs.size) >>= fun _ =>
  again (.builtin "list.extend.loop" ⟨[.ref s.heap.objs.size, .ref (s.heap.objs.size + 1), .ref s.heap.objs.size], []⟩)) _ _ _
 refine wpAny_bind (wpAny_rule ?_)
 refine wpAny_bind ?_
 show wpAny _ A.in1 (updateSeq s.heap.objs.size (·.push .none) >>= fun _ => updateSeq s.heap.objs.size (·.pop)) _ _ _
 refine wpAny_bind (wpAny_updateSeq hS2 rfl ?_)
 have hS3 := Heap.get?_update_self (Obj.mapSeq (·.push Value.none)) hS2 rfl
 refine wpAny_updateSeq hS3 rfl ?_
 have hS4 := Heap.get?_update_self (Obj.mapSeq (·.pop)) hS3 rfl
 have oth : ∀ b o, b ≠ s.heap.objs.size → h2.get? b = some o → ((h2.update s.heap.objs.size (Obj.mapSeq (·.push Value.none))).update s.heap.objs.size (Obj.mapSeq (·.pop))).get? b = some o :=
  fun b o hb e => (Heap.get?_update_other _ _ (Ne.symm hb)).trans ((Heap.get?_update_other _ _ (Ne.symm hb)).trans e)
 refine wpAny_pure ⟨plainId_quiet F.plain_extend_loop _, loop_items (n0 := s.heap.objs.size) (knd := knd) (A := A) hh hn (Nat.ne_of_lt (Nat.lt_succ_of_lt hlt)) (Nat.ne_of_lt (Nat.lt_succ_self _)) (Nat.ne_of_lt hlt) kvs.length 0 _ [] _ rfl (Nat.zero_le _) ?_ (.inl ⟨rfl, oth _ _ (Nat.succ_ne_self _) hI2⟩) (hm2.at' fun o e => oth _ _ (Nat.ne_of_lt hlt) e) hS4 rfl Tups.nil (fun _ h => (nomatch h)) fun h' bs c' k' hS' hl' tp' nb' => ?_⟩
 ·exact Nat.le_of_lt (Heap.lt_size hS4)
 show wpAny _ A (load s.heap.objs.size >>= _) _ _ _
 refine wpAny_bind (wpAny_load hS' ?_)
 refine wpAny_pure ?_
 refine hQ h' bs (Heap.lt_size hS') (fun b o hb => k' b o ?_ ?_ (oth b o ?_ (old b o hb))) hl' tp' fun b m => (nb' b m).1
 ·exact Nat.ne_of_lt (Nat.lt_succ_of_lt (Heap.lt_size hb))
 ·exact Nat.ne_of_lt (Heap.lt_size hb)
 ·exact Nat.ne_of_lt (Heap.lt_size hb)
end
end Sr
set_option Elab.async false
set_option linter.all false
set_option maxRecDepth 100000
namespace Sr
theorem perm_map_inv {α β : Type} {f : α → β} : ∀ {xs ys : List β}, ys.Perm xs → ∀ {ns : List α}, xs = ns.map f → ∃ ms : List α, ms.Perm ns ∧ ys = ms.map f := by
 intro xs ys p
 induction p with
 | nil => intro ns h; exact ⟨ns, .refl _, h⟩
 | @cons u l1 l2 p ih =>
  intro ns h
  cases ns with
  | nil => cases h
  | cons n ns =>
   rw [List.map_cons] at h
   obtain ⟨h1, h2⟩ := List.cons.inj h
   obtain ⟨ms, pm, hm⟩ := ih h2
   exact ⟨n :: ms, pm.cons _, by rw [List.map_cons, ← hm, h1]⟩
 | swap u v l =>
  intro ns h
  cases ns with
  | nil => cases h
  | cons n ns =>
   cases ns with
   | nil => cases h
   | cons m ns =>
    rw [List.map_cons, List.map_cons] at h
    obtain ⟨h1, h2⟩ := List.cons.inj h
    obtain ⟨h3, h4⟩ := List.cons.inj h2
    exact ⟨m :: n :: ns, .swap _ _ _, by rw [List.map_cons, List.map_cons, ← h4, h1, h3]⟩
 | trans p1 p2 ih1 ih2 =>
  intro ns h
  obtain ⟨zs, pz, hz⟩ := ih2 h
  obtain ⟨ws, pw, hw⟩ := ih1 hz
  exact ⟨ws, pw.trans pz, hw⟩
end Sr
namespace L2
open PySem PyProof.Rows
def itemsAt (p d : Addr) : Heap → Prop := fun h => h.IsItemsView p d
section
variable {X : Cx} {pins : List (Addr × Obj)} {σ : St} {H : Hp} {s : Shared}
theorem Inv.trackT {a : Addr} {o1 : HO} (I : Inv X pins σ H s) (f : FpOk X pins H a) (h0 : X.s₀.heap.objs.size ≤ a) (new : ObjOk X.prog X.w (upd H a o1) s.heap a o1) : Inv X pins σ (upd H a o1) s where
 ok := I.ok
 os := I.os
 bare := I.bare
 base := ⟨I.base.keep, I.base.slot, fun b o e n hx => by rw [upd_ne (Nat.ne_of_lt (Nat.lt_of_lt_of_le (Heap.lt_size e) h0))]; exact I.base.free b o e n hx, I.base.there,
  fun b xs q => by have z := I.base.tups b xs q; rw [upd_ne (ne_of_none z f.1)]; exact z, fun b o u q => by have z := I.base.frzs b o u q; rw [upd_ne (ne_of_none z f.1)]; exact z,
  fun b ps q => by obtain ⟨m, z⟩ := I.base.tbls b ps q; exact ⟨m, by rw [upd_ne (ne_of_none z f.1)]; exact z⟩⟩
 loc := I.loc
 cell := I.cell
 free := by rw [upd_ne f.2.1.symm]; exact I.free
 freeC := fun x c e => by rw [upd_ne (f.2.2.2.2.1 x c e)]; exact I.freeC x c e
 pin := fun p hp' => by
  obtain ⟨a1, a2, a3⟩ := I.pin p hp'
  exact ⟨a1, by rw [upd_ne (f.2.2.2.2.2 p hp')]; exact a2, a3⟩
 hok := fun b o e => by
  by_cases hb : b = a
  ·subst hb; rw [upd_same] at e; cases e; exact new
  ·rw [upd_ne hb] at e
   exact (I.hok b o e).stay (fun _ _ _ q => q) (fun c q => by rw [upd_ne (ne_of_none q f.1)]; exact q) fun c xs q => by rw [upd_ne (ne_of_none q f.1)]; exact q
 len := I.len
theorem Inv.tracks : ∀ (L : List (Addr × List V)) {H : Hp}, Inv X pins σ H s → (L.map (·.1)).Nodup → (∀ q ∈ L, FpOk X pins H q.1 ∧ X.s₀.heap.objs.size ≤ q.1 ∧ q.2.length ≤ sizeLine ∧ ∃ its, Vals q.2 its ∧ IsTup s.heap q.1 its.toArray) →
  ∃ H', Inv X pins σ H' s ∧ (∀ c o, H c = some o → H' c = some o) ∧ (∀ c, c ∉ L.map (·.1) → H' c = H c) ∧ ∀ q ∈ L, H' q.1 = some (.tup q.2)
 | [], H, I, _, _ => ⟨H, I, fun _ _ h => h, fun _ _ => rfl, fun _ h => (nomatch h)⟩
 | (a, ws) :: L, H, I, nd, hq => by
  rw [List.map_cons, List.nodup_cons] at nd
  obtain ⟨f, h0, hz, its, rv, tp⟩ := hq (a, ws) (by simp)
  have I1 := I.trackT (o1 := .tup ws) f h0 ⟨hz, its, rv, tp⟩
  obtain ⟨H', I', k, o, t⟩ := Inv.tracks L I1 nd.2 fun q hm => by
   obtain ⟨f2, r⟩ := hq q (by simp [hm])
   have ne : q.1 ≠ a := fun z => nd.1 (by rw [← z]; exact List.mem_map.mpr ⟨q, hm, rfl⟩)
   exact ⟨f2.upd ne, r⟩
  refine ⟨H', I', fun c u h => k c u (by rw [upd_ne (ne_of_none h f.1)]; exact h), fun c hc => ?_, fun q hm => ?_⟩
  ·rw [List.map_cons, List.mem_cons, not_or] at hc
   rw [o c hc.2, upd_ne hc.1]
  ·rcases List.mem_cons.mp hm with rfl | hm
   ·exact k _ _ upd_same
   ·exact t q hm
theorem mt_items : MtR X "dict.items" (fun x vs H Q => ∃ a kvs, x = .ref a ∧ vs = [] ∧ H a = some (.dK kvs) ∧ ∀ p, H p = none → Q (.ref p) (upd H p (.ext (itemsAt p a)))) := by
 intro pins s σ H x xs v us Q I rx rv h
 obtain ⟨a, kvs, rfl, rfl, e, q⟩ := h
 cases rx
 cases rv
 obtain ⟨z, hd, vs, rel, dd⟩ := dk_of I.hok e
 refine call_meetsIn F.slot_dict_items dd.typeIs F.entry_dict_items (F.args_dict_items_1 _) (meets_dict_items (mixKind X.prog X.w) a hd) ⟨⟨vs, dd⟩, ?_⟩
 refine ⟨.ref s.heap.objs.size, _, I.laid (o := .ext (itemsAt s.heap.objs.size a)) (t' := s.toks) (fun b o e => Heap.get?_push_of_some _ e) (Nat.le_refl _) ?_, rfl, q _ I.fresh⟩
 refine ⟨⟨_, Heap.get?_push_size _ rfl, rfl, rfl⟩, ⟨_, Heap.get?_push_size _ rfl⟩, fun h1 h2 ⟨o, g, c, d⟩ k => ⟨o, k o g, c, d⟩⟩
theorem paired_at {α β : Type} {P : α → β → Prop} : ∀ {xs : List α} {ys : List β}, Paired P xs ys → ∀ {j : Nat} {x : α}, xs[j]? = some x → ∃ y, ys[j]? = some y ∧ P x y
 | _, _, .nil, j, x, h => by simp at h
 | _, _, .cons a b, 0, x, h => by cases h; exact ⟨_, rfl, a⟩
 | _, _, .cons a b, j + 1, x, h => paired_at b (j := j) h
def keyI : Key → Int
 | .inl i => i
 | .inr _ => 0
theorem call_sortV (hc : X.calm = true) : CallR X (.builtin "sorted") (fun xs H Q => ∃ p d kvs, xs = [.ref p] ∧ H p = some (.ext (itemsAt p d)) ∧ H d = some (.dK kvs) ∧ kvs.length < 64 ∧ (∀ kv ∈ kvs, ∃ i, kv.1 = .inl i) ∧
  ∀ (L : List (Addr × (Key × V))) (l : Addr) (H1 : Hp), (L.map (·.2)).Perm kvs → (L.map fun q => keyI q.2.1).Pairwise (· ≤ ·) → (∀ b o, H b = some o → H1 b = some o) → (∀ q ∈ L, H1 q.1 = some (.tup [kV q.2.1, q.2.2])) → H1 l = none → Q (.ref l) (upd H1 l (.lst (L.map fun q => V.ref q.1)))) := by
 intro pins s σ H xs us Q I r h
 obtain ⟨p, d, kvs, rfl, hp, hd, h64, hk, q⟩ := h
 obtain ⟨u, rfl, rx⟩ := vals1 r
 cases rx
 obtain ⟨z, hds, vs, rel, dd⟩ := dk_of I.hok hd
 obtain ⟨ep, da⟩ := dd.dictAt
 have hview : s.heap.IsItemsView p d := (I.hok p _ hp).1
 have vl : vs.length = kvs.length := rel.length.symm
 refine Calls.call_function_entry kind_sorted plain_sorted entry_sorted (args_sorted1 _) ?_
 show wpAny _ _ (do
  checkCount "sorted" 1 1 1
  let __do_lift ← collect (.ref p)
  let l ← newList __do_lift
  let _ ← holding [l] (call (.builtin "list.sort") [l] [])
  ret l) _ _ _
 refine wpAny_bind (wpAny_pure ?_)
 refine wpAny_bind (Sr.collect_items (A := X.A.in1) (I.ok.hd hc) hview da (by rw [vl, sizeLine_eq]; omega) fun h1 bs gt1 keep hl tp nb => ?_)
 obtain ⟨L0, e1, e2⟩ : ∃ L0 : List (Addr × (Key × V)), L0.map (·.1) = bs ∧ L0.map (·.2) = kvs := ⟨bs.zip kvs, List.map_fst_zip (by omega), List.map_snd_zip (by omega)⟩
 have item : ∀ q ∈ L0, ∃ i t x, q.2.1 = .inl i ∧ h1.get? q.1 = some { cls := .type "tuple", data := .seq #[.int i t, x] } ∧ RelV q.2.2 x := fun q hq => by
  obtain ⟨j, hj, ej⟩ := List.getElem_of_mem hq
  have g1 : bs[j]? = some q.1 := by rw [← e1, List.getElem?_map, List.getElem?_eq_getElem hj, ej]; rfl
  have g2 : kvs[j]? = some q.2 := by rw [← e2, List.getElem?_map, List.getElem?_eq_getElem hj, ej]; rfl
  obtain ⟨key, k, x, gt, gv, is⟩ := tp.2 j q.1 g1
  obtain ⟨i, ei⟩ := hk q.2 (List.mem_of_getElem? g2)
  obtain ⟨v', gv', ek, rx⟩ := paired_at rel g2
  rw [gv] at gv'
  cases gv'
  have ek : q.2.1 = k := ek
  rw [ei] at ek
  subst ek
  rcases keyIs_shape (show keyIs (.inl i) key = true from is) with ⟨i', t, a1, a2⟩ | ⟨_, _, a1, _⟩
  ·cases a1
   subst a2
   exact ⟨i, t, x, ei, gt, rx⟩
  ·cases a1
 have isI : ∀ q ∈ L0, Sr.IsI h1 (.ref q.1) (keyI q.2.1) := fun q hq => by
  obtain ⟨i, t, x, ei, gt, _⟩ := item q hq
  rw [ei]
  exact ⟨q.1, _, t, [x], 0, rfl, gt, rfl, rfl⟩
 have eb : bs.map Value.ref = L0.map fun q => Value.ref q.1 := by rw [← e1, List.map_map]; rfl
 have fstL : ∀ M : List (Addr × (Key × V)), (∀ q ∈ M, q ∈ L0) → (M.map fun q => Value.ref q.1).map (Sr.fstI h1) = M.map fun q => keyI q.2.1 := fun M hM => by
  rw [List.map_map]
  exact List.map_congr_left fun q hq => (isI q (hM q hq)).fst
 have ndk : (L0.map fun q => keyI q.2.1).Nodup := by
  have nd : (kvs.map (·.1)).Nodup := by rw [rel.keys]; exact da.nodup
  rw [← e2, List.map_map] at nd
  rw [List.Nodup, List.pairwise_map] at nd ⊢
  refine nd.imp_of_mem fun {a b} ha hb h z => h ?_
  obtain ⟨i, _, _, ei, _⟩ := item a ha
  obtain ⟨i', _, _, ei', _⟩ := item b hb
  show a.2.1 = b.2.1
  rw [ei, ei'] at z ⊢
  have z : i = i' := z
  rw [z]
 rw [eb]
 refine Sr.sort_new (s := { s with heap := h1 }) (by rw [List.length_map, ← List.length_map (f := fun q : Addr × (Key × V) => q.2) , e2]; exact h64) (fun v hv => ?_) (by rw [fstL L0 fun _ h => h]; exact ndk) fun out h' hperm hs k' he => ?_
 ·obtain ⟨q, hq, rfl⟩ := List.mem_map.mp hv
  exact ⟨_, isI q hq⟩
 obtain ⟨L, pL, eL⟩ := Sr.perm_map_inv hperm rfl
 have mL : ∀ q ∈ L, q ∈ L0 := fun q hq => pL.mem_iff.mp hq
 rw [eL, fstL L mL] at hs
 obtain ⟨e, he⟩ := he
 have keep2 : ∀ b o, s.heap.get? b = some o → h'.get? b = some o := fun b o g => k' b o (keep b o g)
 have I1 : Inv X pins σ H { s with heap := h' } := I.kept (t' := s.toks) keep2
 have ge0 : X.s₀.heap.objs.size ≤ s.heap.objs.size := I.sz
 have nbL : ∀ q ∈ L0, s.heap.objs.size ≤ q.1 := fun q hq => nb q.1 (by rw [← e1]; exact List.mem_map.mpr ⟨q, hq, rfl⟩)
 obtain ⟨H1, I2, kH, oH, tH⟩ := Inv.tracks (s := { s with heap := h' }) (L0.map fun q => (q.1, [kV q.2.1, q.2.2])) I1 (by rw [List.map_map]; show (L0.map fun q => q.1).Nodup; rw [e1]; exact tp.1) fun p hp => by
  obtain ⟨q, hq, rfl⟩ := List.mem_map.mp hp
  obtain ⟨i, t, x, ei, gt, rx⟩ := item q hq
  refine ⟨I.fpOk (nbL q hq) (I.hok.fresh (nbL q hq)), Nat.le_trans ge0 (nbL q hq), by show 2 ≤ sizeLine; decide, [.int i t, x], ?_, ⟨_, k' _ _ gt, rfl, 0, rfl⟩⟩
  rw [ei]
  exact .cons ⟨t, rfl⟩ (.cons rx .nil)
 have fa : H h1.objs.size = none := I.hok.fresh (Nat.le_of_lt gt1)
 have fa1 : H1 h1.objs.size = none := by
  rw [oH _ fun m => ?_]
  ·exact fa
  ·rw [List.map_map] at m
   have m : h1.objs.size ∈ bs := by rw [← e1]; exact m
   exact Nat.lt_irrefl _ (tp.lt _ m)
 have lv : Vals (L.map fun q => V.ref q.1) (L.map fun q => Value.ref q.1) := by
  clear eL hs pL mL
  induction L with
  | nil => exact .nil
  | cons q r ih => exact .cons rfl ih
 have I3 := I2.trackT (o1 := .lst (L.map fun q => V.ref q.1)) (I.fpOk (Nat.le_of_lt gt1) fa1) (Nat.le_trans ge0 (Nat.le_of_lt gt1)) ⟨by rw [List.length_map, pL.length_eq, ← List.length_map (f := fun q : Addr × (Key × V) => q.2), e2]; exact z, _, e, lv, by
  dsimp only
  rw [he, ← eL]⟩
 refine ⟨.ref h1.objs.size, _, I3, rfl, q L h1.objs.size H1 ?_ hs kH (fun q hq => tH (q.1, [kV q.2.1, q.2.2]) (List.mem_map.mpr ⟨q, mL q hq, rfl⟩)) fa1⟩
 rw [← e2]
 exact pL.map _
end
end L2
namespace L3
open PySem PySem.Spec L2
section
variable {X : Cx} {E : St → XK}
def itT (kv : Key × T) : T := .tup [kT kv.1, kv.2]
theorem mq_items : MQ X "dict.items" (fun x ts Γ Z => ∃ a kvs, x = .ref a ∧ ts = [] ∧ Γ a = some (.dK kvs) ∧ ∀ p, Γ p = none → Z (.ref p) (up Γ p (.ext (itemsAt p a)))) :=
 ⟨_, mt_items, fun v x vs ts H Γ Q Z r rs hr q0 vr => by
  obtain ⟨a, kvs, ex, et, g, z⟩ := q0
  subst ex et
  obtain ⟨us, hu, q⟩ := hr a _ g
  refine ⟨a, us, i_ref r, rs_inv0 rs, hu, fun p hp => ?_⟩
  exact vr _ _ _ _ (.make hp) (hr.make (o3 := .ext (itemsAt p a)) hp upd_same) r_ref (z p (hr.free hp))⟩
theorem ks_perm {H : Hp} : ∀ {us us' : List (Key × V)}, us'.Perm us → ∀ {ns : List (Key × T)}, Ks H us ns → ∃ ms : List (Key × T), ms.Perm ns ∧ Ks H us' ms := by
 intro us us' p
 induction p with
 | nil => intro ns h; exact ⟨ns, .refl _, h⟩
 | @cons u l1 l2 p ih =>
  intro ns h
  cases h with
  | cons a b =>
   obtain ⟨ms, pm, hm⟩ := ih b
   exact ⟨_ :: ms, pm.cons _, .cons a hm⟩
 | swap u v l =>
  intro ns h
  cases h with
  | cons a b =>
   cases b with
   | cons a2 b2 => exact ⟨_, .swap _ _ _, .cons a2 (.cons a b2)⟩
 | trans p1 p2 ih1 ih2 =>
  intro ns h
  obtain ⟨zs, pz, hz⟩ := ih2 h
  obtain ⟨ws, pw, hw⟩ := ih1 hz
  exact ⟨ws, pw.trans pz, hw⟩
theorem rs_items {H : Hp} : ∀ {L : List (Addr × (Key × V))} {ms : List (Key × T)}, Ks H (L.map (·.2)) ms → (∀ q ∈ L, H q.1 = some (.tup [kV q.2.1, q.2.2])) → Rs H (L.map fun q => V.ref q.1) (ms.map itT) ∧ (L.map fun q => keyI q.2.1) = ms.map fun kv => keyI kv.1
 | [], _, h, _ => by cases h; exact ⟨rs_nil, rfl⟩
 | q :: L, _, h, ht => by
  cases h with
  | @cons _ m _ ms a b =>
   obtain ⟨i1, i2⟩ := rs_items b fun q hq => ht q (by simp [hq])
   have e : q.2.1 = m.1 := a.1
   have rk : R H (kV m.1) (kT m.1) := by
    cases m.1 with
    | inl i => exact r_int
    | inr z => exact r_str
   refine ⟨rs_cons ?_ i1, ?_⟩
   ·have ht1 := ht q (by simp)
    rw [e] at ht1
    exact r_tup ht1 (rs_cons rk (rs_cons a.2 rs_nil))
   ·rw [List.map_cons, List.map_cons, i2, e]
theorem cq_sortV (hc : X.calm = true) : CallQ X (.builtin "sorted") (fun xs Γ Z => ∃ (p d : Addr) (kvs : List (Key × T)), xs = [.ref p] ∧ Γ p = some (.ext (itemsAt p d)) ∧ Γ d = some (.dK kvs) ∧ kvs.length < 64 ∧ (∀ kv ∈ kvs, ∃ i, kv.1 = .inl i) ∧
  ∀ (ms : List (Key × T)) (l : Addr), ms.Perm kvs → (ms.map fun kv => keyI kv.1).Pairwise (· ≤ ·) → Γ l = none → Z (.ref l) (up Γ l (.lst (ms.map itT)))) :=
 ⟨_, call_sortV hc, fun vs xs H Γ Q Z r hr q0 vr => by
  obtain ⟨p, d, kvs, e, gp, gd, h64, hk, z⟩ := q0
  subst e
  obtain ⟨v, rfl, a⟩ := rs1 r
  obtain ⟨us, hu, q⟩ := hr d _ gd
  refine ⟨p, d, us, by rw [i_ref a], hr p _ gp, hu, by rw [q.len]; exact h64, fun kv hkv => ?_, fun L l H1 pL hs kH tL hl => ?_⟩
  ·have : kv.1 ∈ kvs.map (·.1) := by rw [← q.keys]; exact List.mem_map.mpr ⟨_, hkv, rfl⟩
   obtain ⟨kv', m, e⟩ := List.mem_map.mp this
   obtain ⟨i, ei⟩ := hk kv' m
   exact ⟨i, by rw [← e]; exact ei⟩
  ·obtain ⟨ms, pm, hm⟩ := ks_perm pL (q.mono (tq_kp kH))
   obtain ⟨r1, r2⟩ := rs_items hm tL
   rw [r2] at hs
   have hr1 : HR H1 Γ := hr.keep kH
   have k := keep_new (o := .lst (L.map fun q => V.ref q.1)) hl
   exact vr _ _ _ _ ((Stp.keep kH).trans (.make hl)) (hr1.make (o3 := .lst (ms.map itT)) hl ⟨_, upd_same, r1.mono (tq_kp k)⟩) r_ref (z ms l pm hs (hr1.free hl))⟩
end
end L3
set_option Elab.async false
set_option linter.all false
set_option maxRecDepth 100000
namespace L2
open PySem PySem.Spec PyProof.Rows
section
variable {prog : Program} {w : World} {A : Around} {E : Value → Shared → Prop} {s : Shared}
theorem zipN_item {z p r j1 j2 u1 u2 : Addr} {i : Nat} {vs ws : Array Value} {x y a b : Value} {Q : Value → Shared → Prop} (D : Apart z p r j1 j2 u1 u2)
  (hz : IsZip s.heap z p r .none) (hp : IsPair s.heap p (.ref j1) (.ref j2)) (hr : IsPair s.heap r a b)
  (h1 : s.heap.IsListIter j1 u1 i) (h2 : s.heap.IsListIter j2 u2 i) (l1 : s.heap.IsList u1 vs) (l2 : s.heap.IsList u2 ws) (hx : vs[i]? = some x) (hy : ws[i]? = some y)
  (q : ∀ h', IsZip h' z p r (rawInt s.heap.objs.size) → IsPair h' r x y → h'.IsListIter j1 u1 (i + 1) → h'.IsListIter j2 u2 (i + 1) → IsPair h' s.heap.objs.size x y → h'.objs.size = s.heap.objs.size + 1 →
   (∀ c o, c ≠ z → c ≠ r → c ≠ j1 → c ≠ j2 → s.heap.get? c = some o → h'.get? c = some o) → Q (.ref s.heap.objs.size) { s with heap := h' }) :
  wpAny (model prog w) A (Builtin.«zip.__next__» ⟨[.ref z], []⟩) (fun fin s' => ∃ v, fin = .done (.ret v) ∧ Q v s') E s := by
 show wpAny _ _ (field (.ref z) 2 >>= _) _ _ _
 refine wpAny_bind (wpAny_field hz rfl (x := .bool false) rfl ?_)
 show wpAny _ _ (field (.ref z) 3 >>= _) _ _ _
 refine wpAny_bind (wpAny_field hz rfl (x := .ref p) rfl ?_)
 refine wpAny_bind (wpAny_seqItems hp rfl ?_)
 show wpAny _ _ (Builtin.SmallTypes.ownedTupleIsFree (.ref z) >>= _) _ _ _
 refine wpAny_bind ?_
 unfold Builtin.SmallTypes.ownedTupleIsFree
 refine wpAny_bind (wpAny_field hz rfl (x := .none) rfl (wpAny_pure ?_))
 simp only [if_true]
 refine wpAny_bind (wpAny_rule ?_)
 refine wpAny_bind (wpAny_field hz rfl (x := .ref r) rfl ?_)
 refine wpAny_bind (wpAny_setField_rec hz (by simp) fun g1 z1 e1 => ?_)
 replace z1 : IsZip g1 z p r .ellipsis := z1
 refine wpAny_bind ?_
 simp only [List.zipIdx_cons, List.zipIdx_nil, List.forIn_cons, List.forIn_nil]
 refine wpAny_bind (wpAny_bind (wpAny_onRaise ?_))
 show wpAny _ _ (Builtin.SmallTypes.nextOf (.ref j1) >>= _) _ _ _
 refine wpAny_bind (wpAny_nextOf_list_item (h1.extBut e1.extBut D.j1z) (l1.extBut e1.extBut D.u1z) hx fun g2 a2 e2 => wpAny_pure ?_)
 have r2 : IsPair g2 r a b := e2.extBut _ _ D.rj1 (e1.extBut _ _ D.rz hr)
 refine wpAny_bind (wpAny_seqItems r2 rfl ?_)
 refine wpAny_bind (wpAny_updateSeq_pair r2 fun g3 r3 e3 => ?_)
 replace r3 : IsPair g3 r x b := r3
 refine wpAny_bind (wpAny_letGo (wpAny_pure ?_))
 refine wpAny_bind (wpAny_bind (wpAny_onRaise ?_))
 show wpAny _ _ (Builtin.SmallTypes.nextOf (.ref j2) >>= _) _ _ _
 refine wpAny_bind (wpAny_nextOf_list_item (((h2.extBut e1.extBut D.j2z).extBut e2.extBut D.j12.symm).extBut e3.extBut D.rj2.symm) (((l2.extBut e1.extBut D.u2z).extBut e2.extBut D.u2j1).extBut e3.extBut D.u2r) hy fun g4 a4 e4 => wpAny_pure ?_)
 have r4 : IsPair g4 r x b := e4.extBut _ _ D.rj2 r3
 refine wpAny_bind (wpAny_seqItems r4 rfl ?_)
 refine wpAny_bind (wpAny_updateSeq_pair r4 fun g5 r5 e5 => ?_)
 replace r5 : IsPair g5 r x y := r5
 refine wpAny_bind (wpAny_letGo (wpAny_pure (wpAny_pure ?_)))
 refine wpAny_bind (wpAny_seqItems r5 rfl ?_)
 refine wpAny_bind (wpAny_newTuple ?_)
 have sz : g5.objs.size = s.heap.objs.size := by rw [e5.1, e4.1, e3.1, e2.1, e1.1]
 have z5 : IsZip g5 z p r .ellipsis := e5.extBut _ _ D.rz.symm (e4.extBut _ _ D.j2z.symm (e3.extBut _ _ D.rz.symm (e2.extBut _ _ D.j1z.symm z1)))
 have k5 : ∀ c o, c ≠ z → c ≠ r → c ≠ j1 → c ≠ j2 → s.heap.get? c = some o → g5.get? c = some o := fun c o n1 n2 n3 n4 e =>
  e5.extBut _ _ n2 (e4.extBut _ _ n4 (e3.extBut _ _ n2 (e2.extBut _ _ n3 (e1.extBut _ _ n1 e))))
 have b1 : g5.IsListIter j1 u1 (i + 1) := ((a2.extBut e3.extBut D.rj1.symm).extBut e4.extBut D.j12).extBut e5.extBut D.rj1.symm
 have b2 : g5.IsListIter j2 u2 (i + 1) := a4.extBut e5.extBut D.rj2.symm
 have zl : z < g5.objs.size := Heap.lt_size z5
 show wpAny _ _ (Builtin.SmallTypes.ownedTupleHandOut (.ref z) (.ref g5.objs.size) >>= _) _ _ _
 refine wpAny_bind ?_
 unfold Builtin.SmallTypes.ownedTupleHandOut
 have z6 : IsZip (g5.push { cls := .type "tuple", data := .seq #[x, y] }) z p r .ellipsis := Heap.get?_push_of_some _ z5
 refine wpAny_bind (wpAny_setField_rec z6 (by simp) fun g7 z7 e7 => ?_)
 replace z7 : IsZip g7 z p r (rawInt g5.objs.size) := z7
 refine wpAny_setField_rec z7 (by simp) fun g8 z8 e8 => ?_
 replace z8 : IsZip g8 z p r (rawInt g5.objs.size) := z8
 have up : ∀ c o, c ≠ z → g5.get? c = some o → g8.get? c = some o := fun c o n1 e => e8.extBut _ _ n1 (e7.extBut _ _ n1 (Heap.get?_push_of_some _ e))
 have t8 : IsPair g8 g5.objs.size x y := e8.extBut _ _ (Nat.ne_of_gt zl) (e7.extBut _ _ (Nat.ne_of_gt zl) (Heap.get?_push_size _ rfl))
 have s8 : g8.objs.size = g5.objs.size + 1 := by rw [e8.1, e7.1, Heap.size_push]
 rw [sz] at z8 t8 s8
 refine wpAny_pure ⟨_, rfl, ?_⟩
 show Q (.ref g5.objs.size) _
 rw [sz]
 exact q g8 z8 (up _ _ D.rz r5) (b1.at fun o e => up _ o D.j1z e) (b2.at fun o e => up _ o D.j2z e) t8 s8 fun c o n1 n2 n3 n4 e => up c o n1 (k5 c o n1 n2 n3 n4 e)
theorem zipN_end {z p r j1 j2 u1 u2 : Addr} {i : Nat} {vs ws : Array Value} {a b : Value} {Q : Fin → Shared → Prop} (hh : A.handled = none) (D : Apart z p r j1 j2 u1 u2)
  (hz : IsZip s.heap z p r .none) (hp : IsPair s.heap p (.ref j1) (.ref j2)) (hr : IsPair s.heap r a b)
  (h1 : s.heap.IsListIter j1 u1 i) (h2 : s.heap.IsListIter j2 u2 i) (l1 : s.heap.IsList u1 vs) (l2 : s.heap.IsList u2 ws) (hend : vs[i]? = none ∨ ws[i]? = none)
  (q : ∀ h' e, (∀ c o, c ≠ z → c ≠ r → c ≠ j1 → c ≠ j2 → s.heap.get? c = some o → h'.get? c = some o) → (∃ o, h'.get? e = some o ∧ o.cls = .type "StopIteration") → E (.ref e) { s with heap := h' }) :
  wpAny (model prog w) A (Builtin.«zip.__next__» ⟨[.ref z], []⟩) Q E s := by
 show wpAny _ _ (field (.ref z) 2 >>= _) _ _ _
 refine wpAny_bind (wpAny_field hz rfl (x := .bool false) rfl ?_)
 show wpAny _ _ (field (.ref z) 3 >>= _) _ _ _
 refine wpAny_bind (wpAny_field hz rfl (x := .ref p) rfl ?_)
 refine wpAny_bind (wpAny_seqItems hp rfl ?_)
 show wpAny _ _ (Builtin.SmallTypes.ownedTupleIsFree (.ref z) >>= _) _ _ _
 refine wpAny_bind ?_
 unfold Builtin.SmallTypes.ownedTupleIsFree
 refine wpAny_bind (wpAny_field hz rfl (x := .none) rfl (wpAny_pure ?_))
 simp only [if_true]
 refine wpAny_bind (wpAny_rule ?_)
 refine wpAny_bind (wpAny_field hz rfl (x := .ref r) rfl ?_)
 refine wpAny_bind (wpAny_setField_rec hz (by simp) fun g1 z1 e1 => ?_)
 replace z1 : IsZip g1 z p r .ellipsis := z1
 refine wpAny_bind ?_
 simp only [List.zipIdx_cons, List.zipIdx_nil, List.forIn_cons, List.forIn_nil]
 refine wpAny_bind (wpAny_bind (wpAny_onRaise ?_))
 show wpAny _ _ (Builtin.SmallTypes.nextOf (.ref j1) >>= _) _ _ _
 cases hx : vs[i]? with
 | none =>
  refine wpAny_bind (wpAny_nextOf_list_end hh (h1.extBut e1.extBut D.j1z) (l1.extBut e1.extBut D.u1z) hx fun g2 e e2 he => ?_)
  obtain ⟨oe, he1, he2⟩ := he
  have z2 : IsZip g2 z p r .ellipsis := e2 _ _ D.j1z.symm z1
  have nez : e ≠ z := fun x => by subst x; rw [z2] at he1; cases he1; simp at he2
  refine wpAny_setField_rec z2 (by simp) fun g3 _ e3 => q g3 e (fun c o n1 _ n3 _ x => e3.extBut _ _ n1 (e2 _ _ n3 (e1.extBut _ _ n1 x))) ⟨oe, e3.extBut _ _ nez he1, he2⟩
 | some x =>
  have hy : ws[i]? = none := by rcases hend with h | h; rw [hx] at h; cases h; exact h
  refine wpAny_bind (wpAny_nextOf_list_item (h1.extBut e1.extBut D.j1z) (l1.extBut e1.extBut D.u1z) hx fun g2 a2 e2 => wpAny_pure ?_)
  have r2 : IsPair g2 r a b := e2.extBut _ _ D.rj1 (e1.extBut _ _ D.rz hr)
  refine wpAny_bind (wpAny_seqItems r2 rfl ?_)
  refine wpAny_bind (wpAny_updateSeq_pair r2 fun g3 r3 e3 => ?_)
  refine wpAny_bind (wpAny_letGo (wpAny_pure ?_))
  refine wpAny_bind (wpAny_bind (wpAny_onRaise ?_))
  show wpAny _ _ (Builtin.SmallTypes.nextOf (.ref j2) >>= _) _ _ _
  refine wpAny_bind (wpAny_nextOf_list_end hh (((h2.extBut e1.extBut D.j2z).extBut e2.extBut D.j12.symm).extBut e3.extBut D.rj2.symm) (((l2.extBut e1.extBut D.u2z).extBut e2.extBut D.u2j1).extBut e3.extBut D.u2r) hy fun g4 e e4 he => ?_)
  obtain ⟨oe, he1, he2⟩ := he
  have z4 : IsZip g4 z p r .ellipsis := e4 _ _ D.j2z.symm (e3.extBut _ _ D.rz.symm (e2.extBut _ _ D.j1z.symm z1))
  have nez : e ≠ z := fun x => by subst x; rw [z4] at he1; cases he1; simp at he2
  refine wpAny_setField_rec z4 (by simp) fun g5 _ e5 => q g5 e (fun c o n1 n2 n3 n4 x => e5.extBut _ _ n1 (e4 _ _ n4 (e3.extBut _ _ n2 (e2.extBut _ _ n3 (e1.extBut _ _ n1 x))))) ⟨oe, e5.extBut _ _ nez he1, he2⟩
end
def Itn (K : PySem.W.Frag) (a b : Addr) : It :=
  ⟨fun i H => ∃ xs ys x y, SqL K H a xs ∧ SqL K H b ys ∧ xs[i]? = some x ∧ ys[i]? = some y,
   fun i H v H' => ∃ p x y, H p = none ∧ v = .ref p ∧ H' = upd H p (.tup [x, y]) ∧ (∀ xs, SqL K H a xs → xs[i]? = some x) ∧ (∀ ys, SqL K H b ys → ys[i]? = some y),
   fun i H => ∃ xs ys, SqL K H a xs ∧ SqL K H b ys ∧ (xs.length ≤ i ∨ ys.length ≤ i)⟩
theorem turn_zipN {P : Program} {w : World} {K : PySem.W.Frag} {elts : List Expr} {kk : Nat} {pos : Pos} (a b z p r j1 j2 : Addr) (D : Apart z p r j1 j2 a b) :
  Turn P w K (.Tuple elts kk pos) (Itn K a b) [z, p, r, j1, j2] z (fun i h => IsZip h z p r .none ∧ IsPair h p (.ref j1) (.ref j2) ∧ (∃ u v, IsPair h r u v) ∧ h.IsListIter j1 a i ∧ h.IsListIter j2 b i) where
 mem := by simp
 obj := fun i h st c hc => by
  obtain ⟨hz, hp, ⟨u, v, hr⟩, ⟨o1, e1, _, d1⟩, ⟨o2, e2, _, d2⟩⟩ := st
  simp only [List.mem_cons, List.not_mem_nil, or_false] at hc
  rcases hc with rfl | rfl | rfl | rfl | rfl
  ·exact ⟨_, hz, fun v z => by have z' : Data.fields _ = Data.cell v := z; cases z'⟩
  ·exact ⟨_, hp, fun v z => by have z' : Data.seq _ _ = Data.cell v := z; cases z'⟩
  ·exact ⟨_, hr, fun v z => by have z' : Data.seq _ _ = Data.cell v := z; cases z'⟩
  ·exact ⟨o1, e1, fun v z => by rw [d1] at z; cases z⟩
  ·exact ⟨o2, e2, fun v z => by rw [d2] at z; cases z⟩
 keep := fun i h h' st k => by
  obtain ⟨hz, hp, ⟨u, v, hr⟩, h1, h2⟩ := st
  exact ⟨k z (by simp) _ hz, k p (by simp) _ hp, ⟨u, v, k r (by simp) _ hr⟩, h1.at fun o e => k j1 (by simp) o e, h2.at fun o e => k j2 (by simp) o e⟩
 item := by
  intro X hP hw hK hc i pins s σ H E I hf st hg
  subst hP hw hK
  obtain ⟨hz, hp, ⟨u, v, hr⟩, h1, h2⟩ := st
  obtain ⟨xs, ys, x, y, hxs, hys, hx, hy⟩ := hg
  obtain ⟨its, rv, pl, _⟩ := I.list hxs
  obtain ⟨its2, rv2, pl2, _⟩ := I.list hys
  obtain ⟨vx, ex, rx⟩ := rv.get hx
  obtain ⟨vy, ey, ry⟩ := rv2.get hy
  have hT : s.TypeIs (.ref z) "zip" := ⟨_, hz, rfl⟩
  have n0 : H s.heap.objs.size = none := I.hok.fresh (Nat.le_refl _)
  unfold pyNext
  refine wpAny_bind (wpAny_attempt (wpAny_callSpecial?_slot (name := Str.ofString "__next__") hT F.slot_zip_next (wpAny_call_entry F.slot_zip_next hT F.entry_zip_next
   (zipN_item D hz hp hr h1 h2 pl.isList pl2.isList (by simpa using ex) (by simpa using ey) fun g a1 a2 a3 a4 a5 a6 a7 => wpAny_pure ?_) (F.args_zip_next_1 _))))
  refine ⟨_, rfl, ?_⟩
  refine wpAny_letOwnedTupleGo_zip a1 fun g2 b1 b2 => ?_
  have zl : z < s.heap.objs.size := Heap.lt_size hz
  have lt : ∀ c ∈ [z, p, r, j1, j2], c < s.heap.objs.size := fun c hc => by
   simp only [List.mem_cons, List.not_mem_nil, or_false] at hc
   obtain ⟨_, q1, _⟩ := h1
   obtain ⟨_, q2, _⟩ := h2
   rcases hc with rfl | rfl | rfl | rfl | rfl
   ·exact zl
   ·exact Heap.lt_size hp
   ·exact Heap.lt_size hr
   ·exact Heap.lt_size q1
   ·exact Heap.lt_size q2
  refine ⟨.ref s.heap.objs.size, upd H s.heap.objs.size (.tup [x, y]), ?_, rfl, ⟨_, x, y, n0, rfl, rfl, fun zs hzs => by rw [I.list_inj hzs hxs]; exact hx, fun zs hzs => by rw [I.list_inj hzs hys]; exact hy⟩, ⟨b1, ?_, ⟨vx, vy, ?_⟩, ?_, ?_⟩, fun c hc => ?_⟩
  ·refine I.turnedNew (t' := s.toks) (ch := [z, r, j1, j2]) (fun c o hc e => ?_) (fun c hc => hf c ?_) (Nat.le_refl _) ⟨by show 2 ≤ sizeLine; decide, [vx, vy], .cons rx (.cons ry .nil), ?_⟩
   ·simp only [List.mem_cons, List.not_mem_nil, or_false, not_or] at hc
    exact b2.extBut _ _ hc.1 (a7 c o hc.1 hc.2.1 hc.2.2.1 hc.2.2.2 e)
   ·simp only [List.mem_cons, List.not_mem_nil, or_false] at hc ⊢
    rcases hc with rfl | rfl | rfl | rfl <;> simp
   ·exact ⟨_, b2.extBut _ _ (Nat.ne_of_gt zl) a5, rfl, 0, rfl⟩
  ·exact b2.extBut _ _ D.pz (a7 _ _ D.pz D.pr D.pj1 D.pj2 hp)
  ·exact b2.extBut _ _ D.rz a2
  ·exact a3.extBut b2.extBut D.j1z
  ·exact a4.extBut b2.extBut D.j2z
  ·rw [upd_ne (Nat.ne_of_lt (lt c hc))]
   exact (hf c hc).1
 done := by
  intro X hP hw hK hc i pins s σ H E I hf st hg
  subst hP hw hK
  obtain ⟨hz, hp, ⟨u, v, hr⟩, h1, h2⟩ := st
  obtain ⟨xs, ys, hxs, hys, he⟩ := hg
  obtain ⟨its, rv, pl, _⟩ := I.list hxs
  obtain ⟨its2, rv2, pl2, _⟩ := I.list hys
  have l1 := rv.length
  have l2 := rv2.length
  have hend : its.toArray[i]? = none ∨ its2.toArray[i]? = none := he.imp (fun e => by simp; omega) (fun e => by simp; omega)
  have hT : s.TypeIs (.ref z) "zip" := ⟨_, hz, rfl⟩
  unfold pyNext
  refine wpAny_bind (wpAny_attempt (wpAny_callSpecial?_slot (name := Str.ofString "__next__") hT F.slot_zip_next (wpAny_call_entry F.slot_zip_next hT F.entry_zip_next
   (zipN_end (I.ok.hd hc) D hz hp hr h1 h2 pl.isList pl2.isList hend fun g e kk he => ?_) (F.args_zip_next_1 _))))
  obtain ⟨o, ho, hcl⟩ := he
  refine wpAny_bind (wpAny_isInstance (T := "StopIteration") (b := true) ⟨o, ho, hcl⟩ isSubtype_stop ?_)
  refine wpAny_pure ⟨rfl, I.turnedAll (t' := s.toks) (ch := [z, r, j1, j2]) (fun c o hc e => ?_) (fun c hc => hf c ?_)⟩
  ·simp only [List.mem_cons, List.not_mem_nil, or_false, not_or] at hc
   exact kk c o hc.1 hc.2.1 hc.2.2.1 hc.2.2.2 e
  ·simp only [List.mem_cons, List.not_mem_nil, or_false] at hc ⊢
   rcases hc with rfl | rfl | rfl | rfl <;> simp
 self := fun _ _ _ _ _ st h => wpAny_pyIter_zip st.1 h
abbrev nH1 (h : Heap) (a : Addr) : Heap := h.push { cls := .type "list_iterator", data := .fields #[.ref a, .int 0 0] }
abbrev nH2 (h : Heap) (a b : Addr) : Heap := (nH1 h a).push { cls := .type "list_iterator", data := .fields #[.ref b, .int 0 0] }
abbrev nH3 (h : Heap) (a b : Addr) : Heap := (nH2 h a b).push { cls := .type "tuple", data := .seq #[.ref h.objs.size, .ref (nH1 h a).objs.size] }
abbrev nH4 (h : Heap) (a b : Addr) : Heap := (nH3 h a b).push { cls := .type "tuple", data := .seq #[.none, .none] }
abbrev nH5 (h : Heap) (a b : Addr) : Heap := (nH4 h a b).push { cls := .type "zip", data := .fields #[.none, .bool false, .bool false, .ref (nH2 h a b).objs.size, .ref (nH3 h a b).objs.size] }
theorem zipN_new (a b : Addr) (vs ws : Array Value) :
  Meets (Builtin.«zip.__new__» ⟨[.type "zip", .ref a, .ref b], []⟩) (fun _ R s => s.heap.IsList a vs ∧ s.heap.IsList b ws ∧ R (.ok (.ret (.ref (nH4 s.heap a b).objs.size))) { s with heap := nH5 s.heap a b }) :=
 .of_wp fun prog w A R s h => by
  obtain ⟨hp, g, d, tk, os⟩ := s; obtain ⟨la, lb, h⟩ := h
  have hsub := sub_zip
  have L1 : Heap.IsList (Shared.heap ⟨hp, g, d, tk, os⟩) a vs := la
  have L2 : Heap.IsList (Shared.heap ⟨hp.push { cls := .type "list_iterator", data := .fields #[.ref a, .int 0 0] }, g, d, tk, os⟩) b ws := Heap.IsList.push lb _
  wp_walk using wpAny_pyIter_list L1, wpAny_pyIter_list L2
  exact ⟨_, rfl, h⟩
theorem call_zipN {prog : Program} {w : World} {A : Around} {E : Value → Shared → Prop} {s : Shared} {a b : Addr} {vs ws : Array Value} {Q : Value → Shared → Prop} (la : s.heap.IsList a vs) (lb : s.heap.IsList b ws)
  (q : ∀ h', IsZip h' (s.heap.objs.size + 4) (s.heap.objs.size + 2) (s.heap.objs.size + 3) .none → IsPair h' (s.heap.objs.size + 2) (.ref s.heap.objs.size) (.ref (s.heap.objs.size + 1)) →
   IsPair h' (s.heap.objs.size + 3) .none .none → h'.IsListIter s.heap.objs.size a 0 → h'.IsListIter (s.heap.objs.size + 1) b 0 → (∀ c o, s.heap.get? c = some o → h'.get? c = some o) → Q (.ref (s.heap.objs.size + 4)) { s with heap := h' }) :
  wpAny (model prog w) A (call (.type "zip") [.ref a, .ref b]) Q E s := by
 refine callType_new F.called_zip (by decide) (F.typeCall_zip_2 _ _) (F.newCall_zip_2 _ _) (fun obj => F.args_object_init_3 obj _ _) F.entry_zip_new (zipN_new a b vs ws) ⟨la, lb, ?_⟩
 have z1 : (nH1 s.heap a).objs.size = s.heap.objs.size + 1 := Heap.size_push ..
 have z2 : (nH2 s.heap a b).objs.size = s.heap.objs.size + 2 := by rw [Heap.size_push, z1]
 have z3 : (nH3 s.heap a b).objs.size = s.heap.objs.size + 3 := by rw [Heap.size_push, z2]
 have z4 : (nH4 s.heap a b).objs.size = s.heap.objs.size + 4 := by rw [Heap.size_push, z3]
 have g5 : (nH5 s.heap a b).get? (nH4 s.heap a b).objs.size = some _ := Heap.get?_push_size _ rfl
 have g4 : (nH5 s.heap a b).get? (nH3 s.heap a b).objs.size = some _ := Heap.get?_push_of_some _ (Heap.get?_push_size _ rfl)
 have g3 : (nH5 s.heap a b).get? (nH2 s.heap a b).objs.size = some _ := Heap.get?_push_of_some _ (Heap.get?_push_of_some _ (Heap.get?_push_size _ rfl))
 have g2 : (nH5 s.heap a b).get? (nH1 s.heap a).objs.size = some _ := Heap.get?_push_of_some _ (Heap.get?_push_of_some _ (Heap.get?_push_of_some _ (Heap.get?_push_size _ rfl)))
 have g1 : (nH5 s.heap a b).get? s.heap.objs.size = some _ := Heap.get?_push_of_some _ (Heap.get?_push_of_some _ (Heap.get?_push_of_some _ (Heap.get?_push_of_some _ (Heap.get?_push_size _ rfl))))
 show _ ∧ _
 rw [z2, z3, z4] at g5
 rw [z1, z2] at g3
 rw [z3] at g4
 rw [z1] at g2
 rw [z4]
 exact ⟨⟨_, g5, rfl⟩, q _ g5 g3 g4 ⟨_, g1, rfl, rfl⟩ ⟨_, g2, rfl, rfl⟩ fun c o x => Heap.get?_push_of_some _ (Heap.get?_push_of_some _ (Heap.get?_push_of_some _ (Heap.get?_push_of_some _ (Heap.get?_push_of_some _ x))))⟩
section
variable {X : Cx} {elts : List Expr} {kk : Nat} {tpos : Pos}
def iZipN (K : PySem.W.Frag) (ta : TA) : TI := fun σ H R => ta σ H fun vs H1 => ∃ a b xs ys, vs = [.ref a, .ref b] ∧ SqL K H1 a xs ∧ SqL K H1 b ys ∧ R (Itn K a b) H1
theorem pi_zipN {a b : Expr} {ta : TA} {p pos : Pos} (hg : Gl X "zip") (hm : X.mg "zip" = none) (ha : PA X [a, b] ta) (hs : starEach [a, b] X.env = [(false, eval a X.env), (false, eval b X.env)] := by rfl) (hs2 : starEach [b] X.env = [(false, eval b X.env)] := by rfl) :
  PI X (.Tuple elts kk tpos) (.Call (.Name "zip" p) [a, b] [] pos) (iZipN X.K ta) := by
 refine .mk ?_
 intro pins s σ H R I h
 refine Call_ (ld_blt I hg hm boot_zip (PyProof.Rows.callWith_type1 (thn (ha pos pins s σ H _ I h) fun us s1 ⟨vs, H1, I1, r1, q1⟩ => ?_) (by rw [hs, hs2]) (by rw [hs2]; rfl)))
 obtain ⟨u1, u2, xs, ys, e, hx, hy, q⟩ := q1
 subst e
 cases r1 with
 | cons r rr =>
  cases rr with
  | cons r' rr =>
   cases rr
   cases r
   cases r'
   obtain ⟨its, rv, pl, _⟩ := I1.list hx
   obtain ⟨its2, rv2, pl2, _⟩ := I1.list hy
   obtain ⟨o1, e1, _⟩ := pl.isList
   obtain ⟨o2, e2, _⟩ := pl2.isList
   refine call_zipN pl.isList pl2.isList fun h' hz hp hr j1 j2 k => ?_
   refine wpAny_pyIter_zip hz ?_
   refine ⟨s1.heap.objs.size + 4, [s1.heap.objs.size + 4, s1.heap.objs.size + 2, s1.heap.objs.size + 3, s1.heap.objs.size, s1.heap.objs.size + 1], _, _, H1, rfl, I1.kept (t' := s1.toks) k, turn_zipN u1 u2 _ _ _ _ _ (apart_new (Heap.lt_size e1) (Heap.lt_size e2)), ⟨hz, hp, ⟨_, _, hr⟩, j1, j2⟩, fun c hc => ?_, q⟩
   have hc' : s1.heap.objs.size ≤ c := by
    simp only [List.mem_cons, List.not_mem_nil, or_false] at hc
    rcases hc with rfl | rfl | rfl | rfl | rfl <;> first | exact Nat.le_refl _ | exact Nat.le_add_right _ _
   exact I1.fpOk hc' (I1.hok.fresh hc')
end
end L2
namespace L3
open PySem PySem.Spec L2
open PyProof.Rows hiding St
section
variable {X : Cx} {E : St → XK} {p pos : Pos}
def iZn (ta : A3) : I3 := fun Y τ Γ Z => ta Y τ Γ fun xs Γ1 => ∃ a b ts us, xs = [.ref a, .ref b] ∧ Γ1 a = some (.lst ts) ∧ Γ1 b = some (.lst us) ∧ Z (zipT ts us) (fun Γ' => Γ' a = some (.lst ts) ∧ Γ' b = some (.lst us)) Γ1
theorem walk_zipN {K : PySem.W.Frag} {H : Hp} {a b : Addr} {ts us : List T} : Walks (Itn K a b) (zipT ts us) (fun Γ' => Γ' a = some (.lst ts) ∧ Γ' b = some (.lst us)) H where
 go := fun i H' Γ t hr g hi => by
  rw [zipT_len] at hi
  obtain ⟨vs, ha, q⟩ := hr a _ g.1
  obtain ⟨ws, hb, q'⟩ := hr b _ g.2
  exact ⟨vs, ws, vs[i]'(by rw [q.length]; omega), ws[i]'(by rw [q'.length]; omega), SqL.of ha, SqL.of hb, by simp, by simp⟩
 yld := fun i H' Γ v H2 t hr g hi q0 => by
  obtain ⟨vs, ha, q⟩ := hr a _ g.1
  obtain ⟨ws, hb, q'⟩ := hr b _ g.2
  obtain ⟨p, x, y, hp, e1, e2, y1, y2⟩ := q0
  subst e1 e2
  obtain ⟨t1, f1, r1⟩ := q.getV (y1 vs (SqL.of ha))
  obtain ⟨t2, f2, r2⟩ := q'.getV (y2 ws (SqL.of hb))
  have k := keep_new (o := .tup [x, y]) hp
  exact ⟨.keep k, hr.keep k, _, zipT_get f1 f2, r_tup upd_same (rs_cons (r1.mono (tq_kp k)) (rs_cons (r2.mono (tq_kp k)) rs_nil))⟩
 stop := fun H' Γ t hr g => by
  obtain ⟨vs, ha, q⟩ := hr a _ g.1
  obtain ⟨ws, hb, q'⟩ := hr b _ g.2
  exact ⟨vs, ws, SqL.of ha, SqL.of hb, by rw [zipT_len, q.length, q'.length]; omega⟩
theorem qi_zipN {a b : Expr} {ta : A3} {elts : List Expr} {kk : Nat} {tpos : Pos} (hg : Gl X "zip") (hm : X.mg "zip" = none) (ha : PA X [a, b] (liA E ta)) (hs : starEach [a, b] X.env = [(false, eval a X.env), (false, eval b X.env)] := by rfl) (hs2 : starEach [b] X.env = [(false, eval b X.env)] := by rfl) :
  PI X (.Tuple elts kk tpos) (.Call (.Name "zip" p) [a, b] [] pos) (liI E (iZn ta)) :=
 weakI3 (pi_zipN hg hm ha hs hs2) fun σ H Q τ Γ Y Z rs hr t vr xr => ⟨τ, Γ, Y, _, rs, hr, t, fun vs xs H1 Γ1 s1 h1 r1 ⟨a, b, ts, us, ex, ga, gb, z⟩ => by
  subst ex
  obtain ⟨v, w, rfl, ra, rb⟩ := rs2 r1
  obtain ⟨vs, ha, qa⟩ := h1 _ _ ga
  obtain ⟨ws, hb, qb⟩ := h1 _ _ gb
  rw [i_ref ra, i_ref rb]
  exact ⟨a, b, vs, ws, rfl, SqL.of ha, SqL.of hb, vr _ _ _ H1 Γ1 s1 h1 walk_zipN z⟩, xr⟩
def iOr (i1 i2 : I3) : I3 := fun Y τ Γ Z => i1 Y τ Γ Z ∨ i2 Y τ Γ Z
theorem qi_or {tg e : Expr} {i1 i2 : I3} (h1 : PI X tg e (liI E i1)) (h2 : PI X tg e (liI E i2)) : PI X tg e (liI E (iOr i1 i2)) := by
 refine .mk fun pins s σ H R I h => ?_
 obtain ⟨τ, Γ, Y, Z, rs, hr, q, r⟩ := h
 rcases q with q | q
 ·exact h1.run pins s σ H R I ⟨τ, Γ, Y, Z, rs, hr, q, r⟩
 ·exact h2.run pins s σ H R I ⟨τ, Γ, Y, Z, rs, hr, q, r⟩
end
end L3
set_option Elab.async false
set_option linter.all false
set_option maxRecDepth 100000
namespace Tg
open PySem L2 L3
mutual
def Kd.tr : Kd → T
 | .num w => .tup [.str "num", .int w]
 | .text => .tup [.str "text"]
 | .row k => .tup [.str "row", k.tr]
 | .rec_ fs => .tup [.str "rec", .tup (trF fs)]
 | .pick fs => .tup [.str "pick", .tup (trF fs)]
def trF : List (Str × Kd) → List T
 | [] => []
 | (n, k) :: r => .tup [.str n, k.tr] :: trF r
end
end Tg
namespace Tg
open PySem L2 L3
end Tg
namespace Tg
open PySem L2 L3
end Tg
set_option Elab.async false
set_option linter.all false
set_option maxRecDepth 100000
namespace Tg
open PySem L2 L3
inductive Ap : List T → List T → Prop
 | here {p q : T} {r s : List T} (h : p ≠ q) : Ap (p :: r) (q :: s)
 | there {p : T} {r s : List T} (h : Ap r s) : Ap (p :: r) (p :: s)
theorem Ap.symm : ∀ {c o : List T}, Ap c o → Ap o c
 | _, _, .here h => .here (Ne.symm h)
 | _, _, .there h => .there h.symm
end Tg
set_option Elab.async false
set_option linter.all false
set_option maxRecDepth 100000
namespace Tg
open PySem L2 L3
def vx : T → V
 | .int i => .int i
 | .str z => .str z
 | _ => .non
end Tg
set_option Elab.async false
set_option linter.all false
set_option maxRecDepth 100000
namespace Tg
open PySem L2 L3
def isTp : T → Bool
 | .tup _ => true
 | _ => false
mutual
def dT : T → Nat
 | .tup us => 1 + (us.filter isTp).length + dL us
 | _ => 0
def dL : List T → Nat
 | [] => 0
 | t :: r => max (dT t) (dL r)
end
end Tg
set_option Elab.async false
set_option linter.all false
set_option maxRecDepth 100000
namespace Sto
abbrev Gap := Int × Int
abbrev Blk := Int × Int × Int
def GSep : List Gap → Int → Prop
 | [], _ => True
 | g :: r, lo => lo < g.1 ∧ g.1 < g.2 ∧ GSep r g.2
def InG (G : List Gap) (x : Int) : Prop := ∃ g ∈ G, g.1 ≤ x ∧ x < g.2
def Free (size : Int) (B : List Blk) (x : Int) : Prop := 1 ≤ x ∧ x ≤ size ∧ ∀ q ∈ B, ¬ (q.1 ≤ x ∧ x < q.1 + q.2.1)
structure SI (size : Int) (B : List Blk) (G : List Gap) : Prop where
 sep : GSep G 0
 fr : ∀ x, InG G x ↔ Free size B x
 pos : ∀ q ∈ B, 1 ≤ q.1 ∧ 1 ≤ q.2.1 ∧ q.1 + q.2.1 ≤ size + 1
 dis : B.Pairwise fun p q => p.1 + p.2.1 ≤ q.1 ∨ q.1 + q.2.1 ≤ p.1
def Fits (size : Int) (B : List Blk) (at_ many : Int) : Prop := at_ + many - 1 ≤ size ∧ ∀ q ∈ B, ¬ (at_ < q.1 + q.2.1 ∧ q.1 < at_ + many)
theorem GSep.weak {lo lo' : Int} (h : lo' ≤ lo) : ∀ {G : List Gap}, GSep G lo → GSep G lo'
 | [], _ => trivial
 | _ :: _, ⟨a, b, c⟩ => ⟨by omega, b, c⟩
theorem GSep.mem : ∀ {G : List Gap} {lo : Int} {g : Gap}, GSep G lo → g ∈ G → lo < g.1 ∧ g.1 < g.2
 | x :: r, lo, g, ⟨a, b, c⟩, h => by
  rcases List.mem_cons.mp h with rfl | h
  ·exact ⟨a, b⟩
  ·have := GSep.mem c h
   exact ⟨by omega, this.2⟩
theorem GSep.endN : ∀ {G : List Gap} {lo : Int} {g : Gap}, GSep G lo → g ∈ G → ¬ InG G g.2
 | x :: r, lo, g, ⟨a, b, c⟩, h => by
  rintro ⟨k, hk, k1, k2⟩
  rcases List.mem_cons.mp h with rfl | h
  ·rcases List.mem_cons.mp hk with rfl | hk
   ·omega
   ·have := GSep.mem c hk; omega
  ·have hg := GSep.mem c h
   rcases List.mem_cons.mp hk with rfl | hk
   ·omega
   ·exact GSep.endN c h ⟨k, hk, k1, k2⟩
theorem GSep.predN : ∀ {G : List Gap} {lo : Int} {g : Gap}, GSep G lo → g ∈ G → ¬ InG G (g.1 - 1)
 | x :: r, lo, g, ⟨a, b, c⟩, h => by
  rintro ⟨k, hk, k1, k2⟩
  rcases List.mem_cons.mp h with rfl | h
  ·rcases List.mem_cons.mp hk with rfl | hk
   ·omega
   ·have := GSep.mem c hk; omega
  ·have hg := GSep.mem c h
   rcases List.mem_cons.mp hk with rfl | hk
   ·omega
   ·exact GSep.predN c h ⟨k, hk, k1, k2⟩
def GE : List Gap → Int → Int
 | [], lo => lo
 | g :: r, _ => GE r g.2
theorem GSep.app : ∀ {L M : List Gap} {lo : Int}, GSep (L ++ M) lo ↔ GSep L lo ∧ GSep M (GE L lo)
 | [], M, lo => ⟨fun h => ⟨trivial, h⟩, fun h => h.2⟩
 | g :: r, M, lo => by
  show (lo < g.1 ∧ g.1 < g.2 ∧ GSep (r ++ M) g.2) ↔ (lo < g.1 ∧ g.1 < g.2 ∧ GSep r g.2) ∧ GSep M (GE r g.2)
  rw [GSep.app]
  exact ⟨fun ⟨a, b, c, d⟩ => ⟨⟨a, b, c⟩, d⟩, fun ⟨⟨a, b, c⟩, d⟩ => ⟨a, b, c, d⟩⟩
theorem GE.ge : ∀ {L : List Gap} {lo : Int}, GSep L lo → lo ≤ GE L lo ∧ ∀ g ∈ L, g.2 ≤ GE L lo
 | [], lo, _ => ⟨Int.le_refl _, fun _ h => nomatch h⟩
 | g :: r, lo, ⟨a, b, c⟩ => by
  obtain ⟨h1, h2⟩ := GE.ge c
  have e : GE (g :: r) lo = GE r g.2 := rfl
  rw [e]
  refine ⟨by omega, fun k hk => ?_⟩
  rcases List.mem_cons.mp hk with rfl | hk
  ·exact h1
  ·exact h2 k hk
theorem GE.le : ∀ {L : List Gap} {lo b : Int}, lo < b → (∀ g ∈ L, g.2 < b) → GE L lo < b
 | [], lo, b, h, _ => h
 | g :: r, lo, b, h, hL => by
  show GE r g.2 < b
  exact GE.le (hL g (by simp)) fun k hk => hL k (by simp [hk])
theorem GSep.mid {L R : List Gap} {g : Gap} {lo : Int} (h : GSep (L ++ g :: R) lo) : (∀ l ∈ L, l.2 < g.1) ∧ (∀ r ∈ R, g.2 < r.1) ∧ GSep L lo ∧ lo < g.1 ∧ g.1 < g.2 ∧ GSep R g.2 := by
 obtain ⟨a, b, c, d⟩ := GSep.app.mp h
 obtain ⟨g0, g1⟩ := GE.ge a
 exact ⟨fun l hl => by have := g1 l hl; omega, fun r hr => (GSep.mem d hr).1, a, by omega, c, d⟩
theorem GSep.join {L R : List Gap} {lo b e : Int} (a : GSep L lo) (h0 : lo < b) (hL : ∀ l ∈ L, l.2 < b) (be : b < e) (d : GSep R e) : GSep (L ++ (b, e) :: R) lo := GSep.app.mpr ⟨a, GE.le h0 hL, be, d⟩
theorem GSep.join2 {L R : List Gap} {lo e : Int} (a : GSep L lo) (h0 : lo < e) (hL : ∀ l ∈ L, l.2 < e) (d : GSep R e) : GSep (L ++ R) lo := GSep.app.mpr ⟨a, d.weak (Int.le_of_lt (GE.le h0 hL))⟩
section
variable {size : Int} {B : List Blk} {G : List Gap}
theorem SI.size_ge (h : SI size B G) {g : Gap} (m : g ∈ G) : 1 ≤ g.1 ∧ g.1 < g.2 ∧ g.2 ≤ size + 1 := by
 obtain ⟨a, b⟩ := GSep.mem h.sep m
 have := ((h.fr (g.2 - 1)).mp ⟨g, m, by omega, by omega⟩).2.1
 exact ⟨by omega, b, by omega⟩
theorem Fits.gap (h : SI size B G) {at_ many : Int} (a1 : 1 ≤ at_) (m1 : 1 ≤ many) (f : Fits size B at_ many) : ∃ g ∈ G, g.1 ≤ at_ ∧ at_ + many ≤ g.2 := by
 have fr : ∀ x, at_ ≤ x → x < at_ + many → InG G x := fun x x1 x2 => (h.fr x).mpr ⟨by omega, by have := f.1; omega, fun q hq => fun ⟨q1, q2⟩ => f.2 q hq ⟨by omega, by omega⟩⟩
 obtain ⟨g, hg, g1, g2⟩ := fr at_ (Int.le_refl _) (by omega)
 refine ⟨g, hg, g1, ?_⟩
 by_cases c : at_ + many ≤ g.2
 ·exact c
 ·exact absurd (fr g.2 (by omega) (by omega)) (GSep.endN h.sep hg)
theorem fits_of (h : SI size B G) {at_ many : Int} {g : Gap} (hg : g ∈ G) (g1 : g.1 ≤ at_) (m1 : 1 ≤ many) (g2 : at_ + many ≤ g.2) : Fits size B at_ many := by
 refine ⟨?_, fun q hq => fun ⟨q1, q2⟩ => ?_⟩
 ·have := ((h.fr (at_ + many - 1)).mp ⟨g, hg, by omega, by omega⟩).2.1
  omega
 ·have hp := h.pos q hq
  by_cases c : at_ ≤ q.1
  ·exact ((h.fr q.1).mp ⟨g, hg, by omega, by omega⟩).2.2 q hq ⟨by omega, by omega⟩
  ·exact ((h.fr at_).mp ⟨g, hg, by omega, by omega⟩).2.2 q hq ⟨by omega, by omega⟩
theorem no_place (h : SI size B G) {many : Int} (m1 : 1 ≤ many) (no : ∀ g ∈ G, g.2 - g.1 < many) (at_ : Int) (a1 : 1 ≤ at_) : ¬ Fits size B at_ many := fun f => by
 obtain ⟨g, hg, g1, g2⟩ := f.gap h a1 m1
 have := no g hg
 omega
theorem the_place (h : SI size B G) {many b e : Int} {L R : List Gap} (eG : G = L ++ (b, e) :: R) (m1 : 1 ≤ many) (no : ∀ g ∈ L, g.2 - g.1 < many) (yes : many ≤ e - b) :
  (b = 1 ∨ ∃ q ∈ B, b = q.1 + q.2.1) ∧ Fits size B b many ∧ ∀ at_, 1 ≤ at_ → Fits size B at_ many → b ≤ at_ := by
 have mg : (b, e) ∈ G := by rw [eG]; simp
 have sz := h.size_ge mg
 refine ⟨?_, fits_of h mg (Int.le_refl _) m1 (by show b + many ≤ e; omega), fun at_ a1 f => ?_⟩
 ·by_cases c : b = 1
  ·exact .inl c
  right
  have hn := GSep.predN h.sep mg
  have hf : Free size B b := (h.fr b).mp ⟨_, mg, Int.le_refl _, sz.2.1⟩
  have hnf : ¬ Free size B (b - 1) := fun z => hn ((h.fr _).mpr z)
  have : ∃ q ∈ B, q.1 ≤ b - 1 ∧ b - 1 < q.1 + q.2.1 := by
   apply Classical.byContradiction
   intro hc
   refine hnf ⟨?_, ?_, fun q hq hz => hc ⟨q, hq, hz⟩⟩
   ·have : 1 ≤ b := sz.1
    omega
   ·have := hf.2.1; omega
  obtain ⟨q, hq, q1, q2⟩ := this
  refine ⟨q, hq, ?_⟩
  have := hf.2.2 q hq
  by_cases c2 : b < q.1 + q.2.1
  ·exact absurd ⟨by omega, c2⟩ this
  ·omega
 ·obtain ⟨g, hg, g1, g2⟩ := f.gap h a1 m1
  rw [eG] at hg
  rcases List.mem_append.mp hg with hg | hg
  ·have := no g hg; omega
  rcases List.mem_cons.mp hg with rfl | hg
  ·exact g1
  ·have sp := h.sep
   rw [eG] at sp
   have := (GSep.mid sp).2.1 g hg
   have : e < g.1 := this
   have : b < e := sz.2.1
   omega
theorem InG.app {L M : List Gap} {x : Int} : InG (L ++ M) x ↔ InG L x ∨ InG M x := by
 constructor
 ·rintro ⟨g, hg, h⟩
  rcases List.mem_append.mp hg with hg | hg
  ·exact .inl ⟨g, hg, h⟩
  ·exact .inr ⟨g, hg, h⟩
 ·rintro (⟨g, hg, h⟩ | ⟨g, hg, h⟩)
  ·exact ⟨g, List.mem_append_left _ hg, h⟩
  ·exact ⟨g, List.mem_append_right _ hg, h⟩
theorem InG.cons {g : Gap} {M : List Gap} {x : Int} : InG (g :: M) x ↔ (g.1 ≤ x ∧ x < g.2) ∨ InG M x := by
 constructor
 ·rintro ⟨k, hk, h⟩
  rcases List.mem_cons.mp hk with rfl | hk
  ·exact .inl h
  ·exact .inr ⟨k, hk, h⟩
 ·rintro (h | ⟨k, hk, h⟩)
  ·exact ⟨g, by simp, h⟩
  ·exact ⟨k, by simp [hk], h⟩
theorem free_snoc {q : Blk} {x : Int} : Free size (B ++ [q]) x ↔ Free size B x ∧ ¬ (q.1 ≤ x ∧ x < q.1 + q.2.1) := by
 constructor
 ·rintro ⟨a, b, c⟩
  exact ⟨⟨a, b, fun p hp => c p (by simp [hp])⟩, c q (by simp)⟩
 ·rintro ⟨⟨a, b, c⟩, d⟩
  refine ⟨a, b, fun p hp => ?_⟩
  rcases List.mem_append.mp hp with hp | hp
  ·exact c p hp
  ·rw [List.mem_singleton.mp hp]; exact d
def restG (b many e : Int) : List Gap := if b + many < e then [(b + many, e)] else []
theorem SI.take (h : SI size B G) {many b e hand : Int} {L R : List Gap} (eG : G = L ++ (b, e) :: R) (m1 : 1 ≤ many) (yes : many ≤ e - b) : SI size (B ++ [(b, many, hand)]) (L ++ restG b many e ++ R) := by
 have mg : (b, e) ∈ G := by rw [eG]; simp
 have sz := h.size_ge mg
 have sz1 : 1 ≤ b := sz.1
 have sz2 : e ≤ size + 1 := sz.2.2
 have fit : Fits size B b many := fits_of h mg (Int.le_refl _) m1 (by show b + many ≤ e; omega)
 have sp := h.sep
 rw [eG] at sp
 obtain ⟨hL, hR, sL, _, be, sR⟩ := GSep.mid sp
 have hL : ∀ l ∈ L, l.2 < b := hL
 have hR : ∀ r ∈ R, e < r.1 := hR
 have be : b < e := be
 have sR : GSep R e := sR
 refine ⟨?_, fun x => ?_, fun q hq => ?_, ?_⟩
 ·unfold restG
  split
  ·rw [List.append_assoc]
   exact GSep.join sL (by omega) (fun l hl => by have := hL l hl; omega) (by omega) sR
  ·rw [List.append_nil]
   exact GSep.join2 sL (by omega) (fun l hl => by have := hL l hl; omega) sR
 ·rw [free_snoc, ← h.fr x, eG, InG.app, InG.app, InG.app, InG.cons]
  have hx : InG (restG b many e) x ↔ (b + many ≤ x ∧ x < e) := by
   unfold restG
   split
   ·exact ⟨fun ⟨k, hk, z⟩ => by rw [List.mem_singleton.mp hk] at z; exact z, fun z => ⟨(b + many, e), by simp, z⟩⟩
   ·exact ⟨fun ⟨k, hk, z⟩ => (nomatch hk), fun z => by omega⟩
  rw [hx]
  constructor
  ·rintro ((⟨l, hl, z⟩ | z) | ⟨r, hr, z⟩)
   ·exact ⟨.inl ⟨l, hl, z⟩, by show ¬ (b ≤ x ∧ x < b + many); have := hL l hl; omega⟩
   ·exact ⟨.inr (.inl ⟨by show b ≤ x; omega, z.2⟩), by show ¬ (b ≤ x ∧ x < b + many); omega⟩
   ·exact ⟨.inr (.inr ⟨r, hr, z⟩), by show ¬ (b ≤ x ∧ x < b + many); have := hR r hr; omega⟩
  ·rintro ⟨z | z | z, n⟩
   ·exact .inl (.inl z)
   ·have n : ¬ (b ≤ x ∧ x < b + many) := n
    have z : b ≤ x ∧ x < e := z
    exact .inl (.inr (by omega))
   ·exact .inr z
 ·rcases List.mem_append.mp hq with hq | hq
  ·exact h.pos q hq
  ·rw [List.mem_singleton.mp hq]; exact ⟨sz1, m1, by show b + many ≤ size + 1; omega⟩
 ·rw [List.pairwise_append]
  refine ⟨h.dis, List.pairwise_singleton _ _, fun p hp q hq => ?_⟩
  rw [List.mem_singleton.mp hq]
  have := fit.2 p hp
  show p.1 + p.2.1 ≤ b ∨ b + many ≤ p.1
  omega
theorem SI.sides (h : SI size B G) {q : Blk} (hq : q ∈ B) {L R : List Gap} (eG : G = L ++ R) (hL : ∀ l ∈ L, l.1 < q.1) (hR : ∀ r ∈ R, q.1 ≤ r.1) : (∀ l ∈ L, l.2 ≤ q.1) ∧ ∀ r ∈ R, q.1 + q.2.1 ≤ r.1 := by
 have hp := h.pos q hq
 refine ⟨fun l hl => ?_, fun r hr => ?_⟩
 ·have ml : l ∈ G := by rw [eG]; exact List.mem_append_left _ hl
  have := hL l hl
  by_cases c : l.2 ≤ q.1
  ·exact c
  ·exact absurd ⟨Int.le_refl _, by omega⟩ (((h.fr q.1).mp ⟨l, ml, by omega, by omega⟩).2.2 q hq)
 ·have mr : r ∈ G := by rw [eG]; exact List.mem_append_right _ hr
  have := hR r hr
  have rr := GSep.mem h.sep mr
  have := ((h.fr r.1).mp ⟨r, mr, Int.le_refl _, rr.2⟩).2.2 q hq
  omega
theorem SI.give (h : SI size B G) {B1 B2 : List Blk} {q : Blk} (eB : B = B1 ++ q :: B2) {L R : List Gap} {b e : Int} (hG : ∀ x, InG G x ∨ (q.1 ≤ x ∧ x < q.1 + q.2.1) ↔ InG (L ++ (b, e) :: R) x) (sL : GSep L 0) (sR : GSep R e) (b0 : 0 < b) (hL : ∀ l ∈ L, l.2 < b) (be : b < e) :
  SI size (B1 ++ B2) (L ++ (b, e) :: R) := by
 have hq : q ∈ B := by rw [eB]; simp
 have hp := h.pos q hq
 have ds := h.dis
 rw [eB, List.pairwise_append, List.pairwise_cons] at ds
 obtain ⟨d1, ⟨d2, d3⟩, d4⟩ := ds
 have dq : ∀ p ∈ B1 ++ B2, p.1 + p.2.1 ≤ q.1 ∨ q.1 + q.2.1 ≤ p.1 := fun p hp => by
  rcases List.mem_append.mp hp with hp | hp
  ·exact d4 p hp q (by simp)
  ·have := d2 p hp; omega
 refine ⟨GSep.join sL b0 hL be sR, fun x => ?_, fun p hp => h.pos p (by rw [eB]; rcases List.mem_append.mp hp with hp | hp <;> simp [hp]), ?_⟩
 ·rw [← hG x, h.fr x]
  constructor
  ·rintro (⟨x1, x2, x3⟩ | ⟨x1, x2⟩)
   ·exact ⟨x1, x2, fun p hp => x3 p (by rw [eB]; rcases List.mem_append.mp hp with hp | hp <;> simp [hp])⟩
   ·refine ⟨by omega, by omega, fun p hp => ?_⟩
    have := dq p hp
    omega
  ·rintro ⟨x1, x2, x3⟩
   by_cases c : q.1 ≤ x ∧ x < q.1 + q.2.1
   ·exact .inr c
   ·refine .inl ⟨x1, x2, fun p hp => ?_⟩
    rw [eB] at hp
    rcases List.mem_append.mp hp with hp | hp
    ·exact x3 p (List.mem_append_left _ hp)
    ·rcases List.mem_cons.mp hp with rfl | hp
     ·exact c
     ·exact x3 p (List.mem_append_right _ hp)
 ·rw [List.pairwise_append]
  exact ⟨d1, d3, fun p hp r hr => d4 p hp r (by simp [hr])⟩
theorem SI.init {size : Int} (h : 1 ≤ size) : SI size [] [(1, size + 1)] := by
 refine ⟨⟨by show (0 : Int) < 1; decide, by show 1 < size + 1; omega, trivial⟩, fun x => ?_, fun q hq => (nomatch hq), .nil⟩
 constructor
 ·rintro ⟨g, hg, g1, g2⟩
  rw [List.mem_singleton.mp hg] at g1 g2
  exact ⟨g1, by have : x < size + 1 := g2; omega, fun q hq => (nomatch hq)⟩
 ·rintro ⟨x1, x2, _⟩
  exact ⟨(1, size + 1), by simp, x1, by show x < size + 1; omega⟩
theorem wid_r {L R : List Gap} {b e : Int} (sep : GSep (L ++ R) 0) (sR : ∀ r ∈ R, e ≤ r.1) (be : b < e) :
  ∃ (R' : List Gap) (e' : Int), ((∃ R2, R = (e, e') :: R2 ∧ R' = R2) ∨ (R' = R ∧ e' = e ∧ ∀ g r, R = g :: r → g.1 ≠ e)) ∧ (GSep R' e' ∧ ∀ x, InG R x ∨ (b ≤ x ∧ x < e) ↔ InG R' x ∨ (b ≤ x ∧ x < e')) ∧ e ≤ e' := by
 obtain ⟨_, sr⟩ := GSep.app.mp sep
 cases R with
 | nil => exact ⟨[], e, .inr ⟨rfl, rfl, fun g r h => (nomatch h)⟩, ⟨trivial, fun x => Iff.rfl⟩, Int.le_refl _⟩
 | cons g r =>
  obtain ⟨h1, h2, h3⟩ := sr
  by_cases c : g.1 = e
  ·refine ⟨r, g.2, .inl ⟨r, ?_, rfl⟩, ⟨h3, fun x => ?_⟩, by omega⟩
   ·rw [← c]
   ·rw [InG.cons]
    constructor
    ·rintro ((z | z) | z)
     ·exact .inr (by omega)
     ·exact .inl z
     ·exact .inr (by omega)
    ·rintro (z | z)
     ·exact .inl (.inr z)
     ·by_cases d : x < e
      ·exact .inr ⟨z.1, d⟩
      ·exact .inl (.inl ⟨by omega, z.2⟩)
  ·refine ⟨g :: r, e, .inr ⟨rfl, rfl, fun g' r' h => by cases h; exact c⟩, ⟨⟨?_, h2, h3⟩, fun x => Iff.rfl⟩, Int.le_refl _⟩
   have := sR g (by simp)
   omega
theorem wid_l {L R : List Gap} {b : Int} (sep : GSep (L ++ R) 0) (sL : ∀ l ∈ L, l.2 ≤ b) (b0 : 0 < b) :
  ∃ (L' : List Gap) (b' : Int), ((L = L' ++ [(b', b)]) ∨ (L' = L ∧ b' = b ∧ ∀ L2 g, L = L2 ++ [g] → g.2 ≠ b)) ∧ (GSep L' 0 ∧ ∀ e' x, b < e' → (InG L x ∨ (b ≤ x ∧ x < e') ↔ InG L' x ∨ (b' ≤ x ∧ x < e'))) ∧ b' ≤ b ∧ 0 < b' ∧ ∀ l ∈ L', l.2 < b' := by
 obtain ⟨sl, _⟩ := GSep.app.mp sep
 rcases List.eq_nil_or_concat L with e | ⟨L2, g, e⟩
 ·subst e
  exact ⟨[], b, .inr ⟨rfl, rfl, fun L2 g h => by simp at h⟩, ⟨trivial, fun e' x _ => Iff.rfl⟩, Int.le_refl _, b0, fun l h => (nomatch h)⟩
 rw [List.concat_eq_append] at e
 subst e
 obtain ⟨m1, m2, m3, m4, m5, m6⟩ := GSep.mid sl
 have gb := sL g (by simp)
 by_cases c : g.2 = b
 ·refine ⟨L2, g.1, .inl (by rw [← c]), ⟨m3, fun e' x be => ?_⟩, by omega, m4, m1⟩
  rw [InG.app, InG.cons]
  constructor
  ·rintro ((z | z | ⟨_, z, _⟩) | z)
   ·exact .inl z
   ·exact .inr (by omega)
   ·cases z
   ·exact .inr (by omega)
  ·rintro (z | z)
   ·exact .inl (.inl z)
   ·by_cases d : x < b
    ·exact .inl (.inr (.inl (by omega)))
    ·exact .inr (by omega)
 ·refine ⟨L2 ++ [g], b, .inr ⟨rfl, rfl, fun L3 g3 h => ?_⟩, ⟨sl, fun e' x _ => Iff.rfl⟩, Int.le_refl _, b0, fun l hl => ?_⟩
  ·have := List.append_inj' h rfl
   cases this.2
   exact c
  ·rcases List.mem_append.mp hl with hl | hl
   ·have := m1 l hl; omega
   ·rw [List.mem_singleton.mp hl]; omega
theorem GSep.len : ∀ {G : List Gap} {lo M : Int}, GSep G lo → (∀ g ∈ G, g.2 ≤ M) → lo ≤ M → (G.length : Int) ≤ M - lo
 | [], lo, M, _, _, h => by simp; omega
 | g :: r, lo, M, ⟨a, b, c⟩, hM, h => by
  have hg := hM g (by simp)
  have := GSep.len c (fun k hk => hM k (by simp [hk])) hg
  rw [List.length_cons]
  omega
theorem SI.glen {size : Int} {B : List Blk} {G : List Gap} (h : SI size B G) (s : 1 ≤ size) : (G.length : Int) ≤ size + 1 := by
 have := h.sep.len (M := size + 1) (fun g hg => (h.size_ge hg).2.2) (by omega)
 omega
theorem SI.diff {size : Int} {B1 B2 : List Blk} {q : Blk} {G : List Gap} (h : SI size (B1 ++ q :: B2) G) : ∀ p ∈ B1 ++ B2, p.1 ≠ q.1 := fun p hp e => by
 have hq := h.pos q (by simp)
 have hpp := h.pos p (by rcases List.mem_append.mp hp with hp | hp <;> simp [hp])
 have ds := h.dis
 rw [List.pairwise_append, List.pairwise_cons] at ds
 obtain ⟨d1, ⟨d2, d3⟩, d4⟩ := ds
 rcases List.mem_append.mp hp with hp | hp
 ·have := d4 p hp q (by simp); omega
 ·have := d2 p hp; omega
theorem GSep.mono : ∀ {G : List Gap} {lo : Int} {i j : Nat} {g k : Gap}, GSep G lo → i < j → G[i]? = some g → G[j]? = some k → g.1 < k.1
 | x :: r, lo, 0, j + 1, g, k, ⟨a, b, c⟩, h, hi, hj => by
  cases hi
  have hk : k ∈ r := List.mem_of_getElem? (by simpa using hj)
  have := GSep.mem c hk
  omega
 | x :: r, lo, i + 1, j + 1, g, k, ⟨a, b, c⟩, h, hi, hj => GSep.mono (i := i) (j := j) c (by omega) (by simpa using hi) (by simpa using hj)
end
end Sto
set_option Elab.async false
set_option linter.all false
set_option maxRecDepth 100000
set_option maxHeartbeats 4000000
namespace Tg
open PySem L2 L3 Sto
def top (i : Nat) : Stmt := PySem.Challenge.pw_tonguegate_k16_given_back.main.body.getD i (.Pass ⟨0, 0, 0, 0⟩)
def mem (i j : Nat) : Stmt := match top i with
 | .ClassDef _ _ _ b _ _ _ _ _ _ _ => b.getD j (.Pass ⟨0, 0, 0, 0⟩)
 | _ => .Pass ⟨0, 0, 0, 0⟩
local macro_rules | `(tactic| and_intros) => `(tactic| repeat (first
 | with_reducible refine t_seq ?_ | with_reducible refine t_if ?_ | with_reducible refine t_op ?_ | with_reducible refine t_T ?_ | with_reducible refine t_c ?_
 | ((with_reducible apply t_var); exact rfl) | with_reducible refine t_set ?_ | with_reducible refine t_ret ?_ | with_reducible refine t_retN ?_ | with_reducible refine t_drop ?_ | with_reducible refine t_next ?_ | with_reducible refine t_cnt ?_
 | with_reducible refine t_ix0 ?_ | with_reducible refine t_ix1 ?_ | with_reducible refine t_J ?_ | with_reducible refine t_eqS ?_ | with_reducible refine t_eqI ?_ | with_reducible refine t_neS ?_ | with_reducible refine t_neI ?_ | with_reducible refine t_bl ?_
 | with_reducible refine t_band ?_ | with_reducible refine t_bor ?_ | with_reducible refine t_bnot ?_ | with_reducible refine t_and ?_ | with_reducible refine t_or ?_ | with_reducible refine t_not ?_ | with_reducible refine t_eif ?_
 | with_reducible refine t_cons ?_ | with_reducible refine t_nil ?_ | with_reducible refine t_tup ?_ | with_reducible refine t_lst ?_ | with_reducible refine t_call ?_ | with_reducible refine t_callX ?_ | with_reducible refine t_cb ?_
 | with_reducible refine t_bm ?_ | with_reducible refine t_bm0 ?_ | with_reducible refine t_inst ?_ | with_reducible refine t_tru ?_ | with_reducible refine t_asg ?_ | with_reducible refine t_hn ?_ | ((with_reducible refine t_ht ?_ ?_); exact rfl) | with_reducible refine t_hc ?_ | with_reducible refine t_h0 ?_ | with_reducible refine t_hs ?_
 | with_reducible refine t_un ?_ | with_reducible refine t_neg ?_ | with_reducible refine t_sl ?_ | with_reducible refine t_on ?_ | with_reducible refine t_os ?_ | with_reducible refine t_oi ?_ | with_reducible refine t_rev ?_ | with_reducible refine t_for ?_ | with_reducible refine t_itp ?_ | with_reducible refine t_tp ?_ | with_reducible refine t_comp ?_ | with_reducible refine t_bt ?_ | with_reducible refine t_raise ?_ | with_reducible refine t_rg1 ?_ | with_reducible refine t_zp ?_ | with_reducible refine t_en ?_ | with_reducible refine t_ils ?_ | with_reducible refine t_ist ?_ | with_reducible refine t_str ?_
 | with_reducible refine t_2i ?_ | ((with_reducible apply t_ixR); (first | assumption | exact up_same); (first | exact at0 | exact at1)) | ((with_reducible apply t_hsub); (first | assumption | exact up_same); exact rfl)
 | with_reducible refine And.intro (rfl : T.non = T.non) ?_ | with_reducible refine t_try ?_ | with_reducible refine t_lz ?_ | with_reducible refine t_e0 ?_ | with_reducible refine t_chain ?_ | ((with_reducible apply t_inT); exact rfl; exact rfl; exact rfl) | with_reducible refine t_tyS ?_ | with_reducible refine t_1t ?_ | with_reducible refine t_2t ?_ | with_reducible refine t_eqSI ?_ | with_reducible refine t_eqIS ?_ | with_reducible refine t_neSI ?_ | with_reducible refine t_neIS ?_ | with_reducible refine t_gT ?_ | with_reducible refine t_lenT ?_
 | with_reducible refine t_fld ?_ | ((with_reducible apply t_fldR); (first | assumption | exact up_same); exact rfl) | with_reducible refine t_sfld ?_ | ((with_reducible apply t_sfldR); (first | assumption | exact up_same); exact rfl) | with_reducible refine t_sfa ?_ | ((with_reducible apply t_sfaR); (first | assumption | exact up_same); exact rfl) | ((with_reducible apply t_sfaE); (first | assumption | exact up_same); exact rfl)
 | with_reducible refine t_meth ?_ | ((with_reducible apply t_methR); (first | assumption | exact up_same); exact rfl) | with_reducible refine t_make ?_ | with_reducible refine t_fs ?_ | with_reducible refine t_jc ?_ | with_reducible refine t_fm ?_
 | ((with_reducible refine t_len ?_ ?_); exact rfl)
 | ((with_reducible refine t_I ?_ ?_); (first | exact ⟨by decide, by decide, by decide⟩ | exact ⟨by decide, by decide⟩ | exact Or.inl ⟨by decide, by decide⟩ | exact Or.inr ⟨by decide, by decide⟩ | ((show (0 : Int) < _); decide)))
 | ((with_reducible refine c_ifT ?_ ?_); (first | exact rfl | decide +kernel)) | ((with_reducible refine c_ifF ?_ ?_); (first | exact rfl | decide +kernel))))
theorem rngT_cons {lo : Int} {n : Nat} {x : T} {r : List T} (h : x :: r = rngT lo n) : ∃ m, n = m + 1 ∧ x = .int lo ∧ r = rngT (lo + 1) m := by
 cases n with
 | zero => cases h
 | succ m => cases h; exact ⟨m, rfl, rfl, rfl⟩
theorem rngT_nil {lo : Int} {n : Nat} (h : [] = rngT lo n) : n = 0 := by
 cases n with
 | zero => rfl
 | succ m => cases h
theorem al_g {Γ G : Gp} {p : Addr} {o : O} (e : up Γ p o = G) : G p = some o := (congrFun e p).symm.trans up_same
theorem al_l {Γ G : Gp} {p : Addr} {o : O} (e : up Γ p o = G) (hp : Γ p = none) : Le Γ G := e ▸ .new hp
inductive Pt (Γ : Gp) : T → Prop
 | non : Pt Γ .non
 | bl (b : Bool) : Pt Γ (.bl b)
 | int (i : Int) : Pt Γ (.int i)
 | str {z : Str} (l : z.length ≤ 1000) : Pt Γ (.str z)
 | tup {ts : List T} (l : ts.length ≤ 999) (h : ∀ t ∈ ts, Pt Γ t) : Pt Γ (.tup ts)
 | lst {a : Addr} {ts : List T} (g : Γ a = some (.lst ts)) : Pt Γ (.ref a)
 | dct {a : Addr} {kvs : List (Key × T)} (g : Γ a = some (.dK kvs)) : Pt Γ (.ref a)
theorem Pt.mono {Γ Γ' : Gp} (l : Le Γ Γ') {t : T} (h : Pt Γ t) : Pt Γ' t := by
 induction h with
 | non => exact .non
 | bl b => exact .bl b
 | int i => exact .int i
 | str l => exact .str l
 | tup l _ ih => exact .tup l ih
 | lst g => exact .lst (l _ _ g)
 | dct g => exact .dct (l _ _ g)
theorem Pt.items {Γ : Gp} {ts : List T} (h : Pt Γ (.tup ts)) : ts.length ≤ 999 ∧ ∀ t ∈ ts, Pt Γ t := by
 cases h with
 | tup l h => exact ⟨l, h⟩
def isTup : T → Bool | .tup _ => true | _ => false
def isStr : T → Bool | .str _ => true | _ => false
def isInt : T → Bool | .int _ => true | .bl _ => true | _ => false
def isBl : T → Bool | .bl _ => true | _ => false
section
variable {K : PySem.W.Frag} {Γ : Gp} {t : T}
theorem ty_lst {a : Addr} {ts : List T} (g : Γ a = some (.lst ts)) : tyOf Γ (.ref a) = some "list" := by
 show (match Γ a with | some (.lst _) => some "list" | some (.dK _) => some "dict" | _ => none) = _
 rw [g]
theorem ty_dct {a : Addr} {ts : List (Key × T)} (g : Γ a = some (.dK ts)) : tyOf Γ (.ref a) = some "dict" := by
 show (match Γ a with | some (.lst _) => some "list" | some (.dK _) => some "dict" | _ => none) = _
 rw [g]
theorem in_tup (h : Pt Γ t) : ∃ n, tyOf Γ t = some n ∧ PySem.W.kitOne K (.type n) (.type "tuple") = some (isTup t) := by
 cases h with
 | lst g => exact ⟨_, ty_lst g, rfl⟩
 | dct g => exact ⟨_, ty_dct g, rfl⟩
 | _ => exact ⟨_, rfl, rfl⟩
theorem in_str (h : Pt Γ t) : ∃ n, tyOf Γ t = some n ∧ PySem.W.kitOne K (.type n) (.type "str") = some (isStr t) := by
 cases h with
 | lst g => exact ⟨_, ty_lst g, rfl⟩
 | dct g => exact ⟨_, ty_dct g, rfl⟩
 | _ => exact ⟨_, rfl, rfl⟩
theorem in_int (h : Pt Γ t) : ∃ n, tyOf Γ t = some n ∧ PySem.W.kitOne K (.type n) (.type "int") = some (isInt t) := by
 cases h with
 | lst g => exact ⟨_, ty_lst g, rfl⟩
 | dct g => exact ⟨_, ty_dct g, rfl⟩
 | _ => exact ⟨_, rfl, rfl⟩
theorem in_bl (h : Pt Γ t) : ∃ n, tyOf Γ t = some n ∧ PySem.W.kitOne K (.type n) (.type "bool") = some (isBl t) := by
 cases h with
 | lst g => exact ⟨_, ty_lst g, rfl⟩
 | dct g => exact ⟨_, ty_dct g, rfl⟩
 | _ => exact ⟨_, rfl, rfl⟩
theorem t_in {Ty : String} {B : T → Bool} {Q : Bool → Prop} (h : ∃ n, tyOf Γ t = some n ∧ PySem.W.kitOne K (.type n) (.type Ty) = some (B t)) (q : Q (B t)) : ∃ n b, tyOf Γ t = some n ∧ PySem.W.kitOne K (.type n) (.type Ty) = some b ∧ Q b := by
 obtain ⟨n, a, b⟩ := h
 exact ⟨n, _, a, b, q⟩
end
theorem rs_of_ints {H : Hp} : ∀ ns : List Int, Rs H (ns.map V.int) (ns.map T.int)
 | [] => rs_nil
 | n :: r => rs_cons r_int (rs_of_ints r)
def BagAt (Γ : Gp) (a : Addr) (c : Nat) : Prop := ∃ b0 b1 b2 : Int, Γ a = some (.lst [.int b0, .int b1, .int b2]) ∧ 0 ≤ b1 ∧ b1 < 2147483647 ∧ 0 ≤ b2 ∧ b2 + c ≤ 1000000000
theorem BagAt.kq {Γ Γ' : Gp} {a : Addr} {c : Nat} {l : List Addr} (h : BagAt Γ a c) (f : Kq l Γ Γ') (n : a ∉ l) : BagAt Γ' a c := by
 obtain ⟨b0, b1, b2, e, r⟩ := h
 exact ⟨b0, b1, b2, f a _ n e, r⟩
theorem BagAt.le {Γ Γ' : Gp} {a : Addr} {c : Nat} (h : BagAt Γ a c) (f : Le Γ Γ') : BagAt Γ' a c := h.kq (l := []) f.kq (by simp)
theorem BagAt.nn {Γ : Gp} {a p : Addr} {c : Nat} (h : BagAt Γ a c) (n : Γ p = none) : p ≠ a := by
 obtain ⟨b0, b1, b2, e, r⟩ := h
 exact (gnn e n).symm
theorem BagAt.less {Γ : Gp} {a : Addr} {c d : Nat} (h : BagAt Γ a c) (l : d ≤ c) : BagAt Γ a d := by
 obtain ⟨b0, b1, b2, e, r0, r1, r2, r3⟩ := h
 exact ⟨b0, b1, b2, e, r0, r1, r2, by omega⟩
section
variable {P : Program} {w : World} {K : PySem.W.Frag} {mg : Str → Option Value} {base : Heap} {f : Addr} {fd : FuncData}
abbrev s_wall : Stmt := top 0
abbrev s_law_cell_at : Stmt := top 18
theorem sc_law_cell_at : FnScope ["script", "k"] ["script", "k"] (defScope s_law_cell_at) := ⟨rfl, rfl, rfl, by decide +kernel, rfl, by decide +kernel, by decide +kernel⟩
def spCe (K : PySem.W.Frag) : Sp3 := fun ts Γ Z _ => ∃ (a : Addr) (ns : List Int) (k : Int), ts = [.scr K a (ns.map T.int), .int k] ∧ 0 ≤ k ∧ ∀ c : Int, Z (.int c) Γ
theorem ok_cell3 (F : Fun K "_law_cell_at" "_law_cell_at" s_law_cell_at f fd) (z_len : mg "len" = none) : FnOk P w K mg base CX0 1 f fd ["script", "k"] (liSp (spCe K)) := by
 refine okd F sc_law_cell_at (fun ts Γ Z Y h => ?_) (fun cdv A outer s H E ts Γ Z Y hr h => ?_)
 ·obtain ⟨a, ns, k, rfl, _⟩ := h
  rfl
 obtain ⟨a, ns, k, rfl, k0, q⟩ := h
 refine ⟨_, (qss_cons (qs_if (qt_cmpR oq_lt (qv 1) (qe_callB cq_lenC rfl z_len PySem.boot_len (qa_cons (qv 0) qa_nil)) (nomark _)) (qss_cons (qs_ret (qe_ixC (qv 0) (qv 1) (fun _ _ => rfl)))
  qss_nil) qss_nil)
  (qss_cons (qs_ret qe_int)
  qss_nil)), ?_⟩
 simp only [start3]
 and_intros
 refine ⟨a, _, rfl, ?_⟩
 and_intros
 refine c_if (fun c => ?_) (fun c => ?_)
 ·have c := of_decide_eq_true c
  rw [List.length_map] at c
  and_intros
  obtain ⟨j, rfl⟩ : ∃ j : Nat, k = j := ⟨k.toNat, by omega⟩
  have hk : j < ns.length := by omega
  have e : atI (ns.map T.int) (j : Int) = some (.int ns[j]) := atI_nat (by simp [hk])
  refine ⟨a, _, _, _, rfl, rfl, e, ?_⟩
  exact drop0 .refl (q _)
 ·and_intros
  exact drop0 .refl (q _)
abbrev s_law_bag : Stmt := top 19
theorem sc_law_bag : FnScope ["cell", "place", "start"] ["cell", "place"] (defScope s_law_bag) := ⟨rfl, rfl, rfl, by decide +kernel, rfl, by decide +kernel, by decide +kernel⟩
def spBg : Sp3 := fun ts Γ Z _ => ∃ (c : Int) (p : Int), ts = [.int c, .int p] ∧ 0 ≤ p ∧ p ≤ 63 ∧ ∀ (a : Addr) (Γ' : Gp), Γ a = none → BagAt Γ' a 1000 → Le Γ Γ' → Z (.ref a) Γ'
theorem ok_bag (F : Fun K "_law_bag" "_law_bag" s_law_bag f fd) (z_max : mg "max" = none) : FnOk P w K mg base CX0 1 f fd ["cell", "place"] (liSp spBg) := by
 refine okd F sc_law_bag (fun ts Γ Z Y h => ?_) (fun cdv A outer s H E ts Γ Z Y hr h => ?_)
 ·obtain ⟨c, p, rfl, _⟩ := h
  rfl
 obtain ⟨c, p, rfl, p0, p1, q⟩ := h
 refine ⟨_, (qss_cons (qs_set (i := 2) sc_law_bag.nd rfl (Or.inl rfl) (qe_op oq_mod (qe_op oq_add (qe_op oq_mul (qe_op oq_mod (qv 0) qe_int) qe_int) (qe_op oq_mul qe_int (qe_op oq_pow (qe_op oq_add (qv 1) qe_int) qe_int))) qe_int))
  (qss_cons (qs_ret (qe_lst (qa_cons (qe_callB (cq_max2 rfl) rfl z_max PyProof.Rows.boot_max (qa_cons qe_int (qa_cons (qe_op oq_sub (qv 0) (qe_op oq_pow qe_int qe_int)) qa_nil))) (qa_cons (qv 2) (qa_cons (qv 1) qa_nil)))))
  qss_nil)), ?_⟩
 simp only [start3]
 and_intros
 refine t_I ⟨by decide, by decide, Nat.lt_of_lt_of_le (show (p + 1).natAbs < 100 by omega) (by decide)⟩ ?_
 and_intros
 have h0 := Int.emod_nonneg (c % 2147483647 * 69621 + 7919 * (p + 1) ^ Int.toNat 3) (by decide : (2147483647 : Int) ≠ 0)
 have h1 := Int.emod_lt_of_pos (c % 2147483647 * 69621 + 7919 * (p + 1) ^ Int.toNat 3) (by decide : (0 : Int) < 2147483647)
 generalize (c % 2147483647 * 69621 + 7919 * (p + 1) ^ Int.toNat 3) % 2147483647 = st at *
 intro a ha; generalize e1 : up _ a (O.lst _) = Γ1; have g1 := al_g e1; have l1 := al_l e1 ha
 exact drop0 .refl (q a Γ1 ha ⟨_, _, _, g1, h0, h1, p0, by omega⟩ l1)
abbrev s_law_draw : Stmt := top 20
theorem sc_law_draw : FnScope ["bag", "many", "found"] ["bag", "many"] (defScope s_law_draw) := ⟨rfl, rfl, rfl, by decide +kernel, rfl, by decide +kernel, by decide +kernel⟩
def spDw : Sp3 := fun ts Γ Z _ => ∃ (a : Addr) (m : Int) (c : Nat), ts = [.ref a, .int m] ∧ BagAt Γ a (c + 1) ∧ 0 < m ∧ m ≤ 1000000000 ∧ ∀ (r : Int) (Γ' : Gp), 0 ≤ r → r < m → BagAt Γ' a c → Fr [a] Γ Γ' → Z (.int r) Γ'
theorem ok_draw (F : Fun K "_law_draw" "_law_draw" s_law_draw f fd) : FnOk P w K mg base CX0 1 f fd ["bag", "many"] (liSp spDw) := by
 refine okd F sc_law_draw (fun ts Γ Z Y h => ?_) (fun cdv A outer s H E ts Γ Z Y hr h => ?_)
 ·obtain ⟨a, m, c, rfl, _⟩ := h
  rfl
 obtain ⟨a, m, c, rfl, ⟨b0, b1, b2, g, r0, r1, r2, r3⟩, m0, m1, q⟩ := h
 refine ⟨_, (qss_cons (qs_if (qt_cmpR oq_gt (qe_ix (qv 0) qe_int (fun _ _ => rfl)) qe_int (nomark _)) (qss_cons (qs_set (i := 2) sc_law_draw.nd rfl (Or.inl rfl) (qe_op oq_mod (qe_ix (qv 0) qe_int (fun _ _ => rfl)) (qv 1)))
  (qss_cons (qs_asg (qe_op oq_fdiv (qe_ix (qv 0) qe_int (fun _ _ => rfl)) (qv 1)) (qg_sub (qv 0) qe_int))
  (qss_cons (qs_ret (qv 2))
  qss_nil))) qss_nil)
  (qss_cons (qs_asg (qe_op oq_add (qe_ix (qv 0) qe_int (fun _ _ => rfl)) qe_int) (qg_sub (qv 0) qe_int))
  (qss_cons (qs_asg (qe_op oq_mod (qe_op oq_pow (qe_op oq_add (qe_ix (qv 0) qe_int (fun _ _ => rfl)) (qe_op oq_mul qe_int (qe_ix (qv 0) qe_int (fun _ _ => rfl)))) qe_int) qe_int) (qg_sub (qv 0) qe_int))
  (qss_cons (qs_ret (qe_op oq_mod (qe_op oq_fdiv (qe_ix (qv 0) qe_int (fun _ _ => rfl)) qe_int) (qv 1)))
  qss_nil)))), ?_⟩
 simp only [start3]
 and_intros
 have at0 : ∀ {x y z : T}, atI [x, y, z] 0 = some x := fun {x y z} => atI_nat (j := 0) rfl
 have at1 : ∀ {x y z : T}, atI [x, y, z] 1 = some y := fun {x y z} => atI_nat (j := 1) rfl
 have at2 : ∀ {x y z : T}, atI [x, y, z] 2 = some z := fun {x y z} => atI_nat (j := 2) rfl
 refine c_if (fun c0 => ?_) (fun c0 => ?_)
 ·and_intros
  refine t_I (show (0 : Int) < m from m0) ?_
  and_intros
  refine t_I ⟨m0, Int.lt_of_le_of_lt m1 (by decide)⟩ ?_
  and_intros
  refine drop0 .refl (q _ _ (Int.emod_nonneg _ (by omega)) (Int.emod_lt_of_pos _ m0) ⟨b0 / m, b1, b2, up_same, r0, r1, r2, by omega⟩ (Fr.set (by simp) _))
 and_intros
 refine t_ixR g at2 ?_
 and_intros
 refine t_ixR (i := 2) (t := .int (b2 + 1)) up_same at2 ?_
 and_intros
 refine t_I ⟨by decide, by decide, ?_⟩ ?_
 ·exact Nat.lt_of_le_of_lt (show (b1 + 15485863 * (b2 + 1)).natAbs ≤ 15485863000000000 + 2147483647 by omega) (by decide)
 and_intros
 have h0 := Int.emod_nonneg ((b1 + 15485863 * (b2 + 1)) ^ Int.toNat 5) (by decide : (2147483647 : Int) ≠ 0)
 have h1 := Int.emod_lt_of_pos ((b1 + 15485863 * (b2 + 1)) ^ Int.toNat 5) (by decide : (0 : Int) < 2147483647)
 generalize (b1 + 15485863 * (b2 + 1)) ^ Int.toNat 5 % 2147483647 = nb at *
 trace_state
 refine t_I (show (0 : Int) < m from m0) ?_
 refine dropL1 (o := .lst [.int b0, .int nb, .int (b2 + 1)]) ((Kq.set (by simp) _).trans (.set (by simp) _)) up_same ?_
 exact q _ _ (Int.emod_nonneg _ (by omega)) (Int.emod_lt_of_pos _ m0) ⟨b0, nb, b2 + 1, up_same, h0, h1, by omega, by omega⟩ (Fr.set (by simp) _)
abbrev s_law_much : Stmt := top 21
theorem sc_law_much : FnScope ["bag", "many", "found", "turn"] ["bag", "many"] (defScope s_law_much) := ⟨rfl, rfl, rfl, by decide +kernel, rfl, by decide +kernel, by decide +kernel⟩
def spMu : Sp3 := fun ts Γ Z _ => ∃ (a : Addr) (m : Int) (c : Nat), ts = [.ref a, .int m] ∧ BagAt Γ a (c + 3) ∧ 0 < m ∧ ∀ (r : Int) (Γ' : Gp), 0 ≤ r → r < m → BagAt Γ' a c → Fr [a] Γ Γ' → Z (.int r) Γ'
theorem ok_much (F : Fun K "_law_much" "_law_much" s_law_much f fd) (c_law_draw : Cl3 P w K mg base "_law_draw" 1 ["bag", "many"] spDw) (z_range : mg "range" = none) : FnOk P w K mg base CX0 2 f fd ["bag", "many"] (liSp spMu) := by
 refine okd F sc_law_much (fun ts Γ Z Y h => ?_) (fun cdv A outer s H E ts Γ Z Y hr h => ?_)
 ·obtain ⟨a, m, c, rfl, _⟩ := h
  rfl
 obtain ⟨a, m, c, rfl, bg, m0, q⟩ := h
 refine ⟨_, (qss_cons (qs_set (i := 2) sc_law_much.nd rfl (Or.inl rfl) qe_int)
  (qss_cons (qs_for PassesOwn.never rfl (qi_range1 rfl z_range (qa_cons qe_int qa_nil)) (qg_name (i := 3) sc_law_much.nd rfl (Or.inl rfl)) (qss_cons (qs_set (i := 2) sc_law_much.nd rfl (Or.inl rfl) (qe_op oq_add (qe_op oq_mul (qv 2) qe_int) (qe_call c_law_draw hr (by omega) rfl (qa_cons (qv 0) (qa_cons qe_int qa_nil)))))
  qss_nil))
  (qss_cons (qs_ret (qe_op oq_mod (qv 2) (qv 1)))
  qss_nil))), ?_⟩
 simp only [start3]
 and_intros
 refine ⟨3, rfl, by decide, by decide, ?_⟩
 refine ⟨fun rest τ Γ' => ∃ (i : Int) (n : Nat) (fo : Int) (o3 : Option T), rest = rngT i n ∧ τ = [some (.ref a), some (.int m), some (.int fo), o3] ∧ BagAt Γ' a (c + n) ∧ Fr [a] Γ Γ', ⟨0, 3, 0, none, rfl, rfl, bg, .refl⟩, ?_, ?_⟩
 ·rintro τ Γ' ⟨i, n, fo, o3, er, rfl, bg', fr'⟩
  have hn := rngT_nil er
  subst hn
  refine ⟨trivial, ?_⟩
  and_intros
  refine t_I (show (0 : Int) < m from m0) ?_
  exact drop0 .refl (q _ _ (Int.emod_nonneg _ (by omega)) (Int.emod_lt_of_pos _ m0) bg' fr')
 ·rintro x r τ Γ' ⟨i, n, fo, o3, er, rfl, bg', fr'⟩
  obtain ⟨n', rfl, rfl, rfl⟩ := rngT_cons er
  and_intros
  refine ⟨a, 16777213, c + n', rfl, bg', by decide, by decide, fun r Γ2 _ _ bg2 fr2 => ?_⟩
  and_intros
  exact ⟨i + 1, n', _, _, rfl, rfl, bg2, fr'.trans fr2⟩
end
theorem kq_none {Γ Γ' : Gp} {l : List Addr} {p : Addr} (k : Kq l Γ Γ') (h : Γ' p = none) (n : p ∉ l) : Γ p = none := by
 cases e : Γ p with
 | none => rfl
 | some o => have := k p o n e; rw [h] at this; cases this
theorem erase_map {α β : Type} (f : α → β) : ∀ (ls : List α) (j : Nat), (ls.map f).eraseIdx j = (ls.eraseIdx j).map f
 | [], j => rfl
 | x :: r, 0 => rfl
 | x :: r, j + 1 => by
  show f x :: (r.map f).eraseIdx j = f x :: (r.eraseIdx j).map f
  rw [erase_map f r j]
theorem erase_app {α : Type} : ∀ (L : List α) (g : α) (R : List α), (L ++ g :: R).eraseIdx L.length = L ++ R
 | [], g, R => rfl
 | x :: r, g, R => by
  show x :: (r ++ g :: R).eraseIdx r.length = x :: (r ++ R)
  rw [erase_app r g R]
theorem d_int {i j : Int} (h : decide (V.int i = V.int j) = true) : i = j := V.int.inj (of_decide_eq_true h)
theorem flat_rep (x : T) (n : Nat) : (List.replicate n [x]).flatten = List.replicate n x := by
 induction n with
 | zero => rfl
 | succ n ih => rw [List.replicate_succ, List.flatten_cons, ih]; rfl
def gpT (g : Gap) : T := .tup [.int g.1, .int g.2]
def kvOf (q : Blk) : Key × T := (.inl q.1, .tup [.int q.2.1, .int q.2.2])
structure StF (Γ : Gp) (C a pc pg ph pd : Addr) (size : Int) (G : List Gap) (kvs : List (Key × T)) (nd : Nat) : Prop where
 ins : ∃ dx, Γ a = some (.ins C dx [("words", .int size), ("cells", .ref pc), ("gaps", .ref pg), ("held", .ref ph), ("deeds", .ref pd)])
 cells : ∃ cs, Γ pc = some (.lst cs) ∧ (cs.length : Int) = size + 1
 gaps : Γ pg = some (.lst (G.map gpT))
 held : Γ ph = some (.dK kvs)
 deeds : ∃ ds, Γ pd = some (.lst ds) ∧ ds.length + nd ≤ 1000000
 n1 : pc ≠ pg
 n2 : pc ≠ pd
 n3 : pg ≠ pd
 sz : 1 ≤ size ∧ size ≤ 100000
def HeldIs (kvs : List (Key × T)) (B : List Blk) : Prop := (kvs.map (·.1)).Nodup ∧ kvs.Perm (B.map kvOf)
def StO (Γ : Gp) (C a : Addr) (own : List Addr) (size : Int) (B : List Blk) (nd : Nat) : Prop := ∃ pc pg ph pd G kvs, own = [pc, pg, ph, pd] ∧ StF Γ C a pc pg ph pd size G kvs nd ∧ SI size B G ∧ HeldIs kvs B
theorem StF.ne {Γ : Gp} {C a pc pg ph pd : Addr} {size : Int} {G : List Gap} {kvs : List (Key × T)} {nd : Nat} (h : StF Γ C a pc pg ph pd size G kvs nd) : a ≠ pc ∧ a ≠ pg ∧ a ≠ ph ∧ a ≠ pd ∧ ph ≠ pc ∧ ph ≠ pg ∧ ph ≠ pd := by
 obtain ⟨dx, hi⟩ := h.ins
 obtain ⟨cs, hc, _⟩ := h.cells
 obtain ⟨ds, hd, _⟩ := h.deeds
 exact ⟨gne hi hc (by intro z; cases z), gne hi h.gaps (by intro z; cases z), gne hi h.held (by intro z; cases z), gne hi hd (by intro z; cases z), gne h.held hc (by intro z; cases z), gne h.held h.gaps (by intro z; cases z), gne h.held hd (by intro z; cases z)⟩
theorem StF.le {Γ Γ' : Gp} {C a pc pg ph pd : Addr} {size : Int} {G : List Gap} {kvs : List (Key × T)} {nd : Nat} (h : StF Γ C a pc pg ph pd size G kvs nd) {l : List Addr} (k : Kq l Γ Γ') (na : a ∉ l) (n1 : pc ∉ l) (n2 : pg ∉ l) (n3 : ph ∉ l) (n4 : pd ∉ l) : StF Γ' C a pc pg ph pd size G kvs nd := by
 obtain ⟨dx, hi⟩ := h.ins
 obtain ⟨cs, hc, lc⟩ := h.cells
 obtain ⟨ds, hd, ld⟩ := h.deeds
 exact ⟨⟨dx, k _ _ na hi⟩, ⟨cs, k _ _ n1 hc, lc⟩, k _ _ n2 h.gaps, k _ _ n3 h.held, ⟨ds, k _ _ n4 hd, ld⟩, h.n1, h.n2, h.n3, h.sz⟩
theorem StO.kq {Γ Γ' : Gp} {C a : Addr} {own : List Addr} {size : Int} {B : List Blk} {nd : Nat} (h : StO Γ C a own size B nd) {l : List Addr} (k : Kq l Γ Γ') (na : a ∉ l) (n : ∀ o ∈ own, o ∉ l) : StO Γ' C a own size B nd := by
 obtain ⟨pc, pg, ph, pd, G, kvs, rfl, hf, si, he⟩ := h
 exact ⟨pc, pg, ph, pd, G, kvs, rfl, hf.le k na (n _ (by simp)) (n _ (by simp)) (n _ (by simp)) (n _ (by simp)), si, he⟩
theorem StO.le {Γ Γ' : Gp} {C a : Addr} {own : List Addr} {size : Int} {B : List Blk} {nd : Nat} (h : StO Γ C a own size B nd) (k : Le Γ Γ') : StO Γ' C a own size B nd := h.kq (l := []) k.kq (by simp) (by simp)
theorem StO.nn {Γ : Gp} {C a p : Addr} {own : List Addr} {size : Int} {B : List Blk} {nd : Nat} (h : StO Γ C a own size B nd) (n : Γ p = none) : p ≠ a ∧ p ∉ own := by
 obtain ⟨pc, pg, ph, pd, G, kvs, rfl, hf, si, he⟩ := h
 obtain ⟨dx, hi⟩ := hf.ins
 obtain ⟨cs, hc, lc⟩ := hf.cells
 obtain ⟨ds, hd, ld⟩ := hf.deeds
 refine ⟨(gnn hi n).symm, fun m => ?_⟩
 simp only [List.mem_cons, List.not_mem_nil, or_false] at m
 rcases m with rfl | rfl | rfl | rfl
 ·exact gnn hc n rfl
 ·exact gnn hf.gaps n rfl
 ·exact gnn hf.held n rfl
 ·exact gnn hd n rfl
theorem StO.less {Γ : Gp} {C a : Addr} {own : List Addr} {size : Int} {B : List Blk} {n m : Nat} (h : StO Γ C a own size B n) (l : m ≤ n) : StO Γ C a own size B m := by
 obtain ⟨pc, pg, ph, pd, G, kvs, e, hf, si, he⟩ := h
 obtain ⟨ds, hd, ld⟩ := hf.deeds
 exact ⟨pc, pg, ph, pd, G, kvs, e, { hf with deeds := ⟨ds, hd, by omega⟩ }, si, he⟩
section
variable {P : Program} {w : World} {K : PySem.W.Frag} {mg : Str → Option Value} {base : Heap} {f C cNoRoom : Addr} {fd : FuncData}
abbrev s_Store_init : Stmt := mem 16 0
theorem sc_Store_init : FnScope ["self", "words"] ["self", "words"] (defScope s_Store_init) := ⟨rfl, rfl, rfl, by decide +kernel, rfl, by decide +kernel, by decide +kernel⟩
def spSi (C : Addr) : Sp3 := fun ts Γ Z _ => ∃ (x dx : Addr) (n : Int), ts = [.ref x, .int n] ∧ Γ x = some (.ins C dx []) ∧ 1 ≤ n ∧ n ≤ 100000 ∧ ∀ (own : List Addr) (Γ' : Gp), (∀ o ∈ own, Γ o = none) → StO Γ' C x own n [] 1000000 → Kq [x] Γ Γ' → Z .non Γ'
theorem ok_Store_init (F : Fun K "__init__" "Store.__init__" s_Store_init f fd) (cls_Store : Cls K C) (n_Store_words : NoAttr K C "words") (n_Store_cells : NoAttr K C "cells") (n_Store_gaps : NoAttr K C "gaps") (n_Store_held : NoAttr K C "held") (n_Store_deeds : NoAttr K C "deeds") : FnOk P w K mg base CX0 1 f fd ["self", "words"] (liSp (spSi C)) := by
 refine okd F sc_Store_init (fun ts Γ Z Y h => ?_) (fun cdv A outer s H E ts Γ Z Y hr h => ?_)
 ·obtain ⟨x, dx, n, rfl, _⟩ := h
  rfl
 obtain ⟨x, dx, n, rfl, gx, n1, n2, q⟩ := h
 refine ⟨_, (qss_cons (qs_fld cls_Store n_Store_words (qv 0) (qv 1))
  (qss_cons (qs_fld cls_Store n_Store_cells (qv 0) (qe_op oq_repL (qe_lst (qa_cons qe_non qa_nil)) (qe_op oq_add (qv 1) qe_int)))
  (qss_cons (qs_fld cls_Store n_Store_gaps (qv 0) (qe_lst (qa_cons (qe_tup (qa_cons qe_int (qa_cons (qe_op oq_add (qv 1) qe_int) qa_nil))) qa_nil)))
  (qss_cons (qs_fld cls_Store n_Store_held (qv 0) qe_dnew)
  (qss_cons (qs_fld cls_Store n_Store_deeds (qv 0) (qe_lst qa_nil))
  qss_nil))))), ?_⟩
 simp only [start3]
 and_intros
 generalize e0 : up Γ x (O.ins C dx _) = Γ0; have gx0 := al_g e0; have k0 : Kq [x] Γ Γ0 := e0 ▸ .set (by simp) _
 intro p1 hp1; generalize e1 : up _ p1 (O.lst _) = Γ1; have g1 := al_g e1; have l1 := al_l e1 hp1
 have gx1 := l1 _ _ gx0
 and_intros
 refine ⟨p1, n + 1, _, rfl, rfl, g1, by omega, by omega, by show 1 * _ ≤ _; rw [sizeLine_eq]; omega, ?_⟩
 intro pc hpc; generalize e2 : up _ pc (O.lst _) = Γ2; have gc := al_g e2; have l2 := al_l e2 hpc
 have gx2 := l2 _ _ gx1
 have k2 : Kq [x] Γ Γ2 := k0.trans (l1.trans l2).kq
 have nxc : pc ≠ x := (gnn gx1 hpc).symm
 have fc : Γ pc = none := kq_none (k0.trans l1.kq) hpc (by simpa using nxc)
 clear e0 e1 e2
 and_intros
 generalize e3 : up Γ2 x (O.ins C dx _) = Γ3; have gx3 := al_g e3; have k3 : Kq [x] Γ2 Γ3 := e3 ▸ .set (by simp) _
 have gc3 := k3 _ _ (by simpa using nxc) gc
 intro pg hpg; generalize e4 : up _ pg (O.lst _) = Γ4; have gg := al_g e4; have l4 := al_l e4 hpg
 have gx4 := l4 _ _ gx3
 have gc4 := l4 _ _ gc3
 have k4 : Kq [x] Γ Γ4 := (k2.trans k3).trans l4.kq
 have nxg : pg ≠ x := (gnn gx3 hpg).symm
 have ncg : pc ≠ pg := gnn gc3 hpg
 have fg : Γ pg = none := kq_none (k2.trans k3) hpg (by simpa using nxg)
 clear e3 e4
 and_intros
 generalize e5 : up Γ4 x (O.ins C dx _) = Γ5; have gx5 := al_g e5; have k5 : Kq [x] Γ4 Γ5 := e5 ▸ .set (by simp) _
 have gc5 := k5 _ _ (by simpa using nxc) gc4
 have gg5 := k5 _ _ (by simpa using nxg) gg
 unfold eDn
 intro ph hph; generalize e6 : up _ ph (O.dK _) = Γ6; have gh := al_g e6; have l6 := al_l e6 hph
 have gx6 := l6 _ _ gx5
 have gc6 := l6 _ _ gc5
 have gg6 := l6 _ _ gg5
 have k6 : Kq [x] Γ Γ6 := (k4.trans k5).trans l6.kq
 have nxh : ph ≠ x := (gnn gx5 hph).symm
 have fh : Γ ph = none := kq_none (k4.trans k5) hph (by simpa using nxh)
 clear e5 e6
 and_intros
 generalize e7 : up Γ6 x (O.ins C dx _) = Γ7; have gx7 := al_g e7; have k7 : Kq [x] Γ6 Γ7 := e7 ▸ .set (by simp) _
 have gc7 := k7 _ _ (by simpa using nxc) gc6
 have gg7 := k7 _ _ (by simpa using nxg) gg6
 have gh7 := k7 _ _ (by simpa using nxh) gh
 intro pd hpd; generalize e8 : up _ pd (O.lst _) = Γ8; have gd := al_g e8; have l8 := al_l e8 hpd
 have gx8 := l8 _ _ gx7
 have k8 : Kq [x] Γ Γ8 := (k6.trans k7).trans l8.kq
 have nxd : pd ≠ x := (gnn gx7 hpd).symm
 have ncd : pc ≠ pd := gnn gc7 hpd
 have ngd : pg ≠ pd := gnn gg7 hpd
 have fd' : Γ pd = none := kq_none (k6.trans k7) hpd (by simpa using nxd)
 clear e7 e8
 and_intros
 generalize e9 : up Γ8 x (O.ins C dx _) = Γ9; have gx9 := al_g e9; have k9 : Kq [x] Γ8 Γ9 := e9 ▸ .set (by simp) _
 refine drop0 .refl (q [pc, pg, ph, pd] Γ9 (fun o ho => ?_) ⟨pc, pg, ph, pd, [(1, n + 1)], [], rfl, ⟨⟨dx, gx9⟩, ⟨_, k9 _ _ (by simpa using nxc) (l8 _ _ gc7), ?_⟩, k9 _ _ (by simpa using nxg) (l8 _ _ gg7), k9 _ _ (by simpa using nxh) (l8 _ _ gh7), ⟨[], k9 _ _ (by simpa using nxd) gd, by decide⟩, ncg, ncd, ngd, n1, n2⟩, SI.init n1, .nil, .refl _⟩ (k8.trans k9))
 ·simp only [List.mem_cons, List.not_mem_nil, or_false] at ho
  rcases ho with rfl | rfl | rfl | rfl <;> assumption
 ·rw [flat_rep, List.length_replicate]
  omega
abbrev s_Store_first_gap : Stmt := mem 16 2
theorem sc_Store_first_gap : FnScope ["self", "many", "place", "begin", "end"] ["self", "many"] (defScope s_Store_first_gap) := ⟨rfl, rfl, rfl, by decide +kernel, rfl, by decide +kernel, by decide +kernel⟩
def spFg (C cNoRoom : Addr) : Sp3 := fun ts Γ Z Y => ∃ (x pc pg ph pd : Addr) (many size : Int) (G : List Gap) (kvs : List (Key × T)) (nd : Nat), ts = [.ref x, .int many] ∧ StF Γ C x pc pg ph pd size G kvs nd ∧ G.length ≤ 100001 ∧
 (∀ (L R : List Gap) (b e : Int), G = L ++ (b, e) :: R → (∀ g ∈ L, g.2 - g.1 < many) → many ≤ e - b → Z (.int (L.length : Nat)) Γ) ∧ ((∀ g ∈ G, g.2 - g.1 < many) → Y (.ref cNoRoom) Γ)
theorem ok_first_gap (F : Fun K "first_gap" "Store.first_gap" s_Store_first_gap f fd) (cls_Store : Cls K C) (n_Store_gaps : NoAttr K C "gaps") (m_NoRoom : mg "NoRoom" = some (.ref cNoRoom)) (x_NoRoom : PySem.W.excIn K cNoRoom [.type "ValueError", .type "Exception", .type "BaseException", .type "object"] "ValueError.__new__" = true) (z_enumerate : mg "enumerate" = none) : FnOk P w K mg base (CXe P w) 1 f fd ["self", "many"] (liSp (spFg C cNoRoom)) := by
 refine okdX F sc_Store_first_gap (fun ts Γ Z Y h => ?_) (fun cdv A outer s H E ts Γ Z Y hr h => ?_)
 ·obtain ⟨x, pc, pg, ph, pd, many, size, G, kvs, nd, rfl, _⟩ := h
  rfl
 obtain ⟨x, pc, pg, ph, pd, many, size, G, kvs, nd, rfl, st, gl, q, qE⟩ := h
 refine ⟨_, (qss_cons (qs_for own_def rfl (qi_enumL rfl z_enumerate (qa_cons (qe_fld cls_Store n_Store_gaps (qv 0)) qa_nil)) (qg_tup (n := 2) rfl (qgs_cons (qg_name (i := 2) sc_Store_first_gap.nd rfl (Or.inl rfl)) (qgs_cons (qg_tup (n := 2) rfl (qgs_cons (qg_name (i := 3) sc_Store_first_gap.nd rfl (Or.inl rfl)) (qgs_cons (qg_name (i := 4) sc_Store_first_gap.nd rfl (Or.inl rfl)) qgs_nil))) qgs_nil))) (qss_cons (qs_if (qt_cmpR oq_ge (qe_op oq_sub (qv 4) (qv 3)) (qv 1) (nomark _)) (qss_cons (qs_ret (qv 2))
  qss_nil) qss_nil)
  qss_nil))
  (qss_cons (qs_raise rfl rfl m_NoRoom x_NoRoom PySem.F.excBase_ValueError (qa_cons qe_str qa_nil) raise_def)
  qss_nil)), ?_⟩
 simp only [start3]
 obtain ⟨dx, gx⟩ := st.ins
 have gg := st.gaps
 and_intros
 unfold iEl
 and_intros
 refine ⟨pg, _, rfl, it3_l gg, ?_⟩
 refine ⟨fun rest τ Γ' => ∃ (L M : List Gap) (o2 o3 o4 : Option T), rest = enumT L.length (M.map gpT) ∧ G = L ++ M ∧ (∀ g ∈ L, g.2 - g.1 < many) ∧ τ = [some (.ref x), some (.int many), o2, o3, o4] ∧ Γ' = Γ, ⟨[], G, none, none, none, rfl, rfl, fun _ h => (nomatch h), rfl, rfl⟩, ?_, ?_⟩
 ·rintro τ Γ' ⟨L, M, o2, o3, o4, er, eG, hL, rfl, rfl⟩
  have hM : M = [] := by
   cases M with
   | nil => rfl
   | cons _ _ => cases er
  subst hM
  rw [List.append_nil] at eG
  subst eG
  refine ⟨it3_l gg, ?_⟩
  and_intros
  exact ⟨_, .refl, qE hL⟩
 ·rintro y r τ Γ' ⟨L, M, o2, o3, o4, er, eG, hL, rfl, rfl⟩
  cases M with
  | nil => cases er
  | cons g M =>
   obtain ⟨b, e⟩ := g
   cases er
   refine ⟨it3_l gg, ?_⟩
   and_intros
   unfold gpT
   and_intros
   refine c_if (fun c => ?_) (fun c => ?_)
   ·have c := of_decide_eq_true c
    and_intros
    exact drop0 .refl (q L M b e eG hL c)
   ·have c := of_decide_eq_false c
    and_intros
    refine ⟨L ++ [(b, e)], M, _, _, _, ?_, by rw [eG]; simp, fun g hg => ?_, rfl, rfl⟩
    ·rw [List.length_append]; rfl
    ·rcases List.mem_append.mp hg with hg | hg
     ·exact hL g hg
     ·rw [List.mem_singleton.mp hg]; show e - b < many; omega
abbrev s_Store_gaps_ahead : Stmt := mem 16 5
theorem sc_Store_gaps_ahead : FnScope ["self", "address", "low", "high", "middle"] ["self", "address"] (defScope s_Store_gaps_ahead) := ⟨rfl, rfl, rfl, by decide +kernel, rfl, by decide +kernel, by decide +kernel⟩
def spGa (C : Addr) : Sp3 := fun ts Γ Z _ => ∃ (x pc pg ph pd : Addr) (ad size : Int) (G : List Gap) (kvs : List (Key × T)) (nd : Nat), ts = [.ref x, .int ad] ∧ StF Γ C x pc pg ph pd size G kvs nd ∧ GSep G 0 ∧ G.length ≤ 100001 ∧
 ∀ (L R : List Gap), G = L ++ R → (∀ g ∈ L, g.1 < ad) → (∀ g ∈ R, ad ≤ g.1) → Z (.int (L.length : Nat)) Γ
theorem ok_gaps_ahead (F : Fun K "gaps_ahead" "Store.gaps_ahead" s_Store_gaps_ahead f fd) (cls_Store : Cls K C) (n_Store_gaps : NoAttr K C "gaps") (z_len : mg "len" = none) : FnOk P w K mg base CX0 1 f fd ["self", "address"] (liSp (spGa C)) := by
 refine okd F sc_Store_gaps_ahead (fun ts Γ Z Y h => ?_) (fun cdv A outer s H E ts Γ Z Y hr h => ?_)
 ·obtain ⟨x, pc, pg, ph, pd, ad, size, G, kvs, nd, rfl, _⟩ := h
  rfl
 obtain ⟨x, pc, pg, ph, pd, ad, size, G, kvs, nd, rfl, st, sep, gl, q⟩ := h
 refine ⟨_, (qss_cons (qs_set (i := 2) sc_Store_gaps_ahead.nd rfl (Or.inl rfl) qe_int)
  (qss_cons (qs_set (i := 3) sc_Store_gaps_ahead.nd rfl (Or.inl rfl) (qe_callB cq_len rfl z_len PySem.boot_len (qa_cons (qe_fld cls_Store n_Store_gaps (qv 0)) qa_nil)))
  (qss_cons (qs_while PassesOwn.never (qt_cmpR oq_lt (qv 2) (qv 3) (nomark _)) (qss_cons (qs_set (i := 4) sc_Store_gaps_ahead.nd rfl (Or.inl rfl) (qe_op oq_fdiv (qe_op oq_add (qv 2) (qv 3)) qe_int))
  (qss_cons (qs_cut (qs_if (qt_cmpR oq_lt (qe_ix (qe_ix (qe_fld cls_Store n_Store_gaps (qv 0)) (qv 4) (fun _ _ => rfl)) qe_int (fun _ _ => rfl)) (qv 1) (nomark _)) (qss_cons (qs_set (i := 2) sc_Store_gaps_ahead.nd rfl (Or.inl rfl) (qe_op oq_add (qv 4) qe_int))
  qss_nil) (qss_cons (qs_set (i := 3) sc_Store_gaps_ahead.nd rfl (Or.inl rfl) (qv 4))
  qss_nil)))
  qss_nil)))
  (qss_cons (qs_ret (qv 2))
  qss_nil)))), ?_⟩
 simp only [start3]
 obtain ⟨dx, gx⟩ := st.ins
 have gg := st.gaps
 and_intros
 refine t_lenR gg ?_
 rw [List.length_map]
 and_intros
 refine ⟨fun m τ Γ' => ∃ (lo hi : Nat) (o4 : Option T), m = hi - lo ∧ lo ≤ hi ∧ hi ≤ G.length ∧ (∀ j g, j < lo → G[j]? = some g → g.1 < ad) ∧ (∀ j g, hi ≤ j → G[j]? = some g → ad ≤ g.1) ∧ τ = [some (.ref x), some (.int ad), some (.int (lo : Nat)), some (.int (hi : Nat)), o4] ∧ Γ' = Γ, ⟨G.length, 0, G.length, none, rfl, Nat.zero_le _, Nat.le_refl _, fun j g h => absurd h (Nat.not_lt_zero _), fun j g h e => absurd (List.getElem?_eq_some_iff.mp e).1 (by omega), rfl, rfl⟩, ?_⟩
 rintro m τ Γ' ⟨lo, hi, o4, rfl, lh, hn, h1, h2, rfl, rfl⟩
 and_intros
 refine c_if (fun c => ?_) (fun c => ?_)
 ·have c := of_decide_eq_true c
  refine ⟨fun τ Γ3 => ∃ (lo' hi' : Nat) (o4 : Option T), hi' - lo' < hi - lo ∧ lo' ≤ hi' ∧ hi' ≤ G.length ∧ (∀ j g, j < lo' → G[j]? = some g → g.1 < ad) ∧ (∀ j g, hi' ≤ j → G[j]? = some g → ad ≤ g.1) ∧ τ = [some (.ref x), some (.int ad), some (.int (lo' : Nat)), some (.int (hi' : Nat)), o4] ∧ Γ3 = Γ', fun τ' Γ3 ⟨lo', hi', o4, a, b, c, d, e, f, g⟩ => ⟨hi' - lo', a, lo', hi', o4, rfl, b, c, d, e, f, g⟩, ?_⟩
  and_intros
  have em : ((lo : Nat) + (hi : Nat) : Int) / 2 = (((lo + hi) / 2 : Nat) : Int) := by omega
  rw [em]
  have mlt : (lo + hi) / 2 < G.length := by omega
  have eg : (G.map gpT)[(lo + hi) / 2]? = some (gpT G[(lo + hi) / 2]) := by simp [mlt]
  have eG : G[(lo + hi) / 2]? = some G[(lo + hi) / 2] := by simp [mlt]
  generalize G[(lo + hi) / 2] = gm at *
  have hmid : (lo + hi) / 2 < hi ∧ lo ≤ (lo + hi) / 2 := by omega
  generalize (lo + hi) / 2 = mid at *
  refine ⟨fun τ Γ3 => ∃ (lo' hi' : Nat) (o4 : Option T), hi' - lo' < hi - lo ∧ lo' ≤ hi' ∧ hi' ≤ G.length ∧ (∀ j g, j < lo' → G[j]? = some g → g.1 < ad) ∧ (∀ j g, hi' ≤ j → G[j]? = some g → ad ≤ g.1) ∧ τ = [some (.ref x), some (.int ad), some (.int (lo' : Nat)), some (.int (hi' : Nat)), o4] ∧ Γ3 = Γ', ?_, ?_⟩
  ·and_intros
   refine t_ixR gg (atI_nat eg) ?_
   unfold gpT
   and_intros
   refine c_if (fun c2 => ?_) (fun c2 => ?_)
   ·have c2 := of_decide_eq_true c2
    and_intros
    refine ⟨mid + 1, hi, _, by omega, by omega, hn, fun j g hj ej => ?_, h2, rfl, rfl⟩
    by_cases e : j = mid
    ·subst e; rw [eG] at ej; cases ej; exact c2
    ·exact Int.lt_trans (GSep.mono sep (show j < mid by omega) ej eG) c2
   ·have c2 := of_decide_eq_false c2
    and_intros
    refine ⟨lo, mid, _, by omega, by omega, by omega, h1, fun j g hj ej => ?_, rfl, rfl⟩
    by_cases e : j = mid
    ·subst e; rw [eG] at ej; cases ej; omega
    ·have := GSep.mono sep (show mid < j by omega) eG ej
     omega
  ·rintro τ Γ3 h
   and_intros
   exact h
 ·have c := of_decide_eq_false c
  have e : lo = hi := by omega
  subst e
  and_intros
  have hl : (G.take lo).length = lo := by rw [List.length_take]; omega
  have z := q (G.take lo) (G.drop lo) (List.take_append_drop _ _).symm (fun g hg => by
   obtain ⟨j, hj, rfl⟩ := List.getElem_of_mem hg
   rw [hl] at hj
   exact h1 j _ hj (by rw [List.getElem_take]; simp [show j < G.length by omega])) (fun g hg => by
   obtain ⟨j, hj, rfl⟩ := List.getElem_of_mem hg
   rw [List.length_drop] at hj
   exact h2 (lo + j) _ (by omega) (by rw [List.getElem_drop]; simp [show lo + j < G.length by omega]))
  rw [hl] at z
  exact drop0 .refl z
abbrev s_Store_widen : Stmt := mem 16 4
theorem sc_Store_widen : FnScope ["self", "begin", "end", "place"] ["self", "begin", "end"] (defScope s_Store_widen) := ⟨rfl, rfl, rfl, by decide +kernel, rfl, by decide +kernel, by decide +kernel⟩
def spWi (C : Addr) : Sp3 := fun ts Γ Z _ => ∃ (x pc pg ph pd : Addr) (b e size : Int) (G : List Gap) (kvs : List (Key × T)) (nd : Nat), ts = [.ref x, .int b, .int e] ∧ StF Γ C x pc pg ph pd size G kvs nd ∧ GSep G 0 ∧ G.length ≤ 100001 ∧ 0 < b ∧ b < e ∧
 (∀ (L R : List Gap), G = L ++ R → (∀ g ∈ L, g.1 < b) → (∀ g ∈ R, b ≤ g.1) → (∀ l ∈ L, l.2 ≤ b) ∧ ∀ r ∈ R, e ≤ r.1) ∧
 ∀ (L R : List Gap) (b' e' : Int) (Γ' : Gp), (∀ x, InG G x ∨ (b ≤ x ∧ x < e) ↔ InG (L ++ (b', e') :: R) x) → GSep L 0 → GSep R e' → 0 < b' → (∀ l ∈ L, l.2 < b') → b' < e' → StF Γ' C x pc pg ph pd size (L ++ (b', e') :: R) kvs nd → Kq [pg] Γ Γ' → Z .non Γ'
theorem ok_widen (F : Fun K "widen" "Store.widen" s_Store_widen f fd) (c_Store_gaps_ahead : ClM P w K mg base C "gaps_ahead" 1 ["self", "address"] (spGa C)) (cls_Store : Cls K C) (n_Store_gaps : NoAttr K C "gaps") (z_len : mg "len" = none) : FnOk P w K mg base CX0 2 f fd ["self", "begin", "end"] (liSp (spWi C)) := by
 refine okd F sc_Store_widen (fun ts Γ Z Y h => ?_) (fun cdv A outer s H E ts Γ Z Y hr h => ?_)
 ·obtain ⟨x, pc, pg, ph, pd, b, e, size, G, kvs, nd, rfl, _⟩ := h
  rfl
 obtain ⟨x, pc, pg, ph, pd, b, e, size, G, kvs, nd, rfl, st, sep, gl, b0, be, hs, q⟩ := h
 refine ⟨_, (qss_cons (qs_set (i := 3) sc_Store_widen.nd rfl (Or.inl rfl) (qe_meth c_Store_gaps_ahead hr (by omega) (qv 0) (qa_cons (qv 1) qa_nil)))
  (qss_cons (qs_cut (qs_if (PW.pt (qw_and (qt_cmpR oq_lt (qv 3) (qe_callB cq_len rfl z_len PySem.boot_len (qa_cons (qe_fld cls_Store n_Store_gaps (qv 0)) qa_nil)) (nomark _)) (qw_and1 (qt_cmpR oq_eq (qe_ix (qe_ix (qe_fld cls_Store n_Store_gaps (qv 0)) (qv 3) (fun _ _ => rfl)) qe_int (fun _ _ => rfl)) (qv 2) (nomark _))))) (qss_cons (qs_set (i := 2) sc_Store_widen.nd rfl (Or.inl rfl) (qe_ix (qe_bm PySem.F.plainAttrs_list PySem.F.slot_list_pop PySem.F.type_list_pop mq_popAt (qe_fld cls_Store n_Store_gaps (qv 0)) (qa_cons (qv 3) qa_nil)) qe_int (fun _ _ => rfl)))
  qss_nil) qss_nil))
  (qss_cons (qs_cut (qs_if (PW.pt (qw_and (qt_cmpR oq_gt (qv 3) qe_int (nomark _)) (qw_and1 (qt_cmpR oq_eq (qe_ix (qe_ix (qe_fld cls_Store n_Store_gaps (qv 0)) (qe_op oq_sub (qv 3) qe_int) (fun _ _ => rfl)) qe_int (fun _ _ => rfl)) (qv 1) (nomark _))))) (qss_cons (qs_aug (i := 3) sc_Store_widen.nd rfl (Or.inl rfl) qe_int oq_isub)
  (qss_cons (qs_set (i := 1) sc_Store_widen.nd rfl (Or.inl rfl) (qe_ix (qe_bm PySem.F.plainAttrs_list PySem.F.slot_list_pop PySem.F.type_list_pop mq_popAt (qe_fld cls_Store n_Store_gaps (qv 0)) (qa_cons (qv 3) qa_nil)) qe_int (fun _ _ => rfl)))
  qss_nil)) qss_nil))
  (qss_cons (qs_expr (qe_bm PySem.F.plainAttrs_list PySem.F.slot_list_insert PySem.F.type_list_insert mq_insert (qe_fld cls_Store n_Store_gaps (qv 0)) (qa_cons (qv 3) (qa_cons (qe_tup (qa_cons (qv 1) (qa_cons (qv 2) qa_nil))) qa_nil))))
  qss_nil)))), ?_⟩
 simp only [start3]
 obtain ⟨dx, gx⟩ := st.ins
 have gg := st.gaps
 have ne := st.ne
 and_intros
 refine ⟨x, pc, pg, ph, pd, b, size, G, kvs, nd, rfl, st, sep, gl, fun L R eG hL hR => ?_⟩
 obtain ⟨sL, sR⟩ := hs L R eG hL hR
 obtain ⟨R', e', hR', iR, ee⟩ := wid_r (L := L) (R := R) (b := b) (by rw [← eG]; exact sep) sR be
 obtain ⟨L', b', hL', iL, bb, b0', lb⟩ := wid_l (L := L) (R := R) (b := b) (by rw [← eG]; exact sep) sL b0
 have lenG : L.length + R.length ≤ 100001 := by rw [eG, List.length_append] at gl; exact gl
 and_intros
 refine ⟨fun τ Γ1 => τ = [some (.ref x), some (.int b), some (.int e'), some (.int (L.length : Nat))] ∧ Γ1 pg = some (.lst ((L ++ R').map gpT)) ∧ Kq [pg] Γ Γ1, ?_, ?_⟩
 ·and_intros
  refine t_lenR gg ?_
  rw [List.length_map]
  and_intros
  refine c_if (fun c => ?_) (fun c => ?_)
  ·have c := of_decide_eq_true c
   have hl : L.length < G.length := by omega
   cases R with
   | nil => rw [eG, List.append_nil] at hl; omega
   | cons g r =>
    have eg : (G.map gpT)[L.length]? = some (gpT g) := by rw [eG, List.getElem?_map, List.getElem?_append_right (Nat.le_refl _), Nat.sub_self]; rfl
    and_intros
    refine t_ixR gg (atI_nat eg) ?_
    unfold gpT
    and_intros
    refine c_if (fun c2 => ?_) (fun c2 => ?_)
    ·have c2 : g.1 = e := d_int c2
     rcases hR' with ⟨R2, h1, h2⟩ | ⟨_, _, h3⟩
     rotate_left
     ·exact absurd c2 (h3 g r rfl)
     cases h1
     subst h2
     and_intros
     refine t_tyL gg ?_
     and_intros
     refine ⟨pg, _, L.length, gpT (e, e'), rfl, rfl, gg, by omega, eg, ?_⟩
     unfold gpT
     and_intros
     refine ⟨rfl, ?_, .set (by simp) _⟩
     rw [up_same, erase_map, eG, erase_app]
    ·have c2 : g.1 ≠ e := fun z => by rw [z] at c2; revert c2; simp
     rcases hR' with ⟨R2, h1, h2⟩ | ⟨h1, h2, _⟩
     ·cases h1; exact absurd rfl c2
     subst h1 h2
     and_intros
     exact ⟨rfl, by rw [← eG]; exact gg, .refl⟩
  ·have c := of_decide_eq_false c
   have hl : R = [] := by
    rw [eG, List.length_append] at c
    exact List.eq_nil_of_length_eq_zero (by omega)
   subst hl
   rcases hR' with ⟨R2, h1, h2⟩ | ⟨h1, h2, _⟩
   ·cases h1
   subst h1 h2
   and_intros
   exact ⟨rfl, by rw [← eG]; exact gg, .refl⟩
 rintro τ Γ1 ⟨rfl, g1, k1⟩
 have gx1 := k1 _ _ (by simpa using ne.2.1) gx
 have lR' : R'.length ≤ R.length := by
  rcases hR' with ⟨R2, h1, h2⟩ | ⟨h1, _⟩
  ·rw [h1, h2]; simp
  ·rw [h1]; exact Nat.le_refl _
 have lL' : L'.length ≤ L.length := by
  rcases hL' with h1 | ⟨h1, _⟩
  ·rw [h1]; simp
  ·rw [h1]; exact Nat.le_refl _
 and_intros
 refine ⟨fun τ Γ2 => τ = [some (.ref x), some (.int b'), some (.int e'), some (.int (L'.length : Nat))] ∧ Γ2 pg = some (.lst ((L' ++ R').map gpT)) ∧ Kq [pg] Γ Γ2, ?_, ?_⟩
 ·and_intros
  refine c_if (fun c => ?_) (fun c => ?_)
  ·have c := of_decide_eq_true c
   rcases List.eq_nil_or_concat L with eL | ⟨L2, g, eL⟩
   ·rw [eL] at c; exact absurd c (by simp)
   rw [List.concat_eq_append] at eL
   have ll : L.length = L2.length + 1 := by rw [eL, List.length_append]; rfl
   have ei : ((L.length : Nat) : Int) - 1 = ((L2.length : Nat) : Int) := by omega
   have eg : ((L ++ R').map gpT)[L2.length]? = some (gpT g) := by
    rw [List.getElem?_map, eL, List.append_assoc, List.getElem?_append_right (Nat.le_refl _), Nat.sub_self]; rfl
   and_intros
   rw [ei]
   refine t_ixR g1 (atI_nat eg) ?_
   unfold gpT
   and_intros
   refine c_if (fun c2 => ?_) (fun c2 => ?_)
   ·have c2 : g.2 = b := d_int c2
    rcases hL' with h1 | ⟨_, _, h3⟩
    rotate_left
    ·exact absurd c2 (h3 L2 g eL)
    obtain ⟨h4, h5⟩ := List.append_inj' (eL.symm.trans h1) rfl
    cases h5
    subst h4
    and_intros
    refine ⟨_, rfl, ?_⟩
    and_intros
    refine t_tyL g1 ?_
    and_intros
    refine ⟨pg, _, L2.length, gpT (b', b), rfl, by rw [ei], g1, by omega, eg, ?_⟩
    unfold gpT
    and_intros
    refine ⟨by rw [ei]; rfl, ?_, k1.trans (.set (by simp) _)⟩
    rw [up_same, erase_map, eL, List.append_assoc]
    show some (O.lst ((L2 ++ (b', b) :: R').eraseIdx L2.length |>.map _)) = _
    rw [erase_app]
   ·have c2 : g.2 ≠ b := fun z => by rw [z] at c2; revert c2; simp
    rcases hL' with h1 | ⟨h1, h2, _⟩
    ·obtain ⟨h4, h5⟩ := List.append_inj' (eL.symm.trans h1) rfl
     cases h5
     exact absurd rfl c2
    subst h1 h2
    and_intros
    exact ⟨rfl, g1, k1⟩
  ·have c := of_decide_eq_false c
   have hl : L = [] := List.eq_nil_of_length_eq_zero (by omega)
   subst hl
   rcases hL' with h1 | ⟨h1, h2, _⟩
   ·simp at h1
   subst h1 h2
   and_intros
   exact ⟨rfl, g1, k1⟩
 rintro τ Γ2 ⟨rfl, g2, k2⟩
 have gx2 := k2 _ _ (by simpa using ne.2.1) gx
 and_intros
 refine t_tyL g2 ?_
 and_intros
 refine ⟨pg, _, (L'.length : Nat), _, rfl, rfl, g2, by omega, by rw [List.length_map, List.length_append]; omega, by rw [List.length_map, List.length_append, sizeLine_eq]; omega, ?_⟩
 and_intros
 have kF : Kq [pg] Γ2 (up Γ2 pg (.lst (((L' ++ R').map gpT).take (L'.length : Int).toNat ++ [.tup [.int b', .int e']] ++ ((L' ++ R').map gpT).drop (L'.length : Int).toNat))) := .set (by simp) _
 refine drop0 .refl (q L' R' b' e' _ (fun y => ?_) iL.1 iR.1 b0' lb (by omega) ?_ (k2.trans kF))
 ·rw [eG, InG.app, InG.app, InG.cons]
  have i1 := iR.2 y
  have i2 := iL.2 e' y (by omega)
  constructor
  ·rintro ((z | z) | z)
   ·rcases i2.mp (.inl z) with z | z
    ·exact .inl z
    ·exact .inr (.inl z)
   ·rcases i1.mp (.inl z) with z | z
    ·exact .inr (.inr z)
    ·rcases i2.mp (.inr z) with z | z
     ·exact .inl z
     ·exact .inr (.inl z)
   ·rcases i1.mp (.inr z) with z | z
    ·exact .inr (.inr z)
    ·rcases i2.mp (.inr z) with z | z
     ·exact .inl z
     ·exact .inr (.inl z)
  ·rintro (z | z | z)
   ·rcases i2.mpr (.inl z) with z | z
    ·exact .inl (.inl z)
    ·rcases i1.mpr (.inr z) with z | z
     ·exact .inl (.inr z)
     ·exact .inr z
   ·rcases i2.mpr (.inr z) with z | z
    ·exact .inl (.inl z)
    ·rcases i1.mpr (.inr z) with z | z
     ·exact .inl (.inr z)
     ·exact .inr z
   ·rcases i1.mpr (.inl z) with z | z
    ·exact .inl (.inr z)
    ·exact .inr z
 ·obtain ⟨cs, hc, lc⟩ := st.cells
  obtain ⟨ds, hd, ld⟩ := st.deeds
  have kk := k2.trans kF
  refine ⟨⟨dx, kk _ _ (by simpa using ne.2.1) gx⟩, ⟨cs, kk _ _ (by simpa using st.n1) hc, lc⟩, ?_, kk _ _ (by simpa using ne.2.2.2.2.2.1) st.held, ⟨ds, kk _ _ (by simpa using st.n3.symm) hd, ld⟩, st.n1, st.n2, st.n3, st.sz⟩
  rw [up_same, List.map_append, List.map_append, Int.toNat_natCast]
  congr 2
  rw [List.take_append_of_le_length (by simp), List.drop_append_of_le_length (by simp), List.take_of_length_le (by simp), List.drop_of_length_le (by simp)]
  simp [gpT]
theorem valT_in : ∀ {kvs : List (Key × T)} {k : Key} {v : T}, (kvs.map (·.1)).Nodup → (k, v) ∈ kvs → valT kvs k = some v
 | (k1, v1) :: r, k, v, nd, h => by
  rw [List.map_cons, List.nodup_cons] at nd
  rcases List.mem_cons.mp h with e | h
  ·cases e; simp [valT, List.find?_cons]
  ·have ne : k1 ≠ k := fun z => nd.1 (by rw [z]; exact List.mem_map.mpr ⟨_, h, rfl⟩)
   have := valT_in nd.2 h
   simpa [valT, List.find?_cons, ne] using this
theorem valT_out : ∀ {kvs : List (Key × T)} {k : Key} {v : T}, valT kvs k = some v → (k, v) ∈ kvs
 | (k1, v1) :: r, k, v, h => by
  by_cases e : k1 = k
  ·simp [valT, List.find?_cons, e] at h
   rw [e, h]; simp
  ·have : valT r k = some v := by simpa [valT, List.find?_cons, e] using h
   exact List.mem_cons_of_mem _ (valT_out this)
theorem HeldIs.val {kvs : List (Key × T)} {B : List Blk} (h : HeldIs kvs B) {q : Blk} (m : q ∈ B) : valT kvs (.inl q.1) = some (.tup [.int q.2.1, .int q.2.2]) := valT_in h.1 (h.2.mem_iff.mpr (List.mem_map.mpr ⟨q, m, rfl⟩))
theorem HeldIs.non {kvs : List (Key × T)} {B : List Blk} (h : HeldIs kvs B) {ad : Int} (n : ∀ q ∈ B, q.1 ≠ ad) : valT kvs (.inl ad) = none := by
 cases e : valT kvs (.inl ad) with
 | none => rfl
 | some v =>
  obtain ⟨q, hq, eq⟩ := List.mem_map.mp (h.2.mem_iff.mp (valT_out e))
  have := congrArg Prod.fst eq
  have : Sum.inl q.1 = (Sum.inl ad : Key) := this
  exact absurd (Sum.inl.inj this) (n q hq)
theorem HeldIs.len {kvs : List (Key × T)} {B : List Blk} (h : HeldIs kvs B) : kvs.length = B.length := by rw [h.2.length_eq, List.length_map]
theorem put_new {kvs : List (Key × T)} {k : Key} {v : T} (h : valT kvs k = none) : putKT kvs k v = kvs ++ [(k, v)] := by
 unfold putKT
 rw [if_neg]
 intro z
 obtain ⟨p, hp, e⟩ := List.any_eq_true.mp z
 have e : p.1 = k := of_decide_eq_true e
 have : (kvs.find? fun kv => decide (kv.1 = k)) ≠ none := by
  rw [Ne, List.find?_eq_none]
  intro y
  exact y p hp (decide_eq_true e)
 unfold valT at h
 cases e2 : kvs.find? fun kv => decide (kv.1 = k) with
 | none => exact this e2
 | some y => rw [e2] at h; cases h
theorem HeldIs.put {kvs : List (Key × T)} {B : List Blk} (h : HeldIs kvs B) (q : Blk) (n : ∀ p ∈ B, p.1 ≠ q.1) : HeldIs (putKT kvs (.inl q.1) (.tup [.int q.2.1, .int q.2.2])) (B ++ [q]) := by
 rw [put_new (h.non n)]
 refine ⟨?_, ?_⟩
 ·rw [List.map_append, List.nodup_append]
  refine ⟨h.1, by simp, fun a ha b hb e => ?_⟩
  have hb : b = .inl q.1 := by simpa using hb
  subst hb
  obtain ⟨p, hp, ep⟩ := List.mem_map.mp ha
  have := valT_in h.1 (show (p.1, p.2) ∈ kvs from hp)
  rw [ep, e, h.non n] at this
  cases this
 ·rw [List.map_append]
  exact h.2.append (.refl _)
theorem HeldIs.drop {kvs : List (Key × T)} {B1 B2 : List Blk} {q : Blk} (h : HeldIs kvs (B1 ++ q :: B2)) (n : ∀ p ∈ B1 ++ B2, p.1 ≠ q.1) : HeldIs (dropKT kvs (.inl q.1)) (B1 ++ B2) := by
 unfold dropKT
 refine ⟨h.1.sublist ((List.filter_sublist).map _), ?_⟩
 have := h.2.filter fun kv => decide (kv.1 ≠ (.inl q.1 : Key))
 refine this.trans ?_
 have keep : ∀ B : List Blk, (∀ p ∈ B, p.1 ≠ q.1) → (B.map kvOf).filter (fun kv => decide (kv.1 ≠ (.inl q.1 : Key))) = B.map kvOf := fun B hB => by
  rw [List.filter_eq_self]
  intro kv hkv
  obtain ⟨p, hp, rfl⟩ := List.mem_map.mp hkv
  exact decide_eq_true fun z => hB p hp (Sum.inl.inj z)
 rw [List.map_append, List.map_cons, List.filter_append, List.filter_cons, if_neg (by simp [kvOf]), keep B1 fun p hp => n p (by simp [hp]), keep B2 fun p hp => n p (by simp [hp]), ← List.map_append]
end
theorem drop_mid {α : Type} : ∀ (L : List α) (g : α) (R : List α), (L ++ g :: R).drop (L.length + 1) = R
 | [], g, R => rfl
 | x :: r, g, R => drop_mid r g R
section
variable {P : Program} {w : World} {K : PySem.W.Frag} {mg : Str → Option Value} {base : Heap} {f C cNoRoom cNoBlock cWrongHand : Addr} {fd : FuncData}
abbrev s_Store_give : Stmt := mem 16 3
theorem sc_Store_give : FnScope ["self", "hand", "address", "many", "taker"] ["self", "hand", "address"] (defScope s_Store_give) := ⟨rfl, rfl, rfl, by decide +kernel, rfl, by decide +kernel, by decide +kernel⟩
def spGx (C cNoBlock cWrongHand : Addr) : Sp3 := fun ts Γ Z Y => ∃ (x : Addr) (own : List Addr) (ad hand size : Int) (B : List Blk) (nd : Nat), ts = [.ref x, .int hand, .int ad] ∧ StO Γ C x own size B (nd + 1) ∧ (∀ (B1 B2 : List Blk) (len : Int) (Γ' : Gp), B = B1 ++ (ad, len, hand) :: B2 → StO Γ' C x own size (B1 ++ B2) nd → Kq own Γ Γ' → Z .non Γ') ∧ ((∀ q ∈ B, q.1 ≠ ad) → Y (.ref cNoBlock) Γ) ∧ (∀ q ∈ B, q.1 = ad → q.2.2 ≠ hand → Y (.ref cWrongHand) Γ)
theorem ok_give (F : Fun K "give" "Store.give" s_Store_give f fd) (c_Store_widen : ClM P w K mg base C "widen" 2 ["self", "begin", "end"] (spWi C)) (cls_Store : Cls K C) (n_Store_held : NoAttr K C "held") (n_Store_cells : NoAttr K C "cells") (n_Store_deeds : NoAttr K C "deeds") (m_NoBlock : mg "NoBlock" = some (.ref cNoBlock)) (x_NoBlock : PySem.W.excIn K cNoBlock [.type "ValueError", .type "Exception", .type "BaseException", .type "object"] "ValueError.__new__" = true) (m_WrongHand : mg "WrongHand" = some (.ref cWrongHand)) (x_WrongHand : PySem.W.excIn K cWrongHand [.type "ValueError", .type "Exception", .type "BaseException", .type "object"] "ValueError.__new__" = true) : FnOk P w K mg base (CXe P w) 3 f fd ["self", "hand", "address"] (liSp (spGx C cNoBlock cWrongHand)) := by
 refine okdX F sc_Store_give (fun ts Γ Z Y h => ?_) (fun cdv A outer s H E ts Γ Z Y hr h => ?_)
 ·obtain ⟨x, own, ad, hand, size, B, nd, rfl, _⟩ := h
  rfl
 obtain ⟨x, own, ad, hand, size, B, nd, rfl, ⟨pc, pg, ph, pd, G, kvs, rfl, st, si, he⟩, q, qB, qW⟩ := h
 refine ⟨_, (qss_cons (qs_if (qt_cmpR (oq_dNin (Nat.lt_of_le_of_lt (Nat.add_le_add_left (by decide : 1 ≤ 64) _) hr.units)) (qv 2) (qe_fld cls_Store n_Store_held (qv 0)) (by with_unfolding_all rfl)) (qss_cons (qs_raise rfl rfl m_NoBlock x_NoBlock PySem.F.excBase_ValueError (qa_cons qe_str qa_nil) raise_def)
  qss_nil) qss_nil)
  (qss_cons (qs_asg (qe_dget (Nat.lt_of_le_of_lt (Nat.add_le_add_left (by decide : 1 ≤ 64) _) hr.units) (qe_fld cls_Store n_Store_held (qv 0)) (qv 2)) (qg_tup (n := 2) rfl (qgs_cons (qg_name (i := 3) sc_Store_give.nd rfl (Or.inl rfl)) (qgs_cons (qg_name (i := 4) sc_Store_give.nd rfl (Or.inl rfl)) qgs_nil))))
  (qss_cons (qs_if (qt_cmpR oq_ne (qv 1) (qv 4) (nomark _)) (qss_cons (qs_raise rfl rfl m_WrongHand x_WrongHand PySem.F.excBase_ValueError (qa_cons qe_str qa_nil) raise_def)
  qss_nil) qss_nil)
  (qss_cons (qs_ddel (qe_fld cls_Store n_Store_held (qv 0)) (qv 2))
  (qss_cons (qs_setSl (qe_op oq_repL (qe_lst (qa_cons qe_non qa_nil)) (qv 3)) (qe_fld cls_Store n_Store_cells (qv 0)) (qo_some (qv 2)) (qo_some (qe_op oq_add (qv 2) (qv 3))))
  (qss_cons (qs_expr (qe_meth c_Store_widen hr (by omega) (qv 0) (qa_cons (qv 2) (qa_cons (qe_op oq_add (qv 2) (qv 3)) qa_nil))))
  (qss_cons (qs_expr (qe_bm PySem.F.plainAttrs_list PySem.F.slot_list_append PySem.F.type_list_append mq_append (qe_fld cls_Store n_Store_deeds (qv 0)) (qa_cons (qe_tup (qa_cons qe_str (qa_cons (qv 1) (qa_cons (qv 2) qa_nil)))) qa_nil)))
  qss_nil))))))), ?_⟩
 simp only [start3]
 obtain ⟨dx, gx⟩ := st.ins
 have gh := st.held
 have ne := st.ne
 by_cases hex : ∃ q ∈ B, q.1 = ad
 rotate_left
 ·have no : ∀ q ∈ B, q.1 ≠ ad := fun q hq z => hex ⟨q, hq, z⟩
  unfold eDGet cDDel cSetSl
  and_intros
  refine ⟨ph, kvs, .inl ad, rfl, rfl, gh, ?_⟩
  rw [he.non no]
  and_intros
  exact ⟨_, .refl, qB no⟩
 obtain ⟨⟨ad', len, hand'⟩, hq0, ead⟩ := hex
 have ead : ad' = ad := ead
 subst ead
 by_cases eh : hand' = hand
 rotate_left
 ·have vq := he.val hq0
  have vq : valT kvs (.inl ad') = some (.tup [.int len, .int hand']) := vq
  unfold eDGet cDDel cSetSl
  and_intros
  refine ⟨ph, kvs, .inl ad', rfl, rfl, gh, ?_⟩
  rw [vq]
  and_intros
  refine ⟨ph, kvs, .inl ad', _, rfl, rfl, gh, vq, ?_⟩
  and_intros
  refine c_ifT (by rw [decide_eq_false fun z => eh (V.int.inj z).symm]; rfl) ?_
  and_intros
  exact ⟨_, .refl, qW _ hq0 rfl eh⟩
 subst eh
 obtain ⟨B1, B2, eB⟩ := List.append_of_mem hq0
 subst eB
 have q := fun Γ' => q B1 B2 len Γ' rfl
 clear qB qW hq0
 have mq : (ad', len, hand') ∈ B1 ++ (ad', len, hand') :: B2 := by simp
 have vq := he.val mq
 have vq : valT kvs (.inl ad') = some (.tup [.int len, .int hand']) := vq
 have hp := si.pos _ mq
 have hp1 : 1 ≤ ad' := hp.1
 have hp2 : 1 ≤ len := hp.2.1
 have hp3 : ad' + len ≤ size + 1 := hp.2.2
 have sz := st.sz
 unfold eDGet cDDel cSetSl
 and_intros
 refine ⟨ph, kvs, .inl ad', rfl, rfl, gh, ?_⟩
 rw [vq]
 and_intros
 refine ⟨ph, kvs, .inl ad', _, rfl, rfl, gh, vq, ?_⟩
 and_intros
 refine c_ifF (by rw [decide_eq_true rfl]; rfl) ?_
 and_intros
 refine ⟨ph, kvs, .inl ad', rfl, rfl, gh, by rw [vq]; rfl, ?_⟩
 generalize e1 : up Γ ph (O.dK _) = Γ1; have gh1 := al_g e1; have k1 : Kq [ph] Γ Γ1 := e1 ▸ .set (by simp) _
 have st1 : StF Γ1 C x pc pg ph pd size G (dropKT kvs (.inl ad')) (nd + 1) := by
  obtain ⟨cs, hc, lc⟩ := st.cells
  obtain ⟨ds, hd, ld⟩ := st.deeds
  exact ⟨⟨dx, k1 _ _ (by simpa using ne.2.2.1) gx⟩, ⟨cs, k1 _ _ (by simpa using ne.2.2.2.2.1.symm) hc, lc⟩, k1 _ _ (by simpa using ne.2.2.2.2.2.1.symm) st.gaps, gh1, ⟨ds, k1 _ _ (by simpa using ne.2.2.2.2.2.2.symm) hd, ld⟩, st.n1, st.n2, st.n3, st.sz⟩
 clear e1
 obtain ⟨dx1, gx1⟩ := st1.ins
 and_intros
 intro p2 hp2; generalize e2 : up _ p2 (O.lst _) = Γ2; have g2 := al_g e2; have l2 := al_l e2 hp2
 and_intros
 refine ⟨p2, len, _, rfl, rfl, g2, by omega, by omega, by show 1 * _ ≤ _; rw [sizeLine_eq]; omega, ?_⟩
 intro p3 hp3; generalize e3 : up _ p3 (O.lst _) = Γ3; have g3 := al_g e3; have l3 := al_l e3 hp3
 have st3 := st1.le (l := []) (l2.trans l3).kq (by simp) (by simp) (by simp) (by simp) (by simp)
 obtain ⟨cs, hc3, lc⟩ := st3.cells
 obtain ⟨dx3, gx3⟩ := st3.ins
 obtain ⟨cs1, hc1, lc1⟩ := st1.cells
 have ncp : pc ≠ p3 := gnn (l2 _ _ hc1) hp3
 clear e2 e3
 and_intros
 refine ⟨pc, p3, cs, _, ad', ad' + len, rfl, rfl, rfl, rfl, hc3, g3, ncp, by omega, by omega, by omega, by rw [flat_rep, List.length_replicate, sizeLine_eq]; omega, ?_⟩
 generalize e4 : up Γ3 pc (O.lst _) = Γ4; have gc4 := al_g e4; have k4 : Kq [pc] Γ3 Γ4 := e4 ▸ .set (by simp) _
 have st4 : StF Γ4 C x pc pg ph pd size G (dropKT kvs (.inl ad')) (nd + 1) := by
  obtain ⟨ds, hd, ld⟩ := st3.deeds
  refine ⟨⟨dx3, k4 _ _ (by simpa using ne.1) gx3⟩, ⟨_, gc4, ?_⟩, k4 _ _ (by simpa using st.n1.symm) st3.gaps, k4 _ _ (by simpa using ne.2.2.2.2.1) st3.held, ⟨ds, k4 _ _ (by simpa using st.n2.symm) hd, ld⟩, st.n1, st.n2, st.n3, st.sz⟩
  rw [flat_rep, List.length_append, List.length_append, List.length_take, List.length_drop, List.length_replicate]
  omega
 obtain ⟨dx4, gx4⟩ := st4.ins
 clear e4
 and_intros
 refine ⟨x, pc, pg, ph, pd, ad', ad' + len, size, G, _, nd + 1, rfl, st4, si.sep, by have := si.glen sz.1; omega, by omega, by omega, fun L R eG hL hR => si.sides mq eG hL hR, ?_⟩
 intro L R b' e' Γ5 hG sL sR b0 hL be st5 k5
 have si5 : SI size (B1 ++ B2) (L ++ (b', e') :: R) := si.give rfl hG sL sR b0 hL be
 obtain ⟨dx5, gx5⟩ := st5.ins
 obtain ⟨ds, hd5, ld⟩ := st5.deeds
 and_intros
 refine t_tyL hd5 ?_
 and_intros
 refine ⟨pd, _, _, rfl, rfl, hd5, by rw [sizeLine_eq]; omega, ?_⟩
 generalize e6 : up Γ5 pd (O.lst _) = Γ6; have gd6 := al_g e6; have k6 : Kq [pd] Γ5 Γ6 := e6 ▸ .set (by simp) _
 and_intros
 have st6 : StF Γ6 C x pc pg ph pd size (L ++ (b', e') :: R) (dropKT kvs (.inl ad')) nd := by
  obtain ⟨cs5, hc5, lc5⟩ := st5.cells
  refine ⟨⟨dx5, k6 _ _ (by simpa using ne.2.2.2.1) gx5⟩, ⟨_, k6 _ _ (by simpa using st.n2) hc5, lc5⟩, k6 _ _ (by simpa using st.n3) st5.gaps, k6 _ _ (by simpa using ne.2.2.2.2.2.2) st5.held, ⟨_, gd6, ?_⟩, st.n1, st.n2, st.n3, st.sz⟩
  rw [List.length_append]
  show ds.length + 1 + nd ≤ 1000000
  omega
 have kA : Kq [pc, pg, ph, pd] Γ Γ6 := by
  have a1 : Kq [pc, pg, ph, pd] Γ Γ1 := k1.mono (by simp)
  have a2 : Kq [pc, pg, ph, pd] Γ1 Γ3 := (l2.trans l3).kq
  have a4 : Kq [pc, pg, ph, pd] Γ3 Γ4 := k4.mono (by simp)
  have a5 : Kq [pc, pg, ph, pd] Γ4 Γ5 := k5.mono (by simp)
  have a6 : Kq [pc, pg, ph, pd] Γ5 Γ6 := k6.mono (by simp)
  exact (((a1.trans a2).trans a4).trans a5).trans a6
 exact drop0 .refl (q Γ6 ⟨pc, pg, ph, pd, _, _, rfl, st6, si5, he.drop si.diff⟩ kA)
abbrev s_Store_take : Stmt := mem 16 1
theorem sc_Store_take : FnScope ["self", "hand", "many", "place", "begin", "end", "rest"] ["self", "hand", "many"] (defScope s_Store_take) := ⟨rfl, rfl, rfl, by decide +kernel, rfl, by decide +kernel, by decide +kernel⟩
def Pl (size : Int) (B : List Blk) (many b : Int) : Prop := 1 ≤ many ∧ (b = 1 ∨ ∃ q ∈ B, b = q.1 + q.2.1) ∧ Fits size B b many ∧ ∀ at_, 1 ≤ at_ → Fits size B at_ many → b ≤ at_
def NoPl (size : Int) (B : List Blk) (many : Int) : Prop := many < 1 ∨ ∀ at_, 1 ≤ at_ → ¬ Fits size B at_ many
def spTk (C cNoRoom : Addr) : Sp3 := fun ts Γ Z Y => ∃ (x : Addr) (own : List Addr) (hand many size : Int) (B : List Blk) (nd : Nat), ts = [.ref x, .int hand, .int many] ∧ StO Γ C x own size B (nd + 1) ∧ B.length ≤ 100000 ∧
 (∀ (b : Int) (Γ' : Gp), Pl size B many b → StO Γ' C x own size (B ++ [(b, many, hand)]) nd → Kq own Γ Γ' → Z (.int b) Γ') ∧ (NoPl size B many → Y (.ref cNoRoom) Γ)
theorem ok_take (F : Fun K "take" "Store.take" s_Store_take f fd) (c_Store_first_gap : ClMx P w K mg base C "first_gap" 1 ["self", "many"] (spFg C cNoRoom)) (cls_Store : Cls K C) (n_Store_held : NoAttr K C "held") (n_Store_cells : NoAttr K C "cells") (n_Store_deeds : NoAttr K C "deeds") (n_Store_gaps : NoAttr K C "gaps") (m_NoRoom : mg "NoRoom" = some (.ref cNoRoom)) (x_NoRoom : PySem.W.excIn K cNoRoom [.type "ValueError", .type "Exception", .type "BaseException", .type "object"] "ValueError.__new__" = true) : FnOk P w K mg base (CXe P w) 2 f fd ["self", "hand", "many"] (liSp (spTk C cNoRoom)) := by
 refine okdX F sc_Store_take (fun ts Γ Z Y h => ?_) (fun cdv A outer s H E ts Γ Z Y hr h => ?_)
 ·obtain ⟨x, own, hand, many, size, B, nd, rfl, _⟩ := h
  rfl
 obtain ⟨x, own, hand, many, size, B, nd, rfl, ⟨pc, pg, ph, pd, G, kvs, rfl, st, si, he⟩, bl, q, qE⟩ := h
 refine ⟨_, (qss_cons (qs_if (qt_cmpR oq_lt (qv 2) qe_int (nomark _)) (qss_cons (qs_raise rfl rfl m_NoRoom x_NoRoom PySem.F.excBase_ValueError (qa_cons qe_str qa_nil) raise_def)
  qss_nil) qss_nil)
  (qss_cons (qs_set (i := 3) sc_Store_take.nd rfl (Or.inl rfl) (qe_methX c_Store_first_gap hr (by omega) pass_def (qv 0) (qa_cons (qv 2) qa_nil)))
  (qss_cons (qs_asg (qe_ix (qe_fld cls_Store n_Store_gaps (qv 0)) (qv 3) (fun _ _ => rfl)) (qg_tup (n := 2) rfl (qgs_cons (qg_name (i := 4) sc_Store_take.nd rfl (Or.inl rfl)) (qgs_cons (qg_name (i := 5) sc_Store_take.nd rfl (Or.inl rfl)) qgs_nil))))
  (qss_cons (qs_set (i := 6) sc_Store_take.nd rfl (Or.inl rfl) (qe_op oq_add (qv 4) (qv 2)))
  (qss_cons (qs_setSl (qe_ifExp (qt_cmpR oq_lt (qv 6) (qv 5) (nomark _)) (qe_lst (qa_cons (qe_tup (qa_cons (qv 6) (qa_cons (qv 5) qa_nil))) qa_nil)) (qe_lst qa_nil)) (qe_fld cls_Store n_Store_gaps (qv 0)) (qo_some (qv 3)) (qo_some (qe_op oq_add (qv 3) qe_int)))
  (qss_cons (qs_setSl (qe_op oq_repL (qe_lst (qa_cons qe_int qa_nil)) (qv 2)) (qe_fld cls_Store n_Store_cells (qv 0)) (qo_some (qv 4)) (qo_some (qv 6)))
  (qss_cons (qs_dput (Nat.lt_of_le_of_lt (Nat.add_le_add_left (by decide : 1 ≤ 64) _) hr.units) (qe_fld cls_Store n_Store_held (qv 0)) (qv 4) (qe_tup (qa_cons (qv 2) (qa_cons (qv 1) qa_nil))))
  (qss_cons (qs_expr (qe_bm PySem.F.plainAttrs_list PySem.F.slot_list_append PySem.F.type_list_append mq_append (qe_fld cls_Store n_Store_deeds (qv 0)) (qa_cons (qe_tup (qa_cons qe_str (qa_cons (qv 1) (qa_cons (qv 4) (qa_cons (qv 2) qa_nil))))) qa_nil)))
  (qss_cons (qs_ret (qv 4))
  qss_nil))))))))), ?_⟩
 simp only [start3]
 obtain ⟨dx, gx⟩ := st.ins
 have gg := st.gaps
 have ne := st.ne
 have sz := st.sz
 unfold cSetSl cDPut eMethX
 and_intros
 refine c_if (fun c => ?_) (fun c => ?_)
 ·have c := of_decide_eq_true c
  and_intros
  exact ⟨_, .refl, qE (.inl c)⟩
 have c := of_decide_eq_false c
 have m1 : 1 ≤ many := by omega
 and_intros
 refine ⟨x, pc, pg, ph, pd, many, size, G, kvs, nd + 1, rfl, st, by have := si.glen sz.1; omega, ?_, fun no => ⟨_, .refl, qE (.inr (no_place si m1 no))⟩⟩
 intro L R b e eG hL be
 obtain ⟨c1, c2, c3⟩ := the_place si eG m1 hL be
 have mg' : (b, e) ∈ G := by rw [eG]; simp
 have gz := si.size_ge mg'
 have gz1 : 1 ≤ b := gz.1
 have gz3 : e ≤ size + 1 := gz.2.2
 have eg : (G.map gpT)[L.length]? = some (gpT (b, e)) := by rw [eG, List.getElem?_map, List.getElem?_append_right (Nat.le_refl _), Nat.sub_self]; rfl
 have gl : G.length ≤ 100001 := by have := si.glen sz.1; omega
 have ll : L.length + (R.length + 1) = G.length := by rw [eG, List.length_append]; rfl
 and_intros
 refine t_ixR gg (atI_nat eg) ?_
 unfold gpT
 and_intros
 refine c_if (fun c4 => ?_) (fun c4 => ?_)
 all_goals
  and_intros
  intro pn hpn; generalize e1 : up _ pn (O.lst _) = Γ1; have gn := al_g e1; have l1 := al_l e1 hpn
  have gn : Γ1 pn = some (.lst ((restG b many e).map gpT)) := by
   rw [gn]
   unfold restG
   first
    | (rw [if_pos (of_decide_eq_true c4)]; rfl)
    | (rw [if_neg (of_decide_eq_false c4)]; rfl)
  have ngn : pg ≠ pn := gnn gg hpn
  have st1 := st.le (l := []) l1.kq (by simp) (by simp) (by simp) (by simp) (by simp)
  have gx1 := l1 _ _ gx
  have rl : (restG b many e).length ≤ 1 := by unfold restG; split <;> simp
  clear e1
  and_intros
  refine ⟨pg, pn, _, _, (L.length : Nat), (L.length : Nat) + 1, rfl, rfl, rfl, rfl, st1.gaps, gn, ngn, by omega, by omega, by rw [List.length_map]; omega, by rw [List.length_map, List.length_map, sizeLine_eq]; omega, ?_⟩
  generalize e2 : up Γ1 pg (O.lst _) = Γ2; have gg2 := al_g e2; have k2 : Kq [pg] Γ1 Γ2 := e2 ▸ .set (by simp) _
  have gg2 : Γ2 pg = some (.lst ((L ++ restG b many e ++ R).map gpT)) := by
   rw [gg2, eG]
   congr 2
   rw [show (((L.length : Nat) : Int) + 1).toNat = L.length + 1 by omega, Int.toNat_natCast, ← List.map_take, ← List.map_drop, ← List.map_append, ← List.map_append, List.take_append_of_le_length (Nat.le_refl _), List.take_length, drop_mid]
  have gx2 := k2 _ _ (by simpa using ne.2.1) gx1
  obtain ⟨cs, hc1, lc⟩ := st1.cells
  have hc2 := k2 _ _ (by simpa using st.n1) hc1
  have hh2 := k2 _ _ (by simpa using ne.2.2.2.2.2.1) st1.held
  obtain ⟨ds, hd1, ld⟩ := st1.deeds
  have hd2 := k2 _ _ (by simpa using st.n3.symm) hd1
  clear e2
  and_intros
  intro p3 hp3; generalize e3 : up _ p3 (O.lst _) = Γ3; have g3 := al_g e3; have l3 := al_l e3 hp3
  and_intros
  refine ⟨p3, many, _, rfl, rfl, g3, by omega, by omega, by show 1 * _ ≤ _; rw [sizeLine_eq]; omega, ?_⟩
  intro p4 hp4; generalize e4 : up _ p4 (O.lst _) = Γ4; have g4 := al_g e4; have l4 := al_l e4 hp4
  have l24 := l3.trans l4
  have ncp : pc ≠ p4 := gnn (l3 _ _ hc2) hp4
  have gx4 := l24 _ _ gx2
  clear e3 e4
  and_intros
  refine ⟨pc, p4, cs, _, b, b + many, rfl, rfl, rfl, rfl, l24 _ _ hc2, g4, ncp, by omega, by omega, by omega, by rw [flat_rep, List.length_replicate, sizeLine_eq]; omega, ?_⟩
  generalize e5 : up Γ4 pc (O.lst _) = Γ5; have gc5 := al_g e5; have k5 : Kq [pc] Γ4 Γ5 := e5 ▸ .set (by simp) _
  have gx5 := k5 _ _ (by simpa using ne.1) gx4
  have gg5 := k5 _ _ (by simpa using st.n1.symm) (l24 _ _ gg2)
  have hh5 := k5 _ _ (by simpa using ne.2.2.2.2.1) (l24 _ _ hh2)
  have hd5 := k5 _ _ (by simpa using st.n2.symm) (l24 _ _ hd2)
  have lc5 : (((cs.take b.toNat ++ (List.replicate many.toNat [T.int 0]).flatten ++ cs.drop (b + many).toNat).length : Nat) : Int) = size + 1 := by
   rw [flat_rep, List.length_append, List.length_append, List.length_take, List.length_drop, List.length_replicate]
   omega
  clear e5
  and_intros
  refine ⟨ph, kvs, .inl b, rfl, rfl, hh5, by rw [he.len, sizeLine_eq]; omega, ?_⟩
  generalize e6 : up Γ5 ph (O.dK _) = Γ6; have gh6 := al_g e6; have k6 : Kq [ph] Γ5 Γ6 := e6 ▸ .set (by simp) _
  have gx6 := k6 _ _ (by simpa using ne.2.2.1) gx5
  have gg6 := k6 _ _ (by simpa using ne.2.2.2.2.2.1.symm) gg5
  have gc6 := k6 _ _ (by simpa using ne.2.2.2.2.1.symm) gc5
  have hd6 := k6 _ _ (by simpa using ne.2.2.2.2.2.2.symm) hd5
  clear e6
  and_intros
  refine t_tyL hd6 ?_
  and_intros
  refine ⟨pd, _, _, rfl, rfl, hd6, by rw [sizeLine_eq]; omega, ?_⟩
  generalize e7 : up Γ6 pd (O.lst _) = Γ7; have gd7 := al_g e7; have k7 : Kq [pd] Γ6 Γ7 := e7 ▸ .set (by simp) _
  clear e7
  and_intros
  have fq : ∀ p ∈ B, p.1 ≠ b := fun p hp z => by
   have := c2.2 p hp
   have := (si.pos p hp).2.1
   omega
  have st7 : StF Γ7 C x pc pg ph pd size (L ++ restG b many e ++ R) (putKT kvs (.inl b) (.tup [.int many, .int hand])) nd := by
   refine ⟨⟨dx, k7 _ _ (by simpa using ne.2.2.2.1) gx6⟩, ⟨_, k7 _ _ (by simpa using st.n2) gc6, lc5⟩, k7 _ _ (by simpa using st.n3) gg6, k7 _ _ (by simpa using ne.2.2.2.2.2.2) gh6, ⟨_, gd7, ?_⟩, st.n1, st.n2, st.n3, st.sz⟩
   rw [List.length_append]
   show ds.length + 1 + nd ≤ 1000000
   omega
  have kA : Kq [pc, pg, ph, pd] Γ Γ7 := by
   have a1 : Kq [pc, pg, ph, pd] Γ Γ1 := l1.kq
   have a2 : Kq [pc, pg, ph, pd] Γ1 Γ2 := k2.mono (by simp)
   have a3 : Kq [pc, pg, ph, pd] Γ2 Γ4 := l24.kq
   have a5 : Kq [pc, pg, ph, pd] Γ4 Γ5 := k5.mono (by simp)
   have a6 : Kq [pc, pg, ph, pd] Γ5 Γ6 := k6.mono (by simp)
   have a7 : Kq [pc, pg, ph, pd] Γ6 Γ7 := k7.mono (by simp)
   exact ((((a1.trans a2).trans a3).trans a5).trans a6).trans a7
  exact drop0 .refl (q b Γ7 ⟨m1, c1, c2, c3⟩ ⟨pc, pg, ph, pd, _, _, rfl, st7, si.take eG m1 be, he.put (b, many, hand) fq⟩ kA)
end
inductive Sm : Nat → T → Prop
 | non {d : Nat} : Sm d .non
 | int {d : Nat} (i : Int) : Sm d (.int i)
 | str {d : Nat} {z : Str} (l : z.length ≤ 1000) : Sm d (.str z)
 | tup {d : Nat} {ts : List T} (l : ts.length ≤ 999) (h : ∀ t ∈ ts, Sm d t) : Sm (d + 1) (.tup ts)
theorem Sm.up {d : Nat} {t : T} (h : Sm d t) : ∀ {e : Nat}, d ≤ e → Sm e t := by
 induction h with
 | non => exact fun _ => .non
 | int i => exact fun _ => .int i
 | str l => exact fun _ => .str l
 | @tup d ts l _ ih =>
  intro e he
  obtain ⟨e, rfl⟩ : ∃ e', e = e' + 1 := ⟨e - 1, by omega⟩
  exact .tup l fun t ht => ih t ht (by omega)
theorem Sm.pt {Γ : Gp} {d : Nat} {t : T} (h : Sm d t) : Pt Γ t := by
 induction h with
 | non => exact .non
 | int i => exact .int i
 | str l => exact .str l
 | tup l _ ih => exact .tup l ih
theorem in_list {K : PySem.W.Frag} {Γ : Gp} {d : Nat} {t : T} (h : Sm d t) : ∃ n, tyOf Γ t = some n ∧ PySem.W.kitOne K (.type n) (.type "list") = some false := by
 cases h with
 | _ => exact ⟨_, rfl, rfl⟩
section
variable {P : Program} {w : World} {K : PySem.W.Frag} {mg : Str → Option Value} {base : Heap} {f C cNoRoom cNoBlock cWrongHand cGateError : Addr} {fd : FuncData}
abbrev s_law_alike : Stmt := top 22
theorem sc_law_alike : FnScope ["found", "due"] ["found", "due"] (defScope s_law_alike) := ⟨rfl, rfl, rfl, by decide +kernel, rfl, by decide +kernel, by decide +kernel⟩
def spAk (n : Nat) : Sp3 := fun ts Γ Z _ => ∃ (t u : T) (d : Nat), ts = [t, u] ∧ ((u = t ∧ Sm d t) ∨ ∃ (p p2 : Addr) (us : List T) (d' : Nat), d = d' + 1 ∧ t = .ref p ∧ u = .ref p2 ∧ Γ p = some (.lst us) ∧ Γ p2 = some (.lst us) ∧ us.length ≤ 999 ∧ ∀ y ∈ us, Sm d' y) ∧ d < n ∧ Z (.bl true) Γ
theorem ok_alike {n lv : Nat} (F : Fun K "_law_alike" "_law_alike" s_law_alike f fd) (c_law_alike : Cl3 P w K mg base "_law_alike" lv ["found", "due"] (spAk n)) (z_isinstance : mg "isinstance" = none) (z_tuple : mg "tuple" = none) (z_list : mg "list" = none) (z_len : mg "len" = none) (z_all : mg "all" = none) (z_zip : mg "zip" = none) (z_str : mg "str" = none) (z_int : mg "int" = none) (z_bool : mg "bool" = none) : FnOk P w K mg base CX0 (lv + 1) f fd ["found", "due"] (liSp (spAk (n + 1))) := by
 refine okd F sc_law_alike (fun ts Γ Z Y h => ?_) (fun cdv A outer s H E ts Γ Z Y hr h => ?_)
 ·obtain ⟨t, u, d, rfl, _⟩ := h
  rfl
 obtain ⟨t, u, d, rfl, hs, hd, q⟩ := h
 refine ⟨_, (qss_cons (qs_if (qt_cmpR oq_isN (qv 1) qe_non (nomark _)) (qss_cons (qs_ret (qe_cmpR oq_isN (qv 0) qe_non (nomark _)))
  qss_nil) qss_nil)
  (qss_cons (qs_if (qt_val (qe_inst rfl z_isinstance rfl z_int bt_int (qv 1))) (qss_cons (qs_ret (qe_and (qe_inst rfl z_isinstance rfl z_int bt_int (qv 0)) (qe_and (qe_not (qe_inst rfl z_isinstance rfl z_bool bt_bool (qv 0))) (qe_one (qe_cmpR oq_eq (qv 0) (qv 1) (nomark _))))))
  qss_nil) qss_nil)
  (qss_cons (qs_if (qt_val (qe_inst rfl z_isinstance rfl z_str bt_str (qv 1))) (qss_cons (qs_ret (qe_and (qe_inst rfl z_isinstance rfl z_str bt_str (qv 0)) (qe_one (qe_cmpR oq_eq (qv 0) (qv 1) (nomark _)))))
  qss_nil) qss_nil)
  (qss_cons (qs_if (PW.pt (qw_or (qt_cmpR oq_ne (qe_inst rfl z_isinstance rfl z_tuple bt_tuple (qv 1)) (qe_inst rfl z_isinstance rfl z_tuple bt_tuple (qv 0)) (nomark _)) (qw_or1 (qt_cmpR oq_ne (qe_inst rfl z_isinstance rfl z_list bt_list (qv 1)) (qe_inst rfl z_isinstance rfl z_list bt_list (qv 0)) (nomark _))))) (qss_cons (qs_ret qe_bl)
  qss_nil) qss_nil)
  (qss_cons (qs_if (qt_cmpR oq_ne (qe_callB cq_len rfl z_len PySem.boot_len (qa_cons (qv 0) qa_nil)) (qe_callB cq_len rfl z_len PySem.boot_len (qa_cons (qv 1) qa_nil)) (nomark _)) (qss_cons (qs_ret qe_bl)
  qss_nil) qss_nil)
  (qss_cons (qs_ret (qe_callB (cq_all rfl) rfl z_all PyProof.Rows.boot_all (qa_cons (qe_comp (own := ["one", "other"]) (cap := []) (compOk0 rfl (by decide +kernel) (by decide +kernel)) rfl (qi_or (qi_zip rfl z_zip (qa_cons (qv 0) (qa_cons (qv 1) qa_nil))) (qi_zipN rfl z_zip (qa_cons (qv 0) (qa_cons (qv 1) qa_nil)))) (fun _ _ _ _ => (qg_tup (n := 2) rfl (qgs_cons (qg_name (i := 0) (show List.Nodup (["one", "other"] : List Str) from by decide +kernel) rfl (Or.inl rfl) (Or.inr rfl)) (qgs_cons (qg_name (i := 1) (show List.Nodup (["one", "other"] : List Str) from by decide +kernel) rfl (Or.inl rfl) (Or.inr rfl)) qgs_nil)))) (fun _ _ _ _ => qts_nil) (fun _ _ _ _ => (qe_call c_law_alike hr (by omega) rfl (qa_cons (qv 0) (qa_cons (qv 1) qa_nil))))) qa_nil)))
  qss_nil)))))), ?_⟩
 simp only [start3]
 unfold iOr
 rcases hs with ⟨rfl, hs⟩ | ⟨p, p2, us, d', rfl, rfl, rfl, gp, gp2, ul, hs⟩
 rotate_left
 ·have pt : Pt Γ (.ref p) := .lst gp
  have pt2 : Pt Γ (.ref p2) := .lst gp2
  and_intros
  and_intros
  refine t_in (in_int pt2) ?_
  and_intros
  and_intros
  refine t_in (in_str pt2) ?_
  and_intros
  and_intros
  refine t_in (in_tup pt2) ?_
  and_intros
  refine t_in (in_tup pt) ?_
  refine ⟨.bl false, .bl false, rfl, rfl, rfl, ?_⟩
  and_intros
  refine ⟨_, true, ty_lst gp2, rfl, ?_⟩
  and_intros
  refine ⟨_, true, ty_lst gp, rfl, ?_⟩
  refine ⟨.bl true, .bl true, rfl, rfl, rfl, ?_⟩
  and_intros
  refine t_lenR gp ?_
  and_intros
  refine t_lenR gp2 ?_
  and_intros
  refine c_ifF (by rw [decide_eq_true rfl]; rfl) ?_
  and_intros
  refine .inr ?_
  unfold iZn
  and_intros
  refine ⟨p, p2, us, us, rfl, gp, gp2, ?_⟩
  rw [zip_self]
  refine ⟨Nat.le_of_lt (small1000 (by rw [List.length_map]; omega)), ?_⟩
  refine ⟨fun rest τ ys Γ' => ∃ (ds rs : List T) (o0 o1 : Option T), rest = rs.map (fun y => T.tup [y, y]) ∧ us = ds ++ rs ∧ τ = [o0, o1] ∧ ys = (ds.map fun _ => true).map T.bl ∧ Γ' = Γ, ⟨[], us, none, none, rfl, rfl, rfl, rfl, rfl⟩, ?_, ?_⟩
  ·rintro τ ys Γ' ⟨ds, rs, o0, o1, er, ez, rfl, rfl, rfl⟩
   refine ⟨⟨gp, gp2⟩, ?_⟩
   intro p1 hp1; generalize e1 : up _ p1 (O.lst _) = Γ1; have g1 := al_g e1; have l1 := al_l e1 hp1
   and_intros
   refine ⟨p1, _, rfl, it3_l g1, ?_⟩
   rw [show (ds.map fun _ => true).all id = true by rw [List.all_eq_true]; intro b hb; obtain ⟨_, _, rfl⟩ := List.mem_map.mp hb; rfl]
   exact drop0 l1 q
  ·rintro x r τ ys Γ' ⟨ds, rs, o0, o1, er, ez, rfl, rfl, rfl⟩
   cases rs with
   | nil => cases er
   | cons y rs =>
    cases er
    refine ⟨⟨gp, gp2⟩, ?_⟩
    and_intros
    refine ⟨y, y, d', rfl, .inl ⟨rfl, hs y (by rw [ez]; simp)⟩, by omega, ?_⟩
    exact ⟨ds ++ [y], rs, _, _, rfl, by rw [ez]; simp, rfl, by rw [List.map_append, List.map_append]; rfl, rfl⟩
 have pt : Pt Γ u := hs.pt
 have ty := in_list (K := K) (Γ := Γ) hs
 cases hs with
 | non =>
  and_intros
  exact drop0 .refl q
 | int i =>
  and_intros
  and_intros
  refine t_in (in_int pt) ?_
  and_intros
  and_intros
  refine t_in (in_int pt) ?_
  and_intros
  and_intros
  refine t_in (in_bl pt) ?_
  and_intros
  and_intros
  rw [decide_eq_true rfl]
  exact drop0 .refl q
 | @str _ z l =>
  and_intros
  and_intros
  refine t_in (in_int pt) ?_
  and_intros
  and_intros
  refine t_in (in_str pt) ?_
  and_intros
  and_intros
  refine t_in (in_str pt) ?_
  and_intros
  and_intros
  rw [decide_eq_true rfl]
  exact drop0 .refl q
 | @tup d ts l h =>
  obtain ⟨nt, ty1, ty2⟩ := ty
  and_intros
  and_intros
  refine t_in (in_int pt) ?_
  and_intros
  and_intros
  refine t_in (in_str pt) ?_
  and_intros
  and_intros
  refine t_in (in_tup pt) ?_
  and_intros
  refine t_in (in_tup pt) ?_
  refine ⟨.bl true, .bl true, rfl, rfl, rfl, ?_⟩
  and_intros
  refine ⟨nt, false, ty1, ty2, ?_⟩
  and_intros
  refine ⟨nt, false, ty1, ty2, ?_⟩
  refine ⟨.bl false, .bl false, rfl, rfl, rfl, ?_⟩
  and_intros
  refine c_ifF (by rw [decide_eq_true rfl]; rfl) ?_
  and_intros
  refine .inl ?_
  and_intros
  rw [zip_self]
  refine ⟨Nat.le_of_lt (small1000 (by rw [List.length_map]; omega)), ?_⟩
  refine ⟨fun rest τ ys Γ' => ∃ (ds rs : List T) (o0 o1 : Option T), rest = rs.map (fun y => T.tup [y, y]) ∧ ts = ds ++ rs ∧ τ = [o0, o1] ∧ ys = (ds.map fun _ => true).map T.bl ∧ Γ' = Γ, ⟨[], ts, none, none, rfl, rfl, rfl, rfl, rfl⟩, ?_, ?_⟩
  ·rintro τ ys Γ' ⟨ds, rs, o0, o1, er, ez, rfl, rfl, rfl⟩
   refine ⟨trivial, ?_⟩
   intro p1 hp1; generalize e1 : up _ p1 (O.lst _) = Γ1; have g1 := al_g e1; have l1 := al_l e1 hp1
   and_intros
   refine ⟨p1, _, rfl, it3_l g1, ?_⟩
   rw [show (ds.map fun _ => true).all id = true by rw [List.all_eq_true]; intro b hb; obtain ⟨_, _, rfl⟩ := List.mem_map.mp hb; rfl]
   exact drop0 l1 q
  ·rintro x r τ ys Γ' ⟨ds, rs, o0, o1, er, ez, rfl, rfl, rfl⟩
   cases rs with
   | nil => cases er
   | cons y rs =>
    cases er
    refine ⟨trivial, ?_⟩
    and_intros
    refine ⟨y, y, d, rfl, .inl ⟨rfl, h y (by rw [ez]; simp)⟩, by omega, ?_⟩
    exact ⟨ds ++ [y], rs, _, _, rfl, by rw [ez]; simp, rfl, by rw [List.map_append, List.map_append]; rfl, rfl⟩
def bkT (q : Blk) : T := .tup [.int q.1, .int q.2.1, .int q.2.2]
def fitsB (size : Int) (B : List Blk) (at_ many : Int) : Bool := decide (at_ + many - 1 ≤ size) && B.all fun q => !(decide (at_ < q.1 + q.2.1) && decide (q.1 < at_ + many))
theorem fitsB_iff {size at_ many : Int} {B : List Blk} : fitsB size B at_ many = true ↔ Fits size B at_ many := by
 unfold fitsB Fits
 rw [Bool.and_eq_true, decide_eq_true_iff, List.all_eq_true]
 refine and_congr Iff.rfl ⟨fun h q hq z => ?_, fun h q hq => ?_⟩
 ·have := h q hq
  rw [decide_eq_true z.1, decide_eq_true z.2] at this
  cases this
 ·have := h q hq
  cases e : (decide (at_ < q.1 + q.2.1) && decide (q.1 < at_ + many)) with
  | false => rfl
  | true =>
   rw [Bool.and_eq_true, decide_eq_true_iff, decide_eq_true_iff] at e
   exact absurd e this
abbrev s_law_fits : Stmt := top 23
theorem sc_law_fits : FnScope ["size", "blocks", "at", "many", "address", "length", "hand"] ["size", "blocks", "at", "many"] (defScope s_law_fits) := ⟨rfl, rfl, rfl, by decide +kernel, rfl, by decide +kernel, by decide +kernel⟩
def spFt : Sp3 := fun ts Γ Z _ => ∃ (pb : Addr) (size at_ many : Int) (B : List Blk), ts = [.int size, .ref pb, .int at_, .int many] ∧ Γ pb = some (.lst (B.map bkT)) ∧ Z (.bl (fitsB size B at_ many)) Γ
theorem ok_fits (F : Fun K "_law_fits" "_law_fits" s_law_fits f fd) : FnOk P w K mg base CX0 1 f fd ["size", "blocks", "at", "many"] (liSp spFt) := by
 refine okd F sc_law_fits (fun ts Γ Z Y h => ?_) (fun cdv A outer s H E ts Γ Z Y hr h => ?_)
 ·obtain ⟨pb, size, at_, many, B, rfl, _⟩ := h
  rfl
 obtain ⟨pb, size, at_, many, B, rfl, gb, q⟩ := h
 refine ⟨_, (qss_cons (qs_if (qt_cmpR oq_gt (qe_op oq_sub (qe_op oq_add (qv 2) (qv 3)) qe_int) (qv 0) (nomark _)) (qss_cons (qs_ret qe_bl)
  qss_nil) qss_nil)
  (qss_cons (qs_for PassesOwn.never rfl (qi_list (qv 1)) (qg_tup (n := 3) rfl (qgs_cons (qg_name (i := 4) sc_law_fits.nd rfl (Or.inl rfl)) (qgs_cons (qg_name (i := 5) sc_law_fits.nd rfl (Or.inl rfl)) (qgs_cons (qg_name (i := 6) sc_law_fits.nd rfl (Or.inl rfl)) qgs_nil)))) (qss_cons (qs_if (PW.pt (qw_and (qt_cmpR oq_lt (qv 2) (qe_op oq_add (qv 4) (qv 5)) (nomark _)) (qw_and1 (qt_cmpR oq_lt (qv 4) (qe_op oq_add (qv 2) (qv 3)) (nomark _))))) (qss_cons (qs_ret qe_bl)
  qss_nil) qss_nil)
  qss_nil))
  (qss_cons (qs_ret qe_bl)
  qss_nil))), ?_⟩
 simp only [start3]
 and_intros
 refine c_if (fun c => ?_) (fun c => ?_)
 ·have c := of_decide_eq_true c
  and_intros
  refine drop0 .refl ?_
  unfold fitsB at q
  rw [decide_eq_false (show ¬ at_ + many - 1 ≤ size by omega)] at q
  exact q
 have c := of_decide_eq_false c
 and_intros
 refine ⟨pb, _, rfl, it3_l gb, ?_⟩
 refine ⟨fun rest τ Γ' => ∃ (D R : List Blk) (o4 o5 o6 : Option T), rest = R.map bkT ∧ B = D ++ R ∧ (∀ q ∈ D, (!(decide (at_ < q.1 + q.2.1) && decide (q.1 < at_ + many))) = true) ∧ τ = [some (.int size), some (.ref pb), some (.int at_), some (.int many), o4, o5, o6] ∧ Γ' = Γ, ⟨[], B, none, none, none, rfl, rfl, fun _ h => (nomatch h), rfl, rfl⟩, ?_, ?_⟩
 ·rintro τ Γ' ⟨D, R, o4, o5, o6, er, eB, hD, rfl, rfl⟩
  have hz : R = [] := by
   cases R with
   | nil => rfl
   | cons _ _ => cases er
  subst hz
  rw [List.append_nil] at eB
  subst eB
  refine ⟨it3_l gb, ?_⟩
  and_intros
  refine drop0 .refl ?_
  unfold fitsB at q
  rw [decide_eq_true (show at_ + many - 1 ≤ size by omega), List.all_eq_true.mpr hD] at q
  exact q
 ·rintro x r τ Γ' ⟨D, R, o4, o5, o6, er, eB, hD, rfl, rfl⟩
  cases R with
  | nil => cases er
  | cons k R =>
   cases er
   refine ⟨it3_l gb, ?_⟩
   have no : (decide (at_ < k.1 + k.2.1) && decide (k.1 < at_ + many)) = true → dropK Z (.bl false) Γ' := fun h => by
    refine drop0 .refl ?_
    unfold fitsB at q
    rw [decide_eq_true (show at_ + many - 1 ≤ size by omega)] at q
    have : (B.all fun q => !(decide (at_ < q.1 + q.2.1) && decide (q.1 < at_ + many))) = false := by
     rw [eB, List.all_append, List.all_cons, h]
     simp
    rw [this] at q
    exact q
   have yes : (decide (at_ < k.1 + k.2.1) && decide (k.1 < at_ + many)) = false → ∀ (o4 o5 o6 : Option T), ∃ (D' R' : List Blk) (o4' o5' o6' : Option T), R.map bkT = R'.map bkT ∧ B = D' ++ R' ∧ (∀ q ∈ D', (!(decide (at_ < q.1 + q.2.1) && decide (q.1 < at_ + many))) = true) ∧ [some (.int size), some (.ref pb), some (.int at_), some (.int many), o4, o5, o6] = [some (.int size), some (.ref pb), some (.int at_), some (.int many), o4', o5', o6'] ∧ Γ' = Γ' := fun h o4 o5 o6 => ⟨D ++ [k], R, o4, o5, o6, rfl, by rw [eB]; simp, fun q hq => by
    rcases List.mem_append.mp hq with hq | hq
    ·exact hD q hq
    ·rw [List.mem_singleton.mp hq, h]; rfl, rfl, rfl⟩
   unfold bkT
   and_intros
   refine c_if (fun c1 => ?_) (fun c1 => ?_)
   ·and_intros
    refine c_if (fun c2 => ?_) (fun c2 => ?_)
    ·and_intros
     exact no (by rw [c1, c2]; rfl)
    ·and_intros
     exact yes (by rw [c2, Bool.and_false]) _ _ _
   ·and_intros
    exact yes (by rw [c1, Bool.false_and]) _ _ _
theorem split_first {many : Int} : ∀ {G : List Gap}, (∃ g ∈ G, many ≤ g.2 - g.1) → ∃ L b e R, G = L ++ (b, e) :: R ∧ (∀ g ∈ L, g.2 - g.1 < many) ∧ many ≤ e - b
 | [], ⟨_, h, _⟩ => nomatch h
 | (b, e) :: r, ⟨g, hg, hm⟩ => by
  by_cases c : many ≤ e - b
  ·exact ⟨[], b, e, r, rfl, fun _ h => (nomatch h), c⟩
  ·have : g ∈ r := by
    rcases List.mem_cons.mp hg with e1 | h
    ·subst e1; exact absurd hm c
    ·exact h
   obtain ⟨L, b', e', R, eG, hL, hb⟩ := split_first ⟨g, this, hm⟩
   refine ⟨(b, e) :: L, b', e', R, by rw [eG]; rfl, fun g hg => ?_, hb⟩
   rcases List.mem_cons.mp hg with rfl | hg
   ·show e - b < many; omega
   ·exact hL g hg
def cands (B : List Blk) : List Int := 1 :: B.map fun q => q.1 + q.2.1
def LS (size : Int) (B : List Blk) (many : Int) (cs : List Int) (r : Option Int) : Prop := (r = none ∧ ∀ a ∈ cs, ¬ (0 < many ∧ Fits size B a many)) ∨ ∃ p, r = some p ∧ 0 < many ∧ p ∈ cs ∧ Fits size B p many ∧ ∀ a ∈ cs, Fits size B a many → p ≤ a
theorem plc_of {size many : Int} {B : List Blk} {G : List Gap} (si : SI size B G) {r : Option Int} (h : LS size B many (cands B) r) : (r = none ∧ NoPl size B many) ∨ ∃ b, r = some b ∧ Pl size B many b := by
 have c1 : ∀ a ∈ cands B, 1 ≤ a := fun a ha => by
  rcases List.mem_cons.mp ha with rfl | ha
  ·exact Int.le_refl _
  ·obtain ⟨q, hq, rfl⟩ := List.mem_map.mp ha
   have := si.pos q hq
   omega
 by_cases m1 : many < 1
 ·rcases h with ⟨e, _⟩ | ⟨p, _, m, _⟩
  ·exact .inl ⟨e, .inl m1⟩
  ·omega
 have m1 : 1 ≤ many := by omega
 by_cases hg : ∃ g ∈ G, many ≤ g.2 - g.1
 ·obtain ⟨L, b, e, R, eG, hL, be⟩ := split_first hg
  obtain ⟨d1, d2, d3⟩ := the_place si eG m1 hL be
  have mb : b ∈ cands B := by
   rcases d1 with rfl | ⟨q, hq, rfl⟩
   ·exact List.mem_cons_self
   ·exact List.mem_cons_of_mem _ (List.mem_map.mpr ⟨q, hq, rfl⟩)
  right
  rcases h with ⟨_, no⟩ | ⟨p, e, m, mp, fp, lp⟩
  ·exact absurd ⟨by omega, d2⟩ (no b mb)
  ·have h1 := lp b mb d2
   have h2 := d3 p (c1 p mp) fp
   have : p = b := by omega
   subst this
   exact ⟨p, e, m1, d1, d2, d3⟩
 ·have no := no_place si m1 fun g hg' => by
   by_cases c : g.2 - g.1 < many
   ·exact c
   ·exact absurd ⟨g, hg', by omega⟩ hg
  left
  rcases h with ⟨e, _⟩ | ⟨p, e, m, mp, fp, lp⟩
  ·exact ⟨e, .inr no⟩
  ·exact absurd fp (no p (c1 p mp))
def opT : Option Int → T
 | none => .non
 | some i => .int i
abbrev s_law_place : Stmt := top 24
theorem sc_law_place : FnScope ["size", "blocks", "many", "found", "at"] ["size", "blocks", "many"] (defScope s_law_place) := ⟨rfl, rfl, rfl, by decide +kernel, rfl, by decide +kernel, by decide +kernel⟩
def spPlc : Sp3 := fun ts Γ Z _ => ∃ (pb : Addr) (size many : Int) (B : List Blk), ts = [.int size, .ref pb, .int many] ∧ Γ pb = some (.lst (B.map bkT)) ∧ B.length ≤ 900 ∧ (∃ G, SI size B G) ∧ ∀ r : Option Int, ((r = none ∧ NoPl size B many) ∨ ∃ b, r = some b ∧ Pl size B many b) → Z (opT r) Γ
theorem ok_place (F : Fun K "_law_place" "_law_place" s_law_place f fd) (c_law_fits : Cl3 P w K mg base "_law_fits" 1 ["size", "blocks", "at", "many"] spFt) : FnOk P w K mg base CX0 2 f fd ["size", "blocks", "many"] (liSp spPlc) := by
 refine okd F sc_law_place (fun ts Γ Z Y h => ?_) (fun cdv A outer s H E ts Γ Z Y hr h => ?_)
 ·obtain ⟨pb, size, many, B, rfl, _⟩ := h
  rfl
 obtain ⟨pb, size, many, B, rfl, gb, bl, ⟨G, si⟩, q⟩ := h
 refine ⟨_, (qss_cons (qs_set (i := 3) sc_law_place.nd rfl (Or.inl rfl) qe_non)
  (qss_cons (qs_for PassesOwn.never rfl (qi_list (qe_op oq_catL (qe_lst (qa_cons qe_int qa_nil)) (qe_comp (own := ["address", "length", "hand"]) (cap := []) (compOk0 rfl (by decide +kernel) (by decide +kernel)) rfl (qi_list (qv 1)) (fun _ _ _ _ => (qg_tup (n := 3) rfl (qgs_cons (qg_name (i := 0) (show List.Nodup (["address", "length", "hand"] : List Str) from by decide +kernel) rfl (Or.inl rfl) (Or.inr rfl)) (qgs_cons (qg_name (i := 1) (show List.Nodup (["address", "length", "hand"] : List Str) from by decide +kernel) rfl (Or.inl rfl) (Or.inr rfl)) (qgs_cons (qg_name (i := 2) (show List.Nodup (["address", "length", "hand"] : List Str) from by decide +kernel) rfl (Or.inl rfl) (Or.inr rfl)) qgs_nil))))) (fun _ _ _ _ => qts_nil) (fun _ _ _ _ => (qe_op oq_add (qv 0) (qv 1)))))) (qg_name (i := 4) sc_law_place.nd rfl (Or.inl rfl)) (qss_cons (qs_cut (qs_if (PW.pt (qw_and (qt_cmpR oq_gt (qv 2) qe_int (nomark _)) (qw_and (PW.pt (qw_or (qt_cmpR oq_isN (qv 3) qe_non (nomark _)) (qw_or1 (qt_cmpR oq_lt (qv 4) (qv 3) (nomark _))))) (qw_and1 (qt_val (qe_call c_law_fits hr (by omega) rfl (qa_cons (qv 0) (qa_cons (qv 1) (qa_cons (qv 4) (qa_cons (qv 2) qa_nil)))))))))) (qss_cons (qs_set (i := 3) sc_law_place.nd rfl (Or.inl rfl) (qv 4))
  qss_nil) qss_nil))
  qss_nil))
  (qss_cons (qs_ret (qv 3))
  qss_nil))), ?_⟩
 simp only [start3]
 and_intros
 intro p1 hp1; generalize e1 : up _ p1 (O.lst _) = Γ1; have g1 := al_g e1; have l1 := al_l e1 hp1
 have gb1 := l1 _ _ gb
 and_intros
 refine ⟨pb, _, rfl, it3_l gb1, Nat.le_of_lt (small1000 (by rw [List.length_map]; omega)), ?_⟩
 refine ⟨fun rest τ ys Γ' => ∃ (D R : List Blk) (o0 o1 o2 : Option T), rest = R.map bkT ∧ B = D ++ R ∧ τ = [o0, o1, o2] ∧ ys = (D.map fun q => q.1 + q.2.1).map T.int ∧ Γ' = Γ1, ⟨[], B, none, none, none, rfl, rfl, rfl, rfl, rfl⟩, ?_, ?_⟩
 rotate_left
 ·rintro x r τ ys Γ' ⟨D, R, o0, o1, o2, er, eB, rfl, rfl, rfl⟩
  cases R with
  | nil => cases er
  | cons k R =>
   cases er
   refine ⟨it3_l gb1, ?_⟩
   unfold bkT
   and_intros
   exact ⟨D ++ [k], R, _, _, _, rfl, by rw [eB]; simp, rfl, by rw [List.map_append, List.map_append]; rfl, rfl⟩
 rintro τ ys Γ' ⟨D, R, o0, o1, o2, er, eB, rfl, rfl, rfl⟩
 have hz : R = [] := by
  cases R with
  | nil => rfl
  | cons _ _ => cases er
 subst hz
 rw [List.append_nil] at eB
 subst eB
 refine ⟨it3_l gb1, ?_⟩
 intro p2 hp2; generalize e2 : up _ p2 (O.lst _) = Γ2; have g2 := al_g e2; have l2 := al_l e2 hp2
 refine ⟨p1, p2, _, _, rfl, rfl, l2 _ _ g1, g2, Nat.le_of_lt (small1000 (by rw [List.length_map, List.length_map]; show 1 + _ ≤ _; omega)), ?_⟩
 intro p3 hp3; generalize e3 : up _ p3 (O.lst _) = Γ3; have g3 := al_g e3; have l3 := al_l e3 hp3
 have g3 : Γ3 p3 = some (.lst ((cands B).map T.int)) := g3
 have l13 := (l1.trans l2).trans l3
 have gb3 := l13 _ _ gb
 clear e1 e2 e3
 and_intros
 refine ⟨p3, _, rfl, it3_l g3, ?_⟩
 refine ⟨fun rest τ Γ' => ∃ (D R : List Int) (r : Option Int) (o4 : Option T), rest = R.map T.int ∧ cands B = D ++ R ∧ LS size B many D r ∧ τ = [some (.int size), some (.ref pb), some (.int many), some (opT r), o4] ∧ Γ' = Γ3, ⟨[], cands B, none, none, rfl, rfl, .inl ⟨rfl, fun _ h => (nomatch h)⟩, rfl, rfl⟩, ?_, ?_⟩
 ·rintro τ Γ' ⟨D, R, r, o4, er, eC, ls, rfl, rfl⟩
  have hz : R = [] := by
   cases R with
   | nil => rfl
   | cons _ _ => cases er
  subst hz
  rw [List.append_nil] at eC
  rw [← eC] at ls
  refine ⟨it3_l g3, ?_⟩
  and_intros
  exact drop0 l13 (q r (plc_of si ls))
 ·rintro x rr τ Γ' ⟨D, R, r, o4, er, eC, ls, rfl, rfl⟩
  cases R with
  | nil => cases er
  | cons k R =>
   cases er
   refine ⟨it3_l g3, ?_⟩
   and_intros
   refine ⟨fun τ Γ4 => ∃ r' : Option Int, LS size B many (D ++ [k]) r' ∧ τ = [some (.int size), some (.ref pb), some (.int many), some (opT r'), some (.int k)] ∧ Γ4 = Γ', ?_, ?_⟩
   rotate_left
   ·rintro τ Γ4 ⟨r', ls', rfl, rfl⟩
    and_intros
    exact ⟨D ++ [k], R, r', _, rfl, by rw [eC]; simp, ls', rfl, rfl⟩
   have keep : (¬ (0 < many ∧ Fits size B k many) ∨ ∃ p, r = some p ∧ p ≤ k) → ∃ r' : Option Int, LS size B many (D ++ [k]) r' ∧ [some (.int size), some (.ref pb), some (.int many), some (opT r), some (.int k)] = [some (.int size), some (.ref pb), some (.int many), some (opT r'), some (.int k)] ∧ Γ' = Γ' := fun h => by
    refine ⟨r, ?_, rfl, rfl⟩
    rcases ls with ⟨e, no⟩ | ⟨p, e, m, mp, fp, lp⟩
    ·refine .inl ⟨e, fun a ha => ?_⟩
     rcases List.mem_append.mp ha with ha | ha
     ·exact no a ha
     ·rw [List.mem_singleton.mp ha]
      rcases h with h | ⟨p, e', _⟩
      ·exact h
      ·rw [e] at e'; cases e'
    ·refine .inr ⟨p, e, m, List.mem_append_left _ mp, fp, fun a ha fa => ?_⟩
     rcases List.mem_append.mp ha with ha | ha
     ·exact lp a ha fa
     ·rw [List.mem_singleton.mp ha] at fa ⊢
      rcases h with h | ⟨p', e', h⟩
      ·exact absurd ⟨m, fa⟩ h
      ·rw [e] at e'; cases e'; exact h
   have new : 0 < many → Fits size B k many → (r = none ∨ ∃ p, r = some p ∧ k < p) → ∃ r' : Option Int, LS size B many (D ++ [k]) r' ∧ [some (.int size), some (.ref pb), some (.int many), some (.int k), some (.int k)] = [some (.int size), some (.ref pb), some (.int many), some (opT r'), some (.int k)] ∧ Γ' = Γ' := fun m fk h => by
    refine ⟨some k, .inr ⟨k, rfl, m, by simp, fk, fun a ha fa => ?_⟩, rfl, rfl⟩
    rcases List.mem_append.mp ha with ha | ha
    ·rcases ls with ⟨e, no⟩ | ⟨p, e, m', mp, fp, lp⟩
     ·exact absurd ⟨m, fa⟩ (no a ha)
     ·have := lp a ha fa
      rcases h with h | ⟨p', e', h⟩
      ·rw [e] at h; cases h
      ·rw [e] at e'; cases e'; omega
    ·rw [List.mem_singleton.mp ha]; exact Int.le_refl _
   and_intros
   refine c_if (fun c => ?_) (fun c => ?_)
   rotate_left
   ·have c := of_decide_eq_false c
    and_intros
    exact keep (.inl fun z => c z.1)
   have c := of_decide_eq_true c
   cases r with
   | none =>
    and_intros
    and_intros
    refine ⟨pb, size, k, many, B, rfl, gb3, ?_⟩
    and_intros
    refine c_if (fun e => ?_) (fun e => ?_)
    ·and_intros
     exact new c (fitsB_iff.mp e) (.inl rfl)
    ·and_intros
     exact keep (.inl fun z => by rw [fitsB_iff.mpr z.2] at e; cases e)
   | some p =>
    and_intros
    and_intros
    refine ⟨k, p, rfl, rfl, ?_⟩
    and_intros
    refine c_if (fun c5 => ?_) (fun c5 => ?_)
    ·have c5 := of_decide_eq_true c5
     and_intros
     refine ⟨pb, size, k, many, B, rfl, gb3, ?_⟩
     and_intros
     refine c_if (fun e => ?_) (fun e => ?_)
     ·and_intros
      exact new c (fitsB_iff.mp e) (.inr ⟨p, rfl, c5⟩)
     ·and_intros
      exact keep (.inl fun z => by rw [fitsB_iff.mpr z.2] at e; cases e)
    ·have c5 := of_decide_eq_false c5
     and_intros
     exact keep (.inr ⟨p, rfl, by omega⟩)
abbrev s_law_taken : Stmt := top 25
theorem sc_law_taken : FnScope ["store", "hand", "many", "word", "found"] ["store", "hand", "many"] (defScope s_law_taken) := ⟨rfl, rfl, rfl, by decide +kernel, rfl, by decide +kernel, by decide +kernel⟩
def spTn (C : Addr) : Sp3 := fun ts Γ Z _ => ∃ (x : Addr) (own : List Addr) (hand many size : Int) (B : List Blk) (nd : Nat), ts = [.ref x, .int hand, .int many] ∧ StO Γ C x own size B (nd + 1) ∧ B.length ≤ 100000 ∧
 (∀ (b : Int) (Γ' : Gp), Pl size B many b → StO Γ' C x own size (B ++ [(b, many, hand)]) nd → Kq own Γ Γ' → Z (.tup [.str "", .int b]) Γ') ∧ (NoPl size B many → Z (.tup [.str "NoRoom", .non]) Γ)
theorem ok_taken (F : Fun K "_law_taken" "_law_taken" s_law_taken f fd) (c_Store_take : ClMx P w K mg base C "take" 2 ["self", "hand", "many"] (spTk C cNoRoom)) (m_NoRoom : mg "NoRoom" = some (.ref cNoRoom)) (xmm : PySem.W.exmOne K (.ref cNoRoom) (.ref cNoRoom) = some true) : FnOk P w K mg base CX0 3 f fd ["store", "hand", "many"] (liSp (spTn C)) := by
 refine okd F sc_law_taken (fun ts Γ Z Y h => ?_) (fun cdv A outer s H E ts Γ Z Y hr h => ?_)
 ·obtain ⟨x, own, hand, many, size, B, nd, rfl, _⟩ := h
  rfl
 obtain ⟨x, own, hand, many, size, B, nd, rfl, st, bl, q, qE⟩ := h
 refine ⟨_, (qss_cons (qs_set (i := 3) sc_law_taken.nd rfl (Or.inl rfl) qe_str)
  (qss_cons (qs_set (i := 4) sc_law_taken.nd rfl (Or.inl rfl) qe_non)
  (qss_cons (qs_try0 rfl rfl rfl m_NoRoom (fun _ _ _ hx => (qss_cons (qs_set (i := 4) sc_law_taken.nd rfl (Or.inl rfl) (qe_methX c_Store_take hr (by omega) hx (qv 0) (qa_cons (qv 1) (qa_cons (qv 2) qa_nil))))
  qss_nil)) (fun _ => (qss_cons (qs_set (i := 3) sc_law_taken.nd rfl (Or.inl rfl) qe_str)
  qss_nil)))
  (qss_cons (qs_ret (qe_tup (qa_cons (qv 3) (qa_cons (qv 4) qa_nil))))
  qss_nil)))), ?_⟩
 simp only [start3]
 have st' := st
 obtain ⟨pc, pg, ph, pd, G, kvs, eo, sf, _⟩ := st'
 obtain ⟨dx, gx⟩ := sf.ins
 unfold cTry0 eMethX
 and_intros
 refine ⟨x, own, hand, many, size, B, nd, rfl, st, bl, fun b Γ' pl st2 k2 => ?_, fun no => ?_⟩
 ·and_intros
  exact drop0 .refl (q b Γ' pl st2 k2)
 ·refine ⟨xmm, ?_⟩
  and_intros
  exact drop0 .refl (qE no)
end
theorem StO.insx {Γ : Gp} {C a : Addr} {own : List Addr} {size : Int} {B : List Blk} {nd : Nat} (h : StO Γ C a own size B nd) : ∃ dx pc pg ph pd, Γ a = some (.ins C dx [("words", .int size), ("cells", .ref pc), ("gaps", .ref pg), ("held", .ref ph), ("deeds", .ref pd)]) := by
 obtain ⟨_, _, _, _, _, _, _, sf, _, _⟩ := h
 obtain ⟨dx, gx⟩ := sf.ins
 exact ⟨dx, _, _, _, _, gx⟩
section
variable {P : Program} {w : World} {K : PySem.W.Frag} {mg : Str → Option Value} {base : Heap} {f C cNoRoom cNoBlock cWrongHand cGateError : Addr} {fd : FuncData}
abbrev s_Store_blocks : Stmt := mem 16 8
theorem sc_Store_blocks : FnScope ["self"] ["self"] (defScope s_Store_blocks) := ⟨rfl, rfl, rfl, by decide +kernel, rfl, by decide +kernel, by decide +kernel⟩
def spBk (C : Addr) : Sp3 := fun ts Γ Z _ => ∃ (x : Addr) (own : List Addr) (size : Int) (B : List Blk) (nd : Nat), ts = [.ref x] ∧ StO Γ C x own size B nd ∧ B.length ≤ 63 ∧ ∀ (p : Addr) (Bs : List Blk) (Γ' : Gp), Γ p = none → Bs.Perm B → (Bs.map (·.1)).Pairwise (· ≤ ·) → Γ' p = some (.lst (Bs.map bkT)) → Le Γ Γ' → Z (.ref p) Γ'
theorem ok_blocks (F : Fun K "blocks" "Store.blocks" s_Store_blocks f fd) (cls_Store : Cls K C) (n_Store_held : NoAttr K C "held") (z_sorted : mg "sorted" = none) : FnOk P w K mg base CX0 1 f fd ["self"] (liSp (spBk C)) := by
 refine okd F sc_Store_blocks (fun ts Γ Z Y h => ?_) (fun cdv A outer s H E ts Γ Z Y hr h => ?_)
 ·obtain ⟨x, own, size, B, nd, rfl, _⟩ := h
  rfl
 obtain ⟨x, own, size, B, nd, rfl, ⟨pc, pg, ph, pd, G, kvs, rfl, st, si, he⟩, bl, q⟩ := h
 refine ⟨_, (qss_cons (qs_ret (qe_comp (own := ["address", "many", "hand"]) (cap := []) (compOk0 rfl (by decide +kernel) (by decide +kernel)) rfl (qi_list (qe_callB (cq_sortV rfl) rfl z_sorted PyProof.Rows.boot_sorted (qa_cons (qe_bm0 PySem.F.plainAttrs_dict PySem.F.slot_dict_items PySem.F.type_dict_items mq_items (qe_fld cls_Store n_Store_held (qv 0))) qa_nil))) (fun _ _ _ _ => (qg_tup (n := 2) rfl (qgs_cons (qg_name (i := 0) (show List.Nodup (["address", "many", "hand"] : List Str) from by decide +kernel) rfl (Or.inl rfl) (Or.inr rfl)) (qgs_cons (qg_tup (n := 2) rfl (qgs_cons (qg_name (i := 1) (show List.Nodup (["address", "many", "hand"] : List Str) from by decide +kernel) rfl (Or.inl rfl) (Or.inr rfl)) (qgs_cons (qg_name (i := 2) (show List.Nodup (["address", "many", "hand"] : List Str) from by decide +kernel) rfl (Or.inl rfl) (Or.inr rfl)) qgs_nil))) qgs_nil)))) (fun _ _ _ _ => qts_nil) (fun _ _ _ _ => (qe_tup (qa_cons (qv 0) (qa_cons (qv 1) (qa_cons (qv 2) qa_nil)))))))
  qss_nil), ?_⟩
 simp only [start3]
 obtain ⟨dx, gx⟩ := st.ins
 have gh := st.held
 and_intros
 refine ⟨ty_dct gh, ph, kvs, rfl, rfl, gh, fun p1 hp1 => ?_⟩
 generalize e1 : up _ p1 (O.ext _) = Γ1; have g1 := al_g e1; have l1 := al_l e1 hp1
 and_intros
 refine ⟨p1, ph, kvs, rfl, g1, l1 _ _ gh, by rw [he.len]; omega, fun kv hkv => ?_, fun ms l pm hs hl => ?_⟩
 ·obtain ⟨b, _, eb⟩ := List.mem_map.mp (he.2.mem_iff.mp hkv)
  exact ⟨b.1, by rw [← eb]; rfl⟩
 generalize e2 : up _ l (O.lst _) = Γ2; have g2 := al_g e2; have l2 := al_l e2 hl
 obtain ⟨Bs, pB, eB⟩ := Sr.perm_map_inv (pm.trans he.2) rfl
 subst eB
 have ks : (Bs.map kvOf).map (fun kv => keyI kv.1) = Bs.map (·.1) := by rw [List.map_map]; rfl
 rw [ks] at hs
 have lB : Bs.length = B.length := pB.length_eq
 clear e1 e2
 and_intros
 refine ⟨l, _, rfl, it3_l g2, Nat.le_of_lt (small1000 (by rw [List.length_map, List.length_map]; omega)), ?_⟩
 refine ⟨fun rest τ ys Γ' => ∃ (D R : List Blk) (o0 o1 o2 : Option T), rest = (R.map kvOf).map itT ∧ Bs = D ++ R ∧ τ = [o0, o1, o2] ∧ ys = D.map bkT ∧ Γ' = Γ2, ⟨[], Bs, none, none, none, rfl, rfl, rfl, rfl, rfl⟩, ?_, ?_⟩
 ·rintro τ ys Γ' ⟨D, R, o0, o1, o2, er, eD, rfl, rfl, rfl⟩
  have hz : R = [] := by
   cases R with
   | nil => rfl
   | cons _ _ => cases er
  subst hz
  rw [List.append_nil] at eD
  subst eD
  refine ⟨it3_l g2, ?_⟩
  intro p3 hp3; generalize e3 : up _ p3 (O.lst _) = Γ3; have g3 := al_g e3; have l3 := al_l e3 hp3
  have l13 := (l1.trans l2).trans l3
  exact drop0 .refl (q p3 Bs Γ3 (kq_none (l := []) ((l1.trans l2).kq) hp3 (by simp)) pB hs g3 l13)
 ·rintro y r τ ys Γ' ⟨D, R, o0, o1, o2, er, eD, rfl, rfl, rfl⟩
  cases R with
  | nil => cases er
  | cons k R =>
   cases er
   refine ⟨it3_l g2, ?_⟩
   unfold itT kvOf kT
   and_intros
   exact ⟨D ++ [k], R, _, _, _, rfl, by rw [eD]; simp, rfl, by rw [List.map_append]; rfl, rfl⟩
abbrev s_law_given : Stmt := top 27
theorem sc_law_given : FnScope ["store", "hand", "address", "word", "found"] ["store", "hand", "address"] (defScope s_law_given) := ⟨rfl, rfl, rfl, by decide +kernel, rfl, by decide +kernel, by decide +kernel⟩
def spGi (C : Addr) : Sp3 := fun ts Γ Z _ => ∃ (x : Addr) (own : List Addr) (ad hand size : Int) (B : List Blk) (nd : Nat), ts = [.ref x, .int hand, .int ad] ∧ StO Γ C x own size B (nd + 1) ∧ (∀ (B1 B2 : List Blk) (len : Int) (Γ' : Gp), B = B1 ++ (ad, len, hand) :: B2 → StO Γ' C x own size (B1 ++ B2) nd → Kq own Γ Γ' → Z (.tup [.str "", .non]) Γ') ∧ ((∀ q ∈ B, q.1 ≠ ad) → Z (.tup [.str "NoBlock", .non]) Γ) ∧ (∀ q ∈ B, q.1 = ad → q.2.2 ≠ hand → Z (.tup [.str "WrongHand", .non]) Γ)
theorem ok_given (F : Fun K "_law_given" "_law_given" s_law_given f fd) (c_Store_give : ClMx P w K mg base C "give" 3 ["self", "hand", "address"] (spGx C cNoBlock cWrongHand)) (m_NoBlock : mg "NoBlock" = some (.ref cNoBlock)) (m_WrongHand : mg "WrongHand" = some (.ref cWrongHand)) (xbb : PySem.W.exmOne K (.ref cNoBlock) (.ref cNoBlock) = some true) (xwb : PySem.W.exmOne K (.ref cWrongHand) (.ref cNoBlock) = some false) (xww : PySem.W.exmOne K (.ref cWrongHand) (.ref cWrongHand) = some true) : FnOk P w K mg base CX0 4 f fd ["store", "hand", "address"] (liSp (spGi C)) := by
 refine okd F sc_law_given (fun ts Γ Z Y h => ?_) (fun cdv A outer s H E ts Γ Z Y hr h => ?_)
 ·obtain ⟨x, own, ad, hand, size, B, nd, rfl, _⟩ := h
  rfl
 obtain ⟨x, own, ad, hand, size, B, nd, rfl, st, q, qB, qW⟩ := h
 refine ⟨_, (qss_cons (qs_set (i := 3) sc_law_given.nd rfl (Or.inl rfl) qe_str)
  (qss_cons (qs_set (i := 4) sc_law_given.nd rfl (Or.inl rfl) qe_non)
  (qss_cons (qs_try2 rfl rfl rfl m_NoBlock rfl m_WrongHand (fun _ _ _ hx => (qss_cons (qs_set (i := 4) sc_law_given.nd rfl (Or.inl rfl) (qe_methX c_Store_give hr (by omega) hx (qv 0) (qa_cons (qv 1) (qa_cons (qv 2) qa_nil))))
  qss_nil)) (fun _ => (qss_cons (qs_set (i := 3) sc_law_given.nd rfl (Or.inl rfl) qe_str)
  qss_nil)) (fun _ => (qss_cons (qs_set (i := 3) sc_law_given.nd rfl (Or.inl rfl) qe_str)
  qss_nil)))
  (qss_cons (qs_ret (qe_tup (qa_cons (qv 3) (qa_cons (qv 4) qa_nil))))
  qss_nil)))), ?_⟩
 simp only [start3]
 obtain ⟨dx, pc, pg, ph, pd, gx⟩ := st.insx
 unfold cTry2 eMethX
 and_intros
 refine ⟨x, own, ad, hand, size, B, nd, rfl, st, fun B1 B2 len Γ' eB st' k' => ?_, fun en => .inl ⟨xbb, ?_⟩, fun b hb e1 e2 => .inr ⟨xwb, xww, ?_⟩⟩
 ·and_intros
  exact drop0 .refl (q B1 B2 len Γ' eB st' k')
 ·and_intros
  exact drop0 .refl (qB en)
 ·and_intros
  exact drop0 .refl (qW b hb e1 e2)
theorem bt_ValueError : bootBuiltins "ValueError" = some (.type "ValueError") := by decide +kernel
structure XOf (K : PySem.W.Frag) (D cNoBlock cWrongHand cGateError : Addr) (o1 o2 : List Addr) (b : Bool) : Prop where
 ex : ExC K D
 kv : PySem.W.kitOne K (.ref D) (.type "ValueError") = some true
 k1 : PySem.W.kitOne K (.ref D) (.ref cNoBlock) = some b
 k2 : PySem.W.kitOne K (.ref D) (.ref cWrongHand) = some (!b)
 ka : PySem.W.kitAny K (.ref D) (o1.map Value.ref) = some false
 kb : PySem.W.kitAny K (.ref D) (o2.map Value.ref) = some false
 xm : PySem.W.exmOne K (.ref D) (.ref cGateError) = some true
abbrev s_law_marks : Stmt := top 28
theorem sc_law_marks : FnScope ["store", "hand", "address", "marks", "e"] ["store", "hand", "address"] (defScope s_law_marks) := ⟨rfl, rfl, rfl, by decide +kernel, rfl, by decide +kernel, by decide +kernel⟩
def mkT (b : Bool) : List T := [.bl true, .bl b, .bl (!b), .bl false, .bl false]
def spMk (C : Addr) : Sp3 := fun ts Γ Z _ => ∃ (x : Addr) (own : List Addr) (ad hand size : Int) (B : List Blk) (nd : Nat) (b : Bool), ts = [.ref x, .int hand, .int ad] ∧ StO Γ C x own size B (nd + 1) ∧ ((b = true ∧ ∀ q ∈ B, q.1 ≠ ad) ∨ (b = false ∧ ∃ q ∈ B, q.1 = ad ∧ q.2.2 ≠ hand ∧ ∀ q' ∈ B, q'.1 = ad → q'.2.2 ≠ hand)) ∧ ∀ (p : Addr) (Γ' : Gp), Γ p = none → Γ' p = some (.lst (mkT b)) → Le Γ Γ' → Z (.ref p) Γ'
theorem ok_marks {d1 d2 d3 d4 d5 d6 d7 d8 d9 d10 : Addr} (F : Fun K "_law_marks" "_law_marks" s_law_marks f fd) (c_Store_give : ClMx P w K mg base C "give" 3 ["self", "hand", "address"] (spGx C cNoBlock cWrongHand)) (m_NoBlock : mg "NoBlock" = some (.ref cNoBlock)) (m_WrongHand : mg "WrongHand" = some (.ref cWrongHand)) (m_GateError : mg "GateError" = some (.ref cGateError))
  (m_Full : mg "Full" = some (.ref d1)) (m_NoDoor : mg "NoDoor" = some (.ref d2)) (m_NoPart : mg "NoPart" = some (.ref d3)) (m_NoPicture : mg "NoPicture" = some (.ref d4)) (m_NoProgram : mg "NoProgram" = some (.ref d5)) (m_NoRoom : mg "NoRoom" = some (.ref d6)) (m_NoText : mg "NoText" = some (.ref d7)) (m_NoThing : mg "NoThing" = some (.ref d8)) (m_NoWord : mg "NoWord" = some (.ref d9)) (m_NoWorths : mg "NoWorths" = some (.ref d10))
  (xB : XOf K cNoBlock cNoBlock cWrongHand cGateError [d1, d2, d3, d4, d5, d6, d7] [d8, d9, d10] true) (xW : XOf K cWrongHand cNoBlock cWrongHand cGateError [d1, d2, d3, d4, d5, d6, d7] [d8, d9, d10] false)
  (z_isinstance : mg "isinstance" = none) (z_ValueError : mg "ValueError" = none) : FnOk P w K mg base CX0 4 f fd ["store", "hand", "address"] (liSp (spMk C)) := by
 refine okd F sc_law_marks (fun ts Γ Z Y h => ?_) (fun cdv A outer s H E ts Γ Z Y hr h => ?_)
 ·obtain ⟨x, own, ad, hand, size, B, nd, b, rfl, _⟩ := h
  rfl
 obtain ⟨x, own, ad, hand, size, B, nd, b, rfl, st, hc, q⟩ := h
 refine ⟨_, (qss_cons (qs_set (i := 3) sc_law_marks.nd rfl (Or.inl rfl) (qe_lst qa_nil))
  (qss_cons (qs_try (j := 4) rfl rfl rfl m_GateError sc_law_marks.nd rfl rfl (fun _ _ _ hx => (qss_cons (qs_expr (qe_methX c_Store_give hr (by omega) hx (qv 0) (qa_cons (qv 1) (qa_cons (qv 2) qa_nil))))
  qss_nil)) (fun _ => (qss_cons (qs_set (i := 3) sc_law_marks.nd rfl (Or.inl rfl) (qe_lst (qa_cons (qe_callB (cq_instXk (K := K) rfl) rfl z_isinstance PyProof.Rows.boot_isinstance (qa_cons (qv 4) (qa_cons (qe_bltn rfl z_ValueError bt_ValueError rfl (by decide) (by decide)) qa_nil))) (qa_cons (qe_callB (cq_instXk (K := K) rfl) rfl z_isinstance PyProof.Rows.boot_isinstance (qa_cons (qv 4) (qa_cons (qe_glob rfl m_NoBlock gl_ref) qa_nil))) (qa_cons (qe_callB (cq_instXk (K := K) rfl) rfl z_isinstance PyProof.Rows.boot_isinstance (qa_cons (qv 4) (qa_cons (qe_glob rfl m_WrongHand gl_ref) qa_nil))) qa_nil)))))
  (qss_cons (qs_expr (qe_bm PySem.F.plainAttrs_list PySem.F.slot_list_append PySem.F.type_list_append mq_append (qv 3) (qa_cons (qe_callB (cq_instXTk (K := K) rfl) rfl z_isinstance PyProof.Rows.boot_isinstance (qa_cons (qv 4) (qa_cons (qe_tup (qa_cons (qe_glob rfl m_Full gl_ref) (qa_cons (qe_glob rfl m_NoDoor gl_ref) (qa_cons (qe_glob rfl m_NoPart gl_ref) (qa_cons (qe_glob rfl m_NoPicture gl_ref) (qa_cons (qe_glob rfl m_NoProgram gl_ref) (qa_cons (qe_glob rfl m_NoRoom gl_ref) (qa_cons (qe_glob rfl m_NoText gl_ref) qa_nil)))))))) qa_nil))) qa_nil)))
  (qss_cons (qs_expr (qe_bm PySem.F.plainAttrs_list PySem.F.slot_list_append PySem.F.type_list_append mq_append (qv 3) (qa_cons (qe_callB (cq_instXTk (K := K) rfl) rfl z_isinstance PyProof.Rows.boot_isinstance (qa_cons (qv 4) (qa_cons (qe_tup (qa_cons (qe_glob rfl m_NoThing gl_ref) (qa_cons (qe_glob rfl m_NoWord gl_ref) (qa_cons (qe_glob rfl m_NoWorths gl_ref) qa_nil)))) qa_nil))) qa_nil)))
  qss_nil)))))
  (qss_cons (qs_ret (qv 3))
  qss_nil))), ?_⟩
 simp only [start3]
 and_intros
 intro p1 hp1; generalize e1 : up _ p1 (O.lst _) = Γ1; have g1 := al_g e1; have l1 := al_l e1 hp1
 have st1 := st.le l1
 obtain ⟨dx, pc, pg, ph, pd, gx⟩ := st1.insx
 unfold cTry eMethX
 and_intros
 rcases hc with ⟨rfl, no⟩ | ⟨rfl, k, hk, ek, nk, all⟩
 ·refine ⟨x, own, ad, hand, size, B, nd, rfl, st1, fun B1 B2 len Γ' eB _ _ => absurd rfl (no (ad, len, hand) (by rw [eB]; simp)), fun _ => ⟨xB.xm, fun y hy => ?_⟩, fun b hb e _ => absurd e (no b hb)⟩
  generalize e2 : up _ y (O.ext _) = Γ2; have gy : Γ2 y = some (.ext (ExAt y cNoBlock)) := al_g e2; have l2 := al_l e2 hy
  have xD := xB
  and_intros
  refine ⟨y, _, _, _, _, rfl, rfl, xD.ex, gy, xD.kv, ?_⟩
  and_intros
  refine ⟨y, _, _, _, _, rfl, rfl, xD.ex, gy, xD.k1, ?_⟩
  and_intros
  refine ⟨y, _, _, _, _, rfl, rfl, xD.ex, gy, xD.k2, ?_⟩
  and_intros
  intro p3 hp3; generalize e3 : up _ p3 (O.lst _) = Γ3; have g3 := al_g e3; have l3 := al_l e3 hp3
  have gy3 := l3 _ _ gy
  have n3 : y ≠ p3 := gnn gy hp3
  and_intros
  refine t_tyL g3 ?_
  and_intros
  refine ⟨y, _, _, _, false, rfl, rfl, xD.ex, gy3, xD.ka, ?_⟩
  and_intros
  refine ⟨p3, _, _, rfl, rfl, g3, small1000 (by show 3 ≤ 1000; decide), ?_⟩
  generalize e4 : up Γ3 p3 (O.lst _) = Γ4; have g4 := al_g e4; have k4 : Kq [p3] Γ3 Γ4 := e4 ▸ .set (by simp) _
  have gy4 := k4 _ _ (by simpa using n3) gy3
  and_intros
  refine t_tyL g4 ?_
  and_intros
  refine ⟨y, _, _, _, false, rfl, rfl, xD.ex, gy4, xD.kb, ?_⟩
  and_intros
  refine ⟨p3, _, _, rfl, rfl, g4, small1000 (by show 4 ≤ 1000; decide), ?_⟩
  generalize e5 : up Γ4 p3 (O.lst _) = Γ5; have g5 := al_g e5; have k5 : Kq [p3] Γ4 Γ5 := e5 ▸ .set (by simp) _
  and_intros
  have f3 : Γ p3 = none := kq_none (l := []) ((l1.trans l2).kq) hp3 (by simp)
  refine drop0 .refl (q p3 Γ5 f3 g5 fun b o h => ?_)
  have nb : b ≠ p3 := gnn h f3
  exact k5 _ _ (by simpa using nb) (k4 _ _ (by simpa using nb) (l3 _ _ (l2 _ _ (l1 _ _ h))))
 ·refine ⟨x, own, ad, hand, size, B, nd, rfl, st1, fun B1 B2 len Γ' eB _ _ => absurd rfl (all (ad, len, hand) (by rw [eB]; simp) rfl), fun no => absurd ek (no k hk), fun b hb e _ => ⟨xW.xm, fun y hy => ?_⟩⟩
  generalize e2 : up _ y (O.ext _) = Γ2; have gy : Γ2 y = some (.ext (ExAt y cWrongHand)) := al_g e2; have l2 := al_l e2 hy
  have xD := xW
  and_intros
  refine ⟨y, _, _, _, _, rfl, rfl, xD.ex, gy, xD.kv, ?_⟩
  and_intros
  refine ⟨y, _, _, _, _, rfl, rfl, xD.ex, gy, xD.k1, ?_⟩
  and_intros
  refine ⟨y, _, _, _, _, rfl, rfl, xD.ex, gy, xD.k2, ?_⟩
  and_intros
  intro p3 hp3; generalize e3 : up _ p3 (O.lst _) = Γ3; have g3 := al_g e3; have l3 := al_l e3 hp3
  have gy3 := l3 _ _ gy
  have n3 : y ≠ p3 := gnn gy hp3
  and_intros
  refine t_tyL g3 ?_
  and_intros
  refine ⟨y, _, _, _, false, rfl, rfl, xD.ex, gy3, xD.ka, ?_⟩
  and_intros
  refine ⟨p3, _, _, rfl, rfl, g3, small1000 (by show 3 ≤ 1000; decide), ?_⟩
  generalize e4 : up Γ3 p3 (O.lst _) = Γ4; have g4 := al_g e4; have k4 : Kq [p3] Γ3 Γ4 := e4 ▸ .set (by simp) _
  have gy4 := k4 _ _ (by simpa using n3) gy3
  and_intros
  refine t_tyL g4 ?_
  and_intros
  refine ⟨y, _, _, _, false, rfl, rfl, xD.ex, gy4, xD.kb, ?_⟩
  and_intros
  refine ⟨p3, _, _, rfl, rfl, g4, small1000 (by show 4 ≤ 1000; decide), ?_⟩
  generalize e5 : up Γ4 p3 (O.lst _) = Γ5; have g5 := al_g e5; have k5 : Kq [p3] Γ4 Γ5 := e5 ▸ .set (by simp) _
  and_intros
  have f3 : Γ p3 = none := kq_none (l := []) ((l1.trans l2).kq) hp3 (by simp)
  refine drop0 .refl (q p3 Γ5 f3 g5 fun b o h => ?_)
  have nb : b ≠ p3 := gnn h f3
  exact k5 _ _ (by simpa using nb) (k4 _ _ (by simpa using nb) (l3 _ _ (l2 _ _ (l1 _ _ h))))
end
theorem sorted_eq : ∀ {xs ys : List Blk}, xs.Perm ys → (xs.map (·.1)).Pairwise (· ≤ ·) → (ys.map (·.1)).Pairwise (· ≤ ·) → (xs.map (·.1)).Nodup → xs = ys
 | [], ys, p, _, _, _ => p.nil_eq
 | x :: xs, [], p, _, _, _ => by have := p.length_eq; simp at this
 | x :: xs, y :: ys, p, h1, h2, nd => by
  rw [List.map_cons, List.pairwise_cons] at h1 h2
  rw [List.map_cons, List.nodup_cons] at nd
  have e : x = y := by
   have mx := p.mem_iff.mp (List.mem_cons_self (a := x))
   have my := p.mem_iff.mpr (List.mem_cons_self (a := y))
   rcases List.mem_cons.mp mx with e | mx
   ·exact e
   rcases List.mem_cons.mp my with e | my
   ·exact e.symm
   have a1 := h1.1 y.1 (List.mem_map.mpr ⟨y, my, rfl⟩)
   have a2 := h2.1 x.1 (List.mem_map.mpr ⟨x, mx, rfl⟩)
   have : x.1 = y.1 := by omega
   exact absurd (List.mem_map.mpr ⟨y, my, this.symm⟩) nd.1
  subst e
  rw [sorted_eq (List.perm_cons x |>.mp p) h1.2 h2.2 nd.2]
theorem SI.ndf {size : Int} {B : List Blk} {G : List Gap} (h : SI size B G) : (B.map (·.1)).Nodup := by
 rw [List.Nodup, List.pairwise_map]
 refine h.dis.imp_of_mem fun {p q} hp hq r z => ?_
 have := h.pos p hp
 have := h.pos q hq
 omega
theorem SI.perm {size : Int} {B B' : List Blk} {G : List Gap} (h : SI size B G) (p : B'.Perm B) : SI size B' G := by
 refine ⟨h.sep, fun x => (h.fr x).trans ?_, fun q hq => h.pos q (p.mem_iff.mp hq), (p.pairwise_iff fun {x y} r => r.symm).mpr h.dis⟩
 unfold Free
 exact and_congr Iff.rfl (and_congr Iff.rfl ⟨fun f q hq => f q (p.mem_iff.mp hq), fun f q hq => f q (p.mem_iff.mpr hq)⟩)
theorem Fits.perm {size at_ many : Int} {B B' : List Blk} (p : B'.Perm B) (h : Fits size B at_ many) : Fits size B' at_ many := ⟨h.1, fun q hq => h.2 q (p.mem_iff.mp hq)⟩
theorem Pl.perm {size many b : Int} {B B' : List Blk} (p : B'.Perm B) (h : Pl size B many b) : Pl size B' many b :=
 ⟨h.1, h.2.1.imp id fun ⟨q, hq, e⟩ => ⟨q, p.mem_iff.mpr hq, e⟩, Fits.perm p h.2.2.1, fun a a1 fa => h.2.2.2 a a1 (Fits.perm p.symm fa)⟩
theorem NoPl.perm {size many : Int} {B B' : List Blk} (p : B'.Perm B) (h : NoPl size B many) : NoPl size B' many := h.imp id fun h a a1 fa => h a a1 (Fits.perm p.symm fa)
theorem StO.pos {Γ : Gp} {C a : Addr} {own : List Addr} {size : Int} {B : List Blk} {nd : Nat} (h : StO Γ C a own size B nd) : ∀ q ∈ B, 1 ≤ q.1 ∧ 1 ≤ q.2.1 ∧ q.1 + q.2.1 ≤ size + 1 := by
 obtain ⟨_, _, _, _, _, _, _, _, si, _⟩ := h
 exact si.pos
theorem StO.si {Γ : Gp} {C a : Addr} {own : List Addr} {size : Int} {B : List Blk} {nd : Nat} (h : StO Γ C a own size B nd) : ∃ G, SI size B G := by
 obtain ⟨_, _, _, _, G, _, _, _, si, _⟩ := h
 exact ⟨G, si⟩
theorem Pl.one {size many b c : Int} {B : List Blk} (h0 : ∀ q ∈ B, 1 ≤ q.1 ∧ 1 ≤ q.2.1 ∧ q.1 + q.2.1 ≤ size + 1) (h : Pl size B many b) (h' : Pl size B many c) : b = c := by
 have p1 : ∀ {b}, Pl size B many b → 1 ≤ b := fun h => by
  rcases h.2.1 with rfl | ⟨q, hq, rfl⟩
  ·exact Int.le_refl _
  ·have := h0 q hq; omega
 have a1 := h.2.2.2 c (p1 h') h'.2.2.1
 have a2 := h'.2.2.2 b (p1 h) h.2.2.1
 omega
theorem Pl.no {size many b : Int} {B : List Blk} (h0 : ∀ q ∈ B, 1 ≤ q.1 ∧ 1 ≤ q.2.1 ∧ q.1 + q.2.1 ≤ size + 1) (h : Pl size B many b) (n : NoPl size B many) : False := by
 rcases n with n | n
 ·have := h.1; omega
 ·refine n b ?_ h.2.2.1
  rcases h.2.1 with rfl | ⟨q, hq, rfl⟩
  ·exact Int.le_refl _
  ·have := h0 q hq; omega
def atA (ad : Int) (B : List Blk) : List Blk := B.filter fun q => decide (q.1 = ad)
def offA (ad : Int) (B : List Blk) : List Blk := B.filter fun q => !decide (q.1 = ad)
theorem atA_cases {ad : Int} : ∀ {B : List Blk}, (B.map (·.1)).Nodup → (atA ad B = [] ∧ ∀ q ∈ B, q.1 ≠ ad) ∨ ∃ q ∈ B, q.1 = ad ∧ atA ad B = [q]
 | [], _ => .inl ⟨rfl, fun _ h => (nomatch h)⟩
 | x :: B, nd => by
  rw [List.map_cons, List.nodup_cons] at nd
  by_cases e : x.1 = ad
  ·right
   refine ⟨x, by simp, e, ?_⟩
   unfold atA
   rw [List.filter_cons, if_pos (decide_eq_true e)]
   congr 1
   rw [List.filter_eq_nil_iff]
   intro q hq z
   exact nd.1 (List.mem_map.mpr ⟨q, hq, by rw [of_decide_eq_true z, e]⟩)
  ·have ne : atA ad (x :: B) = atA ad B := by unfold atA; rw [List.filter_cons, if_neg (by simp [e])]
   rcases atA_cases (ad := ad) nd.2 with ⟨h1, h2⟩ | ⟨q, hq, e1, e2⟩
   ·refine .inl ⟨by rw [ne, h1], fun q hq => ?_⟩
    rcases List.mem_cons.mp hq with rfl | hq
    ·exact e
    ·exact h2 q hq
   ·exact .inr ⟨q, by simp [hq], e1, by rw [ne, e2]⟩
theorem uniq {B : List Blk} (nd : (B.map (·.1)).Nodup) {p q : Blk} (hp : p ∈ B) (hq : q ∈ B) (e : p.1 = q.1) : p = q := by
 induction B with
 | nil => cases hp
 | cons x B ih =>
  rw [List.map_cons, List.nodup_cons] at nd
  rcases List.mem_cons.mp hp with h1 | h1 <;> rcases List.mem_cons.mp hq with h2 | h2
  ·rw [h1, h2]
  ·subst h1; exact absurd (List.mem_map.mpr ⟨q, h2, e.symm⟩) nd.1
  ·subst h2; exact absurd (List.mem_map.mpr ⟨p, h1, e⟩) nd.1
  ·exact ih nd.2 h1 h2
theorem offA_split {ad len hand : Int} {B1 B2 BL : List Blk} (nd : ((B1 ++ (ad, len, hand) :: B2).map (·.1)).Nodup) (p : BL.Perm (B1 ++ (ad, len, hand) :: B2)) : (offA ad BL).Perm (B1 ++ B2) := by
 have := p.filter fun q => !decide (q.1 = ad)
 refine this.trans ?_
 have keep : ∀ B : List Blk, (∀ q ∈ B, q.1 ≠ ad) → B.filter (fun q => !decide (q.1 = ad)) = B := fun B hB => by
  rw [List.filter_eq_self]
  intro q hq
  rw [decide_eq_false (hB q hq)]; rfl
 rw [List.map_append, List.map_cons, List.nodup_append, List.nodup_cons] at nd
 have k1 : ∀ q ∈ B1, q.1 ≠ ad := fun q hq => nd.2.2 q.1 (List.mem_map.mpr ⟨q, hq, rfl⟩) ad (by simp)
 have k2 : ∀ q ∈ B2, q.1 ≠ ad := fun q hq z => nd.2.1.1 (List.mem_map.mpr ⟨q, hq, z⟩)
 rw [List.filter_append, List.filter_cons, if_neg (by simp), keep B1 k1, keep B2 k2]
theorem offA_sorted {ad : Int} {BL : List Blk} (h : (BL.map (·.1)).Pairwise (· ≤ ·)) : ((offA ad BL).map (·.1)).Pairwise (· ≤ ·) := h.sublist ((List.filter_sublist).map _)
theorem mk_flat {b : Bool} : ∀ t ∈ mkT b, Dq 2 t := fun t ht => by
 simp only [mkT, List.mem_cons, List.not_mem_nil, or_false] at ht
 rcases ht with rfl | rfl | rfl | rfl | rfl <;> exact .flat rfl rfl
theorem bk_sm {B : List Blk} : ∀ y ∈ B.map bkT, Sm 1 y := fun y hy => by
 obtain ⟨q, _, rfl⟩ := List.mem_map.mp hy
 refine .tup (by simp) fun t ht => ?_
 simp only [List.mem_cons, List.not_mem_nil, or_false] at ht
 rcases ht with rfl | rfl | rfl <;> exact .int _
section
variable {P : Program} {w : World} {K : PySem.W.Frag} {mg : Str → Option Value} {base : Heap} {f C cNoRoom cNoBlock cWrongHand cGateError : Addr} {fd : FuncData}
abbrev s_law_address : Stmt := top 26
theorem sc_law_address : FnScope ["bag", "size", "blocks", "gone", "way", "at", "length", "hand"] ["bag", "size", "blocks", "gone"] (defScope s_law_address) := ⟨rfl, rfl, rfl, by decide +kernel, rfl, by decide +kernel, by decide +kernel⟩
def spAd : Sp3 := fun ts Γ Z _ => ∃ (a pb pg : Addr) (size : Int) (BL : List Blk) (gs : List Int) (c : Nat), ts = [.ref a, .int size, .ref pb, .ref pg] ∧ BagAt Γ a (c + 5) ∧ 1 ≤ size ∧ size ≤ 60 ∧ Γ pb = some (.lst (BL.map bkT)) ∧ Γ pg = some (.lst (gs.map T.int)) ∧ pb ≠ a ∧ pg ≠ a ∧ BL.length ≤ 900 ∧ gs.length ≤ 900 ∧ (∀ q ∈ BL, 1 ≤ q.2.1 ∧ q.2.1 ≤ 1000) ∧ ∀ (m : Int) (Γ' : Gp), BagAt Γ' a c → Kq [a] Γ Γ' → Z (.int m) Γ'
theorem ok_address (F : Fun K "_law_address" "_law_address" s_law_address f fd) (c_law_draw : Cl3 P w K mg base "_law_draw" 1 ["bag", "many"] spDw) (c_law_much : Cl3 P w K mg base "_law_much" 2 ["bag", "many"] spMu) (z_len : mg "len" = none) : FnOk P w K mg base CX0 3 f fd ["bag", "size", "blocks", "gone"] (liSp spAd) := by
 refine okd F sc_law_address (fun ts Γ Z Y h => ?_) (fun cdv A outer s H E ts Γ Z Y hr h => ?_)
 ·obtain ⟨a, pb, pg, size, BL, gs, c, rfl, _⟩ := h
  rfl
 obtain ⟨a, pb, pg, size, BL, gs, c, rfl, bg, s1, s2, gb, gg, nba, nga, bl, gl, hq, q⟩ := h
 refine ⟨_, (qss_cons (qs_set (i := 4) sc_law_address.nd rfl (Or.inl rfl) (qe_call c_law_draw hr (by omega) rfl (qa_cons (qv 0) (qa_cons qe_int qa_nil))))
  (qss_cons (qs_if (PW.pt (qw_and (qt_cmpR oq_lt (qv 4) qe_int (nomark _)) (qw_and1 (qt_cmpR (oq_neNil hr.units0) (qv 2) (qe_lst qa_nil) (nomark _))))) (qss_cons (qs_asg (qe_ix (qv 2) (qe_call c_law_draw hr (by omega) rfl (qa_cons (qv 0) (qa_cons (qe_callB cq_len rfl z_len PySem.boot_len (qa_cons (qv 2) qa_nil)) qa_nil))) (fun _ _ => rfl)) (qg_tup (n := 3) rfl (qgs_cons (qg_name (i := 5) sc_law_address.nd rfl (Or.inl rfl)) (qgs_cons (qg_name (i := 6) sc_law_address.nd rfl (Or.inl rfl)) (qgs_cons (qg_name (i := 7) sc_law_address.nd rfl (Or.inl rfl)) qgs_nil)))))
  (qss_cons (qs_if (qt_cmpR oq_eq (qv 4) qe_int (nomark _)) (qss_cons (qs_ret (qe_op oq_add (qv 5) (qe_call c_law_draw hr (by omega) rfl (qa_cons (qv 0) (qa_cons (qv 6) qa_nil)))))
  qss_nil) qss_nil)
  (qss_cons (qs_ret (qv 5))
  qss_nil))) qss_nil)
  (qss_cons (qs_if (PW.pt (qw_and (qt_cmpR oq_eq (qv 4) qe_int (nomark _)) (qw_and1 (qt_cmpR (oq_neNil hr.units0) (qv 3) (qe_lst qa_nil) (nomark _))))) (qss_cons (qs_ret (qe_ix (qv 3) (qe_call c_law_draw hr (by omega) rfl (qa_cons (qv 0) (qa_cons (qe_callB cq_len rfl z_len PySem.boot_len (qa_cons (qv 3) qa_nil)) qa_nil))) (fun _ _ => rfl)))
  qss_nil) qss_nil)
  (qss_cons (qs_if (qt_cmpR oq_eq (qv 4) qe_int (nomark _)) (qss_cons (qs_ret (qe_neg (qe_call c_law_much hr (by omega) rfl (qa_cons (qv 0) (qa_cons (qe_op oq_pow qe_int qe_int) qa_nil)))))
  qss_nil) qss_nil)
  (qss_cons (qs_if (qt_cmpR oq_eq (qv 4) qe_int (nomark _)) (qss_cons (qs_ret (qe_op oq_add (qe_op oq_add (qv 1) qe_int) (qe_call c_law_much hr (by omega) rfl (qa_cons (qv 0) (qa_cons (qe_op oq_pow qe_int qe_int) qa_nil)))))
  qss_nil) qss_nil)
  (qss_cons (qs_ret (qe_call c_law_draw hr (by omega) rfl (qa_cons (qv 0) (qa_cons (qe_op oq_add (qv 1) qe_int) qa_nil))))
  qss_nil)))))), ?_⟩
 simp only [start3]
 and_intros
 refine ⟨a, 8, c + 4, rfl, bg, by decide, by decide, fun way Γ1 w0 w1 bg1 fr1 => ?_⟩
 have k1 : Kq [a] Γ Γ1 := fr1.kq
 have gb1 := (fr1 pb (by simpa using nba)).trans gb
 have gg1 := (fr1 pg (by simpa using nga)).trans gg
 and_intros
 refine c_if (fun c1 => ?_) (fun c1 => ?_)
 ·and_intros
  intro p2 hp2; generalize e2 : up _ p2 (O.lst _) = Γ2; have g2 := al_g e2; have l2 := al_l e2 hp2
  have gb2 := l2 _ _ gb1
  have gg2 := l2 _ _ gg1
  have bg2 := bg1.le l2
  have k2 : Kq [a] Γ Γ2 := k1.trans l2.kq
  clear e2
  refine ⟨pb, p2, _, rfl, rfl, gb2, g2, ?_⟩
  and_intros
  refine c_if (fun c2 => ?_) (fun c2 => ?_)
  ·have np : 0 < BL.length := by
    cases BL with
    | nil => cases c2
    | cons _ _ => simp
   and_intros
   refine t_lenR gb2 ?_
   rw [List.length_map]
   and_intros
   refine ⟨a, _, c + 3, rfl, bg2, by omega, by omega, fun r Γ3 r0 r1 bg3 fr3 => ?_⟩
   have gb3 : Γ3 pb = some (.lst (BL.map bkT)) := (fr3 pb (by simpa using nba)).trans gb2
   obtain ⟨xt, hxt, mxt⟩ := at_some (xs := BL.map bkT) r0 (by rw [List.length_map]; exact r1)
   obtain ⟨⟨ad, len, hd⟩, mq, rfl⟩ := List.mem_map.mp mxt
   have hl := hq _ mq
   have hl1 : 1 ≤ len := hl.1
   have hl2 : len ≤ 1000 := hl.2
   refine t_ixR gb3 hxt ?_
   unfold bkT
   and_intros
   refine c_if (fun c3 => ?_) (fun c3 => ?_)
   ·and_intros
    refine ⟨a, len, c + 2, rfl, bg3, by omega, by omega, fun r2 Γ4 _ _ bg4 fr4 => ?_⟩
    and_intros
    exact drop0 .refl (q _ Γ4 (bg4.less (by omega)) ((k2.trans fr3.kq).trans fr4.kq))
   ·and_intros
    exact drop0 .refl (q _ Γ3 (bg3.less (by omega)) (k2.trans fr3.kq))
  ·and_intros
   refine c_if (fun c4 => ?_) (fun c4 => ?_)
   ·and_intros
    intro p5 hp5; generalize e5 : up _ p5 (O.lst _) = Γ5; have g5 := al_g e5; have l5 := al_l e5 hp5
    have gg5 := l5 _ _ gg2
    have bg5 := bg2.le l5
    have k5 : Kq [a] Γ Γ5 := k2.trans l5.kq
    clear e5
    refine ⟨pg, p5, _, rfl, rfl, gg5, g5, ?_⟩
    and_intros
    refine c_if (fun c5 => ?_) (fun c5 => ?_)
    ·have np : 0 < gs.length := by
      cases gs with
      | nil => cases c5
      | cons _ _ => simp
     and_intros
     refine t_lenR gg5 ?_
     rw [List.length_map]
     and_intros
     refine ⟨a, _, c + 3, rfl, bg5, by omega, by omega, fun r Γ6 r0 r1 bg6 fr6 => ?_⟩
     have gg6 : Γ6 pg = some (.lst (gs.map T.int)) := (fr6 pg (by simpa using nga)).trans gg5
     obtain ⟨xt, hxt, mxt⟩ := at_some (xs := gs.map T.int) r0 (by rw [List.length_map]; exact r1)
     obtain ⟨m, _, rfl⟩ := List.mem_map.mp mxt
     refine t_ixR gg6 hxt ?_
     exact drop0 .refl (q m Γ6 (bg6.less (by omega)) (k5.trans fr6.kq))
    ·and_intros
     refine c_if (fun c6 => ?_) (fun c6 => ?_)
     ·and_intros
      refine ⟨a, 10 ^ 20, c + 1, rfl, bg5, by decide, fun r Γ9 _ _ bg9 fr9 => ?_⟩
      and_intros
      exact drop0 .refl (q _ Γ9 (bg9.less (by omega)) (k5.trans fr9.kq))
     and_intros
     refine c_if (fun c7 => ?_) (fun c7 => ?_)
     ·and_intros
      refine ⟨a, 10 ^ 20, c + 1, rfl, bg5, by decide, fun r Γ9 _ _ bg9 fr9 => ?_⟩
      and_intros
      exact drop0 .refl (q _ Γ9 (bg9.less (by omega)) (k5.trans fr9.kq))
     and_intros
     refine ⟨a, _, c + 3, rfl, bg5, by omega, by omega, fun r Γ9 _ _ bg9 fr9 => ?_⟩
     exact drop0 .refl (q _ Γ9 (bg9.less (by omega)) (k5.trans fr9.kq))
   ·and_intros
    refine c_if (fun c6 => ?_) (fun c6 => ?_)
    ·and_intros
     refine ⟨a, 10 ^ 20, c + 1, rfl, bg2, by decide, fun r Γ9 _ _ bg9 fr9 => ?_⟩
     and_intros
     exact drop0 .refl (q _ Γ9 (bg9.less (by omega)) (k2.trans fr9.kq))
    and_intros
    refine c_if (fun c7 => ?_) (fun c7 => ?_)
    ·and_intros
     refine ⟨a, 10 ^ 20, c + 1, rfl, bg2, by decide, fun r Γ9 _ _ bg9 fr9 => ?_⟩
     and_intros
     exact drop0 .refl (q _ Γ9 (bg9.less (by omega)) (k2.trans fr9.kq))
    and_intros
    refine ⟨a, _, c + 3, rfl, bg2, by omega, by omega, fun r Γ9 _ _ bg9 fr9 => ?_⟩
    exact drop0 .refl (q _ Γ9 (bg9.less (by omega)) (k2.trans fr9.kq))
 ·and_intros
  refine c_if (fun c4 => ?_) (fun c4 => ?_)
  ·and_intros
   intro p5 hp5; generalize e5 : up _ p5 (O.lst _) = Γ5; have g5 := al_g e5; have l5 := al_l e5 hp5
   have gg5 := l5 _ _ gg1
   have bg5 := bg1.le l5
   have k5 : Kq [a] Γ Γ5 := k1.trans l5.kq
   clear e5
   refine ⟨pg, p5, _, rfl, rfl, gg5, g5, ?_⟩
   and_intros
   refine c_if (fun c5 => ?_) (fun c5 => ?_)
   ·have np : 0 < gs.length := by
     cases gs with
     | nil => cases c5
     | cons _ _ => simp
    and_intros
    refine t_lenR gg5 ?_
    rw [List.length_map]
    and_intros
    refine ⟨a, _, c + 3, rfl, bg5, by omega, by omega, fun r Γ6 r0 r1 bg6 fr6 => ?_⟩
    have gg6 : Γ6 pg = some (.lst (gs.map T.int)) := (fr6 pg (by simpa using nga)).trans gg5
    obtain ⟨xt, hxt, mxt⟩ := at_some (xs := gs.map T.int) r0 (by rw [List.length_map]; exact r1)
    obtain ⟨m, _, rfl⟩ := List.mem_map.mp mxt
    refine t_ixR gg6 hxt ?_
    exact drop0 .refl (q m Γ6 (bg6.less (by omega)) (k5.trans fr6.kq))
   ·and_intros
    refine c_if (fun c6 => ?_) (fun c6 => ?_)
    ·and_intros
     refine ⟨a, 10 ^ 20, c + 1, rfl, bg5, by decide, fun r Γ9 _ _ bg9 fr9 => ?_⟩
     and_intros
     exact drop0 .refl (q _ Γ9 (bg9.less (by omega)) (k5.trans fr9.kq))
    and_intros
    refine c_if (fun c7 => ?_) (fun c7 => ?_)
    ·and_intros
     refine ⟨a, 10 ^ 20, c + 1, rfl, bg5, by decide, fun r Γ9 _ _ bg9 fr9 => ?_⟩
     and_intros
     exact drop0 .refl (q _ Γ9 (bg9.less (by omega)) (k5.trans fr9.kq))
    and_intros
    refine ⟨a, _, c + 3, rfl, bg5, by omega, by omega, fun r Γ9 _ _ bg9 fr9 => ?_⟩
    exact drop0 .refl (q _ Γ9 (bg9.less (by omega)) (k5.trans fr9.kq))
  ·and_intros
   refine c_if (fun c6 => ?_) (fun c6 => ?_)
   ·and_intros
    refine ⟨a, 10 ^ 20, c + 1, rfl, bg1, by decide, fun r Γ9 _ _ bg9 fr9 => ?_⟩
    and_intros
    exact drop0 .refl (q _ Γ9 (bg9.less (by omega)) (k1.trans fr9.kq))
   and_intros
   refine c_if (fun c7 => ?_) (fun c7 => ?_)
   ·and_intros
    refine ⟨a, 10 ^ 20, c + 1, rfl, bg1, by decide, fun r Γ9 _ _ bg9 fr9 => ?_⟩
    and_intros
    exact drop0 .refl (q _ Γ9 (bg9.less (by omega)) (k1.trans fr9.kq))
   and_intros
   refine ⟨a, _, c + 3, rfl, bg1, by omega, by omega, fun r Γ9 _ _ bg9 fr9 => ?_⟩
   exact drop0 .refl (q _ Γ9 (bg9.less (by omega)) (k1.trans fr9.kq))
end
theorem atA_snoc {ad : Int} {D : List Blk} {k : Blk} : atA ad (D ++ [k]) = if decide (k.1 = ad) = true then atA ad D ++ [k] else atA ad D := by
 unfold atA
 rw [List.filter_append]
 by_cases e : decide (k.1 = ad) = true
 ·rw [if_pos e, List.filter_cons, if_pos e, List.filter_nil]
 ·rw [if_neg e, List.filter_cons, if_neg e, List.filter_nil, List.append_nil]
theorem offA_snoc {ad : Int} {D : List Blk} {k : Blk} : offA ad (D ++ [k]) = if decide (k.1 = ad) = true then offA ad D else offA ad D ++ [k] := by
 unfold offA
 rw [List.filter_append]
 by_cases e : decide (k.1 = ad) = true
 ·rw [if_pos e, List.filter_cons, if_neg (by rw [e]; decide), List.filter_nil, List.append_nil]
 ·rw [if_neg e, List.filter_cons, if_pos (by simp at e; simp [e]), List.filter_nil]
theorem dec_int {i j : Int} : decide (V.int i = V.int j) = decide (i = j) := by
 by_cases e : i = j
 ·rw [decide_eq_true e, decide_eq_true (by rw [e])]
 ·rw [decide_eq_false e, decide_eq_false fun z => e (V.int.inj z)]
section
variable {P : Program} {w : World} {K : PySem.W.Frag} {mg : Str → Option Value} {base : Heap} {f C cNoRoom cNoBlock cWrongHand cGateError : Addr} {fd : FuncData}
abbrev s_law_back : Stmt := top 29
theorem sc_law_back : FnScope ["store", "size", "blocks", "hand", "address", "length", "rest", "other", "due"] ["store", "size", "blocks", "hand", "address"] (defScope s_law_back) := ⟨rfl, rfl, rfl, by decide +kernel, rfl, by decide +kernel, by decide +kernel⟩
def spBa (C : Addr) : Sp3 := fun ts Γ Z _ => ∃ (x pb : Addr) (own : List Addr) (size hand ad len : Int) (B1 B2 BL : List Blk) (nd : Nat), ts = [.ref x, .int size, .ref pb, .int hand, .int ad] ∧ StO Γ C x own size (B1 ++ (ad, len, hand) :: B2) (nd + 3) ∧ BL.Perm (B1 ++ (ad, len, hand) :: B2) ∧ (BL.map (·.1)).Pairwise (· ≤ ·) ∧ Γ pb = some (.lst (BL.map bkT)) ∧ pb ∉ own ∧ BL.length ≤ 62 ∧ 1 ≤ size ∧ size ≤ 60 ∧ (hand = 0 ∨ hand = 1) ∧ ∀ (B' : List Blk) (Γ' : Gp), B'.Perm (offA ad BL) → StO Γ' C x own size B' nd → Kq own Γ Γ' → Z (.bl true) Γ'
theorem ok_back (F : Fun K "_law_back" "_law_back" s_law_back f fd) (c_law_given : Cl3 P w K mg base "_law_given" 4 ["store", "hand", "address"] (spGi C)) (c_Store_blocks : ClM P w K mg base C "blocks" 1 ["self"] (spBk C)) (c_law_alike : Cl3 P w K mg base "_law_alike" 3 ["found", "due"] (spAk 3)) (c_law_place : Cl3 P w K mg base "_law_place" 2 ["size", "blocks", "many"] spPlc) (c_law_taken : Cl3 P w K mg base "_law_taken" 3 ["store", "hand", "many"] (spTn C)) (z_range : mg "range" = none) : FnOk P w K mg base CX0 5 f fd ["store", "size", "blocks", "hand", "address"] (liSp (spBa C)) := by
 refine okd F sc_law_back (fun ts Γ Z Y h => ?_) (fun cdv A outer s H E ts Γ Z Y hr h => ?_)
 ·obtain ⟨x, pb, own, size, hand, ad, len, B1, B2, BL, nd, rfl, _⟩ := h
  rfl
 obtain ⟨x, pb, own, size, hand, ad, len, B1, B2, BL, nd, rfl, st, pBL, so, gb, nb, bl, s1, s2, h01, q⟩ := h
 refine ⟨_, (qss_cons (qs_set (i := 5) sc_law_back.nd rfl (Or.inl rfl) (qe_ix (qe_comp (own := ["one"]) (cap := [(4, "address")]) (compOkC rfl (by decide +kernel) (by decide +kernel) rfl (⟨rfl, trivial⟩) rfl (⟨⟨rfl, rfl, rfl⟩, trivial⟩)) rfl (qi_list (qv 2)) (fun _ _ _ _ => (qg_name (i := 0) (show List.Nodup (["one", "address"] : List Str) from by decide +kernel) rfl (Or.inl rfl) (Or.inr rfl))) (fun _ _ _ _ => (qts_one (qt_cmpR oq_eq (qe_ix (qv 0) qe_int (fun _ _ => rfl)) (qv 1) (nomark _)))) (fun _ _ _ _ => (qe_ix (qv 0) qe_int (fun _ _ => rfl)))) qe_int (fun _ _ => rfl)))
  (qss_cons (qs_comp (i := 6) (own := ["one"]) (cap := [(4, "address")]) (compOkC rfl (by decide +kernel) (by decide +kernel) rfl (⟨rfl, trivial⟩) rfl (⟨⟨rfl, rfl, rfl⟩, trivial⟩)) rfl (qi_list (qv 2)) (fun _ _ _ _ => (qg_name (i := 0) (show List.Nodup (["one", "address"] : List Str) from by decide +kernel) rfl (Or.inl rfl) (Or.inr rfl))) (fun _ _ _ _ => (qts_one (qt_cmpR oq_ne (qe_ix (qv 0) qe_int (fun _ _ => rfl)) (qv 1) (nomark _)))) (fun _ _ _ _ => (qv 0)) sc_law_back.nd rfl rfl)
  (qss_cons (qs_if (PW.pt (qw_or (qt_cmpR (oq_neT hr.units0) (qe_call c_law_given hr (by omega) rfl (qa_cons (qv 0) (qa_cons (qv 3) (qa_cons (qv 4) qa_nil)))) (qe_tup (qa_cons qe_str (qa_cons qe_non qa_nil))) (nomark _)) (qw_or1 (qt_not (qt_val (qe_call c_law_alike hr (by omega) rfl (qa_cons (qe_meth0 c_Store_blocks hr (by omega) (qv 0)) (qa_cons (qv 6) qa_nil)))))))) (qss_cons (qs_ret qe_bl)
  qss_nil) qss_nil)
  (qss_cons (qs_for PassesOwn.never rfl (qi_range1 rfl z_range (qa_cons qe_int qa_nil)) (qg_name (i := 7) sc_law_back.nd rfl (Or.inl rfl)) (qss_cons (qs_if (qt_cmpR (oq_neT hr.units0) (qe_call c_law_given hr (by omega) rfl (qa_cons (qv 0) (qa_cons (qv 7) (qa_cons (qv 4) qa_nil)))) (qe_tup (qa_cons qe_str (qa_cons qe_non qa_nil))) (nomark _)) (qss_cons (qs_ret qe_bl)
  qss_nil) qss_nil)
  qss_nil))
  (qss_cons (qs_set (i := 8) sc_law_back.nd rfl (Or.inl rfl) (qe_call c_law_place hr (by omega) rfl (qa_cons (qv 1) (qa_cons (qv 6) (qa_cons (qv 5) qa_nil)))))
  (qss_cons (qs_if (PW.pt (qw_or (qt_not (qt_val (qe_call c_law_alike hr (by omega) rfl (qa_cons (qe_call c_law_taken hr (by omega) rfl (qa_cons (qv 0) (qa_cons (qe_op oq_sub qe_int (qv 3)) (qa_cons (qv 5) qa_nil)))) (qa_cons (qe_tup (qa_cons qe_str (qa_cons (qv 8) qa_nil))) qa_nil))))) (qw_or1 (qt_cmpR oq_gt (qv 8) (qv 4) (nomark _))))) (qss_cons (qs_ret qe_bl)
  qss_nil) qss_nil)
  (qss_cons (qs_if (PW.pt (qw_or (qt_cmpR (oq_neT hr.units0) (qe_call c_law_given hr (by omega) rfl (qa_cons (qv 0) (qa_cons (qv 3) (qa_cons (qv 8) qa_nil)))) (qe_tup (qa_cons qe_str (qa_cons qe_non qa_nil))) (nomark _)) (qw_or1 (qt_cmpR (oq_neT hr.units0) (qe_call c_law_given hr (by omega) rfl (qa_cons (qv 0) (qa_cons (qe_op oq_sub qe_int (qv 3)) (qa_cons (qv 8) qa_nil)))) (qe_tup (qa_cons qe_str (qa_cons qe_non qa_nil))) (nomark _))))) (qss_cons (qs_ret qe_bl)
  qss_nil) qss_nil)
  (qss_cons (qs_ret (qe_call c_law_alike hr (by omega) rfl (qa_cons (qe_meth0 c_Store_blocks hr (by omega) (qv 0)) (qa_cons (qv 6) qa_nil))))
  qss_nil)))))))), ?_⟩
 simp only [start3]
 obtain ⟨G, si⟩ := st.si
 have ndB := SI.ndf si
 have siL := SI.perm si pBL
 have ndL := SI.ndf siL
 have mq : (ad, len, hand) ∈ BL := pBL.mem_iff.mpr (by simp)
 have po := si.pos (ad, len, hand) (by simp)
 have po1 : 1 ≤ ad := po.1
 have po2 : 1 ≤ len := po.2.1
 have po3 : ad + len ≤ size + 1 := po.2.2
 have eAt : atA ad BL = [(ad, len, hand)] := by
  rcases atA_cases (ad := ad) ndL with ⟨_, no⟩ | ⟨q, hq, e1, e2⟩
  ·exact absurd rfl (no _ mq)
  ·rw [e2, uniq ndL hq mq e1]
 have pO : (offA ad BL).Perm (B1 ++ B2) := offA_split ndB pBL
 have lO : (offA ad BL).length ≤ 62 := Nat.le_trans (List.length_filter_le _ _) bl
 have soO := offA_sorted (ad := ad) so
 have noO : ∀ q ∈ B1 ++ B2, q.1 ≠ ad := fun q hq z => by
  have := pO.mem_iff.mpr hq
  unfold offA at this
  have := (List.mem_filter.mp this).2
  rw [decide_eq_true z] at this
  cases this
 and_intros
 refine ⟨pb, _, rfl, it3_l gb, Nat.le_of_lt (small1000 (by rw [List.length_map]; omega)), ?_⟩
 refine ⟨fun rest τ ys Γ' => ∃ (D R : List Blk) (o0 : Option T), rest = R.map bkT ∧ BL = D ++ R ∧ τ = [o0, some (.int ad)] ∧ ys = ((atA ad D).map (·.2.1)).map T.int ∧ Γ' = Γ, ⟨[], BL, none, rfl, rfl, rfl, rfl, rfl⟩, ?_, ?_⟩
 rotate_left
 ·rintro y r τ ys Γ' ⟨D, R, o0, er, eD, rfl, rfl, rfl⟩
  cases R with
  | nil => cases er
  | cons k R =>
   cases er
   refine ⟨it3_l gb, ?_⟩
   unfold bkT
   and_intros
   rw [dec_int]
   refine c_if (fun c => ?_) (fun c => ?_)
   ·and_intros
    exact ⟨D ++ [k], R, _, rfl, by rw [eD]; simp, rfl, by rw [atA_snoc, if_pos c, List.map_append, List.map_append]; rfl, rfl⟩
   ·exact ⟨D ++ [k], R, _, rfl, by rw [eD]; simp, rfl, by rw [atA_snoc, if_neg (by rw [c]; decide)], rfl⟩
 rintro τ ys Γ' ⟨D, R, o0, er, eD, rfl, rfl, rfl⟩
 have hz : R = [] := by
  cases R with
  | nil => rfl
  | cons _ _ => cases er
 subst hz
 rw [List.append_nil] at eD
 subst eD
 rw [eAt]
 refine ⟨it3_l gb, ?_⟩
 intro p1 hp1; generalize e1 : up _ p1 (O.lst _) = Γ1; have g1 := al_g e1; have l1 := al_l e1 hp1
 have gb1 := l1 _ _ gb
 and_intros
 refine ⟨pb, _, rfl, it3_l gb1, Nat.le_of_lt (small1000 (by rw [List.length_map]; omega)), ?_⟩
 refine ⟨fun rest τ ys Γ' => ∃ (D R : List Blk) (o0 : Option T), rest = R.map bkT ∧ BL = D ++ R ∧ τ = [o0, some (.int ad)] ∧ ys = (offA ad D).map bkT ∧ Γ' = Γ1, ⟨[], BL, none, rfl, rfl, rfl, rfl, rfl⟩, ?_, ?_⟩
 rotate_left
 ·rintro y r τ ys Γ' ⟨D, R, o0, er, eD, rfl, rfl, rfl⟩
  cases R with
  | nil => cases er
  | cons k R =>
   cases er
   refine ⟨it3_l gb1, ?_⟩
   unfold bkT
   and_intros
   rw [dec_int]
   refine c_if (fun c => ?_) (fun c => ?_)
   ·and_intros
    have c : decide (k.1 = ad) = false := by simpa using c
    exact ⟨D ++ [k], R, _, rfl, by rw [eD]; simp, rfl, by rw [offA_snoc, if_neg (by rw [c]; decide), List.map_append]; rfl, rfl⟩
   ·have c : decide (k.1 = ad) = true := by simpa using c
    exact ⟨D ++ [k], R, _, rfl, by rw [eD]; simp, rfl, by rw [offA_snoc, if_pos c], rfl⟩
 rintro τ ys Γ' ⟨D, R, o0, er, eD, rfl, rfl, rfl⟩
 have hz : R = [] := by
  cases R with
  | nil => rfl
  | cons _ _ => cases er
 subst hz
 rw [List.append_nil] at eD
 subst eD
 refine ⟨it3_l gb1, ?_⟩
 intro pr hpr; generalize e2 : up _ pr (O.lst _) = Γ2; have g2 := al_g e2; have l2 := al_l e2 hpr
 have l12 := l1.trans l2
 have st2 := st.le l12
 have nr : pr ∉ own := ((st.le l1).nn hpr).2
 obtain ⟨dx, pc, pg, ph, pd, gx⟩ := st2.insx
 clear e1 e2
 and_intros
 refine ⟨x, own, ad, hand, size, _, nd + 2, rfl, st2, fun X Y len' Γ3 eB st3 k3 => ?_, fun no => absurd rfl (no (ad, len, hand) (by simp)), fun b hb e ne => absurd (congrArg (·.2.2) (uniq ndB hb (show (ad, len, hand) ∈ _ by simp) e)) ne⟩
 have pXY : (X ++ Y).Perm (B1 ++ B2) := ((offA_split (BL := B1 ++ (ad, len, hand) :: B2) (by rw [← eB]; exact ndB) (by rw [eB])).symm).trans (offA_split ndB (.refl _))
 have pX : (X ++ Y).Perm (offA ad BL) := pXY.trans pO.symm
 have noX : ∀ q ∈ X ++ Y, q.1 ≠ ad := fun q hq => noO q (pXY.mem_iff.mp hq)
 have g3 := k3 _ _ nr g2
 obtain ⟨dx3, pc3, pg3, ph3, pd3, gx3⟩ := st3.insx
 and_intros
 refine ⟨_, _, _, _, rfl, rfl, rfl, rfl, rfl, rfl, false, congrArg T.bl (by decide +kernel), ?_⟩
 and_intros
 have lX : (X ++ Y).length ≤ 62 := by rw [pX.length_eq]; exact lO
 refine ⟨x, own, size, X ++ Y, nd + 2, rfl, st3, by omega, fun p4 Bs Γ4 hp4 pB4 hs4 g4 l4 => ?_⟩
 obtain ⟨G3, si3⟩ := st3.si
 have nd3 := SI.ndf si3
 have eBs : Bs = offA ad BL := sorted_eq (pB4.trans pX) hs4 soO (SI.ndf (SI.perm si3 pB4))
 subst eBs
 have g34 := l4 _ _ g3
 have st4 := st3.le l4
 obtain ⟨dx4, pc4, pg4, ph4, pd4, gx4⟩ := st4.insx
 and_intros
 refine ⟨_, _, 2, rfl, .inr ⟨p4, pr, _, 1, rfl, rfl, rfl, g4, g34, by rw [List.length_map]; omega, bk_sm⟩, by decide, ?_⟩
 and_intros
 refine ⟨2, rfl, by decide, by decide, ?_⟩
 refine ⟨fun rest τ Γ' => ∃ (i : Int) (m : Nat) (o7 : Option T), rest = rngT i m ∧ Γ' = Γ4 ∧ τ = [some (.ref x), some (.int size), some (.ref pb), some (.int hand), some (.int ad), some (.int len), some (.ref pr), o7, none], ⟨0, 2, none, rfl, rfl, rfl⟩, ?_, ?_⟩
 rotate_left
 ·rintro y r τ Γ' ⟨i, m, o7, er, rfl, rfl⟩
  obtain ⟨m', rfl, rfl, rfl⟩ := rngT_cons er
  and_intros
  refine ⟨x, own, ad, i, size, _, nd + 1, rfl, st4, fun X2 Y2 l2 Γ5 eB _ _ => absurd rfl (noX (ad, l2, i) (by rw [eB]; simp)), fun no => ?_, fun b hb e _ => absurd e (noX b hb)⟩
  and_intros
  refine ⟨_, _, _, _, rfl, rfl, rfl, rfl, rfl, rfl, false, congrArg T.bl (by decide +kernel), ?_⟩
  and_intros
  exact ⟨i + 1, m', _, rfl, rfl, rfl⟩
 rintro τ Γ' ⟨i, m, o7, er, rfl, rfl⟩
 refine ⟨trivial, ?_⟩
 and_intros
 have siO := SI.perm si3 pX.symm
 refine ⟨pr, size, len, offA ad BL, rfl, g34, by omega, ⟨_, siO⟩, fun r hr' => ?_⟩
 have fit : Fits size (offA ad BL) ad len := ⟨by omega, fun p hp z => by
  have hpB := pO.mem_iff.mp hp
  have hp1 := st.pos p (by rcases List.mem_append.mp hpB with h | h <;> simp [h])
  have ds := si.dis
  rw [List.pairwise_append, List.pairwise_cons] at ds
  rcases List.mem_append.mp hpB with h | h
  ·rcases ds.2.2 p h (ad, len, hand) (by simp) with w | w
   ·have w : p.1 + p.2.1 ≤ ad := w
    omega
   ·have w : ad + len ≤ p.1 := w
    omega
  ·rcases ds.2.1.1 p h with w | w
   ·have w : ad + len ≤ p.1 := w
    omega
   ·have w : p.1 + p.2.1 ≤ ad := w
    omega⟩
 rcases hr' with ⟨rfl, no⟩ | ⟨due, rfl, pl⟩
 ·exfalso
  rcases no with h | h
  ·omega
  ·exact h ad po1 fit
 have dle : due ≤ ad := pl.2.2.2 ad po1 fit
 have plX : Pl size (X ++ Y) len due := Pl.perm pX pl
 and_intros
 refine ⟨x, own, 1 - hand, len, size, X ++ Y, nd + 1, rfl, st4, by omega, fun b Γ5 pl5 st5 k5 => ?_, fun no => (Pl.no st4.pos plX no).elim⟩
 have eb := Pl.one st4.pos plX pl5
 subst eb
 obtain ⟨dx5, pc5, pg5, ph5, pd5, gx5⟩ := st5.insx
 have g35 := k5 _ _ nr g34
 obtain ⟨G5, si5⟩ := st5.si
 have nd5 := SI.ndf si5
 and_intros
 refine ⟨_, _, 1, rfl, .inl ⟨rfl, .tup (by simp) fun t ht => ?_⟩, by decide, ?_⟩
 ·simp only [List.mem_cons, List.not_mem_nil, or_false] at ht
  rcases ht with rfl | rfl
  ·exact .str (by decide)
  ·exact .int _
 and_intros
 refine ⟨due, ad, rfl, rfl, ?_⟩
 and_intros
 refine c_ifF (decide_eq_false (by omega)) ?_
 and_intros
 have hne : 1 - hand ≠ hand := by omega
 refine ⟨x, own, due, hand, size, _, nd, rfl, st5, fun X2 Y2 l2 Γ6 eB _ _ => ?_, fun no => absurd rfl (no (due, len, 1 - hand) (by simp)), fun b hb e _ => ?_⟩
 ·exfalso
  have := uniq nd5 (show (due, l2, hand) ∈ _ by rw [eB]; simp) (show (due, len, 1 - hand) ∈ _ by simp) rfl
  have : hand = 1 - hand := congrArg (·.2.2) this
  omega
 and_intros
 refine ⟨_, _, _, _, rfl, rfl, rfl, rfl, rfl, rfl, false, congrArg T.bl (by decide +kernel), ?_⟩
 and_intros
 refine ⟨x, own, due, 1 - hand, size, _, nd, rfl, st5, fun X2 Y2 l2 Γ6 eB st6 k6 => ?_, fun no => absurd rfl (no (due, len, 1 - hand) (by simp)), fun b' hb' e' ne' => absurd (congrArg (·.2.2) (uniq nd5 hb' (show (due, len, 1 - hand) ∈ _ by simp) e')) ne'⟩
 have pX2 : (X2 ++ Y2).Perm (X ++ Y) := by
  have a1 := offA_split (ad := due) (len := len) (hand := 1 - hand) (B1 := X ++ Y) (B2 := []) nd5 (.refl _)
  have a2 := offA_split (ad := due) (BL := X ++ Y ++ [(due, len, 1 - hand)]) (by rw [← eB]; exact nd5) (by rw [eB])
  rw [List.append_nil] at a1
  exact a2.symm.trans a1
 obtain ⟨dx6, pc6, pg6, ph6, pd6, gx6⟩ := st6.insx
 have g36 := k6 _ _ nr g35
 and_intros
 refine ⟨_, _, _, _, rfl, rfl, rfl, rfl, rfl, rfl, false, congrArg T.bl (by decide +kernel), ?_⟩
 and_intros
 have lX2 : (X2 ++ Y2).length ≤ 62 := by rw [pX2.length_eq]; exact lX
 refine ⟨x, own, size, X2 ++ Y2, nd, rfl, st6, by omega, fun p7 Bs Γ7 hp7 pB7 hs7 g7 l7 => ?_⟩
 obtain ⟨G6, si6⟩ := st6.si
 have eBs : Bs = offA ad BL := sorted_eq ((pB7.trans pX2).trans pX) hs7 soO (SI.ndf (SI.perm si6 pB7))
 subst eBs
 and_intros
 refine ⟨_, _, 2, rfl, .inr ⟨p7, pr, _, 1, rfl, rfl, rfl, g7, l7 _ _ g36, by rw [List.length_map]; omega, bk_sm⟩, by decide, ?_⟩
 refine drop0 .refl (q (X2 ++ Y2) Γ7 (pX2.trans pX) (st6.le l7) ?_)
 exact ((((l12.kq.trans k3).trans l4.kq).trans k5).trans k6).trans l7.kq
end
theorem cls_exc {K : PySem.W.Frag} {C : Addr} {bm : List Value} {n : String} (q : PySem.W.excIn K C bm n = true) : (PySem.W.clsIn K C).isSome = true := by
 unfold PySem.W.excIn at q
 unfold PySem.W.clsIn
 split at q
 ·rename_i ho
  rw [ho]; rfl
 ·cases q
structure Lw (Γ : Gp) (C x : Addr) (own : List Addr) (size : Int) (B BL : List Blk) (nd : Nat) (gs : List Int) (pb pg : Addr) : Prop where
 st : StO Γ C x own size B nd
 pm : BL.Perm B
 so : (BL.map (·.1)).Pairwise (· ≤ ·)
 gb : Γ pb = some (.lst (BL.map bkT))
 gg : Γ pg = some (.lst (gs.map T.int))
 nb : pb ∉ own
 ng : pg ∉ own
 nbg : pb ≠ pg
section
variable {Γ Γ' : Gp} {C x pb pg : Addr} {own : List Addr} {size : Int} {B BL : List Blk} {nd : Nat} {gs : List Int}
theorem Lw.ne (h : Lw Γ C x own size B BL nd gs pb pg) : x ≠ pb ∧ x ≠ pg := by
 obtain ⟨dx, pc, pg', ph, pd, gx⟩ := h.st.insx
 exact ⟨gne gx h.gb (by intro z; cases z), gne gx h.gg (by intro z; cases z)⟩
theorem Lw.kq (h : Lw Γ C x own size B BL nd gs pb pg) {l : List Addr} (k : Kq l Γ Γ') (n : ∀ o ∈ x :: pb :: pg :: own, o ∉ l) : Lw Γ' C x own size B BL nd gs pb pg :=
 ⟨h.st.kq k (n _ (by simp)) fun o ho => n _ (by simp [ho]), h.pm, h.so, k _ _ (n _ (by simp)) h.gb, k _ _ (n _ (by simp)) h.gg, h.nb, h.ng, h.nbg⟩
theorem Lw.le (h : Lw Γ C x own size B BL nd gs pb pg) (k : Le Γ Γ') : Lw Γ' C x own size B BL nd gs pb pg := h.kq (l := []) k.kq (by simp)
theorem Lw.nn (h : Lw Γ C x own size B BL nd gs pb pg) {p : Addr} (n : Γ p = none) : ∀ o ∈ x :: pb :: pg :: own, o ∉ [p] := by
 have h1 := h.st.nn n
 intro o ho z
 have z := List.mem_singleton.mp z
 subst z
 simp only [List.mem_cons] at ho
 rcases ho with z | z | z | z
 ·exact h1.1 z
 ·subst z; exact gnn h.gb n rfl
 ·subst z; exact gnn h.gg n rfl
 ·exact h1.2 z
end
section
variable {P : Program} {w : World} {K : PySem.W.Frag} {mg : Str → Option Value} {base : Heap} {f C cNoRoom cNoBlock cWrongHand cGateError : Addr} {fd : FuncData}
abbrev s_law : Stmt := top 30
theorem sc_law : FnScope ["script", "size", "store", "blocks", "gone", "k", "bag", "takes", "hand", "many", "due", "address", "owners", "word", "marks"] ["script"] (defScope s_law) := ⟨rfl, rfl, rfl, by decide +kernel, rfl, by decide +kernel, by decide +kernel⟩
def spLaw3 (K : PySem.W.Frag) : Sp3 := fun ts Γ Z _ => ∃ (a : Addr) (ns : List Int), ts = [.scr K a (ns.map T.int)] ∧ ns.length ≤ 63 ∧ ∀ Γ', Z (.bl true) Γ'
theorem ok_law3 (F : Fun K "law" "law" s_law f fd) (m_Store : mg "Store" = some (.ref C)) (c_Store : ClI P w K mg base C 1 ["self", "words"] (spSi C)) (c_Store_blocks : ClM P w K mg base C "blocks" 1 ["self"] (spBk C)) (c_law_cell_at : Cl3 P w K mg base "_law_cell_at" 1 ["script", "k"] (spCe K)) (c_law_bag : Cl3 P w K mg base "_law_bag" 1 ["cell", "place"] spBg) (c_law_draw : Cl3 P w K mg base "_law_draw" 1 ["bag", "many"] spDw) (c_law_place : Cl3 P w K mg base "_law_place" 2 ["size", "blocks", "many"] spPlc) (c_law_taken : Cl3 P w K mg base "_law_taken" 3 ["store", "hand", "many"] (spTn C)) (c_law_alike : Cl3 P w K mg base "_law_alike" 3 ["found", "due"] (spAk 3)) (c_law_address : Cl3 P w K mg base "_law_address" 3 ["bag", "size", "blocks", "gone"] spAd) (c_law_back : Cl3 P w K mg base "_law_back" 5 ["store", "size", "blocks", "hand", "address"] (spBa C)) (c_law_given : Cl3 P w K mg base "_law_given" 4 ["store", "hand", "address"] (spGi C)) (c_law_marks : Cl3 P w K mg base "_law_marks" 4 ["store", "hand", "address"] (spMk C))
  (z_range : mg "range" = none) (z_max : mg "max" = none) (z_min : mg "min" = none) (z_len : mg "len" = none) (z_int : mg "int" = none) (z_sorted : mg "sorted" = none) : FnOk P w K mg base CX0 6 f fd ["script"] (liSp (spLaw3 K)) := by
 refine okd F sc_law (fun ts Γ Z Y h => ?_) (fun cdv A outer s H E ts Γ Z Y hr h => ?_)
 ·obtain ⟨a, ns, rfl, _⟩ := h
  rfl
 obtain ⟨a, ns, rfl, h63, q⟩ := h
 refine ⟨_, (qss_cons (qs_set (i := 1) sc_law.nd rfl (Or.inl rfl) (qe_op oq_add qe_int (qe_op oq_mod (qe_call c_law_cell_at hr (by omega) rfl (qa_cons (qv 0) (qa_cons qe_int qa_nil))) qe_int)))
  (qss_cons (qs_set (i := 2) sc_law.nd rfl (Or.inl rfl) (qe_make c_Store hr (by omega) rfl m_Store (qa_cons (qv 1) qa_nil)))
  (qss_cons (qs_set (i := 3) sc_law.nd rfl (Or.inl rfl) (qe_lst qa_nil))
  (qss_cons (qs_set (i := 4) sc_law.nd rfl (Or.inl rfl) (qe_lst qa_nil))
  (qss_cons (qs_for PassesOwn.never rfl (qi_range2 rfl z_range (qa_cons qe_int (qa_cons (qe_callB (cq_max2 rfl) rfl z_max PyProof.Rows.boot_max (qa_cons qe_int (qa_cons (qe_callB (cq_min2 rfl) rfl z_min PyProof.Rows.boot_min (qa_cons (qe_callB cq_lenC rfl z_len PySem.boot_len (qa_cons (qv 0) qa_nil)) (qa_cons qe_int qa_nil))) qa_nil))) qa_nil))) (qg_name (i := 5) sc_law.nd rfl (Or.inl rfl)) (qss_cons (qs_set (i := 6) sc_law.nd rfl (Or.inl rfl) (qe_call c_law_bag hr (by omega) rfl (qa_cons (qe_call c_law_cell_at hr (by omega) rfl (qa_cons (qv 0) (qa_cons (qv 5) qa_nil))) (qa_cons (qv 5) qa_nil))))
  (qss_cons (qs_set (i := 7) sc_law.nd rfl (Or.inl rfl) (qe_cmpR oq_eq (qe_call c_law_draw hr (by omega) rfl (qa_cons (qv 6) (qa_cons qe_int qa_nil))) qe_int (nomark _)))
  (qss_cons (qs_set (i := 8) sc_law.nd rfl (Or.inl rfl) (qe_call c_law_draw hr (by omega) rfl (qa_cons (qv 6) (qa_cons qe_int qa_nil))))
  (qss_cons (qs_cut (qs_if (qt_val (qv 7)) (qss_cons (qs_set (i := 9) sc_law.nd rfl (Or.inl rfl) (qe_op oq_add qe_int (qe_call c_law_draw hr (by omega) rfl (qa_cons (qv 6) (qa_cons qe_int qa_nil)))))
  (qss_cons (qs_set (i := 10) sc_law.nd rfl (Or.inl rfl) (qe_call c_law_place hr (by omega) rfl (qa_cons (qv 1) (qa_cons (qv 3) (qa_cons (qv 9) qa_nil)))))
  (qss_cons (qs_if (qt_not (qt_val (qe_call c_law_alike hr (by omega) rfl (qa_cons (qe_call c_law_taken hr (by omega) rfl (qa_cons (qv 2) (qa_cons (qv 8) (qa_cons (qv 9) qa_nil)))) (qa_cons (qe_tup (qa_cons (qe_ix (qe_lst (qa_cons qe_str (qa_cons qe_str qa_nil))) (qe_callTy cq_intB rfl z_int bt_int (qa_cons (qe_cmpR oq_isN (qv 10) qe_non (nomark _)) qa_nil)) (fun _ _ => rfl)) (qa_cons (qv 10) qa_nil))) qa_nil))))) (qss_cons (qs_ret qe_bl)
  qss_nil) qss_nil)
  (qss_cons (qs_cut (qs_if (qt_cmpR oq_notN (qv 10) qe_non (nomark _)) (qss_cons (qs_set (i := 3) sc_law.nd rfl (Or.inl rfl) (qe_callB (cq_sortI bkT (fun q => q.1) (fun x => ⟨_, rfl⟩)) rfl z_sorted PyProof.Rows.boot_sorted (qa_cons (qe_op oq_catL (qv 3) (qe_lst (qa_cons (qe_tup (qa_cons (qv 10) (qa_cons (qv 9) (qa_cons (qv 8) qa_nil)))) qa_nil))) qa_nil)))
  qss_nil) qss_nil))
  qss_nil)))) (qss_cons (qs_set (i := 11) sc_law.nd rfl (Or.inr rfl) (qe_call c_law_address hr (by omega) rfl (qa_cons (qv 6) (qa_cons (qv 1) (qa_cons (qv 3) (qa_cons (qv 4) qa_nil))))))
  (qss_cons (qs_comp (i := 12) (own := ["one"]) (cap := [(11, "address")]) (compOkC rfl (by decide +kernel) (by decide +kernel) rfl (⟨rfl, trivial⟩) rfl (⟨⟨rfl, rfl, rfl⟩, trivial⟩)) rfl (qi_list (qv 3)) (fun _ _ _ _ => (qg_name (i := 0) (show List.Nodup (["one", "address"] : List Str) from by decide +kernel) rfl (Or.inl rfl) (Or.inr rfl))) (fun _ _ _ _ => (qts_one (qt_cmpR oq_eq (qe_ix (qv 0) qe_int (fun _ _ => rfl)) (qv 1) (nomark _)))) (fun _ _ _ _ => (qe_ix (qv 0) qe_int (fun _ _ => rfl))) sc_law.nd rfl rfl)
  (qss_cons (qs_cut (qs_if (qt_cmpR (oq_eqLI hr.units0) (qv 12) (qe_lst (qa_cons (qv 8) qa_nil)) (nomark _)) (qss_cons (qs_if (qt_not (qt_val (qe_call c_law_back hr (by omega) rfl (qa_cons (qv 2) (qa_cons (qv 1) (qa_cons (qv 3) (qa_cons (qv 8) (qa_cons (qv 11) qa_nil)))))))) (qss_cons (qs_ret qe_bl)
  qss_nil) qss_nil)
  (qss_cons (qs_comp (i := 3) (own := ["one"]) (cap := [(11, "address")]) (compOkC rfl (by decide +kernel) (by decide +kernel) rfl (⟨rfl, trivial⟩) rfl (⟨⟨rfl, rfl, rfl⟩, trivial⟩)) rfl (qi_list (qv 3)) (fun _ _ _ _ => (qg_name (i := 0) (show List.Nodup (["one", "address"] : List Str) from by decide +kernel) rfl (Or.inl rfl) (Or.inr rfl))) (fun _ _ _ _ => (qts_one (qt_cmpR oq_ne (qe_ix (qv 0) qe_int (fun _ _ => rfl)) (qv 1) (nomark _)))) (fun _ _ _ _ => (qv 0)) sc_law.nd rfl rfl)
  (qss_cons (qs_expr (qe_bm PySem.F.plainAttrs_list PySem.F.slot_list_append PySem.F.type_list_append mq_append (qv 4) (qa_cons (qv 11) qa_nil)))
  qss_nil))) (qss_cons (qs_set (i := 13) sc_law.nd rfl (Or.inl rfl) (qe_ix (qe_lst (qa_cons qe_str (qa_cons qe_str qa_nil))) (qe_callB cq_len rfl z_len PySem.boot_len (qa_cons (qv 12) qa_nil)) (fun _ _ => rfl)))
  (qss_cons (qs_set (i := 14) sc_law.nd rfl (Or.inl rfl) (qe_lst (qa_cons qe_bl (qa_cons (qe_cmpR (oq_eqNil hr.units0) (qv 12) (qe_lst qa_nil) (nomark _)) (qa_cons (qe_cmpR (oq_neNil hr.units0) (qv 12) (qe_lst qa_nil) (nomark _)) (qa_cons qe_bl (qa_cons qe_bl qa_nil)))))))
  (qss_cons (qs_if (PW.pt (qw_or (qt_cmpR (oq_neT hr.units0) (qe_call c_law_given hr (by omega) rfl (qa_cons (qv 2) (qa_cons (qv 8) (qa_cons (qv 11) qa_nil)))) (qe_tup (qa_cons (qv 13) (qa_cons qe_non qa_nil))) (nomark _)) (qw_or1 (qt_cmpR (oq_neSame (d := 2) (Nat.lt_of_le_of_lt (Nat.add_le_add_left (by decide : 3 ≤ 64) _) hr.units)) (qe_call c_law_marks hr (by omega) rfl (qa_cons (qv 2) (qa_cons (qv 8) (qa_cons (qv 11) qa_nil)))) (qv 14) (nomark _))))) (qss_cons (qs_ret qe_bl)
  qss_nil) qss_nil)
  (qss_cons (qs_if (qt_not (qt_val (qe_call c_law_alike hr (by omega) rfl (qa_cons (qe_meth0 c_Store_blocks hr (by omega) (qv 2)) (qa_cons (qv 3) qa_nil))))) (qss_cons (qs_ret qe_bl)
  qss_nil) qss_nil)
  qss_nil))))))
  qss_nil)))))
  qss_nil)))))
  (qss_cons (qs_ret qe_bl)
  qss_nil)))))), ?_⟩
 simp only [start3]
 and_intros
 refine ⟨a, ns, 0, rfl, by decide, fun cl => ?_⟩
 and_intros
 have z0 := Int.emod_nonneg cl (by decide : (60 : Int) ≠ 0)
 have z1 := Int.emod_lt_of_pos cl (by decide : (0 : Int) < 60)
 obtain ⟨size, hsz⟩ : ∃ size : Int, size = 1 + cl % 60 := ⟨_, rfl⟩
 rw [← hsz]
 have s1 : 1 ≤ size := by omega
 have s2 : size ≤ 60 := by omega
 clear hsz z0 z1
 intro x dx hx hdx ne
 refine ⟨x, dx, size, rfl, up_same, s1, by omega, fun own Γ4 _ st4 _ => ⟨rfl, ?_⟩⟩
 and_intros
 intro pb0 hpb; generalize e5 : up _ pb0 (O.lst _) = Γ5; have gb := al_g e5; have l5 := al_l e5 hpb
 have st5 := st4.le l5
 have nb := (st4.nn hpb).2
 and_intros
 intro pg hpg; generalize e6 : up _ pg (O.lst _) = Γ6; have gg := al_g e6; have l6 := al_l e6 hpg
 have st6 := st5.le l6
 have ng := (st5.nn hpg).2
 have lw6 : Lw Γ6 C x own size [] [] 1000000 [] pb0 pg := ⟨st6, .refl _, .nil, l6 _ _ gb, gg, nb, ng, gnn gb hpg⟩
 clear e5 e6
 and_intros
 unfold iRg2
 and_intros
 refine ⟨a, _, rfl, ?_⟩
 rw [List.length_map]
 and_intros
 have hj : 2 ≤ (if (if 63 < (ns.length : Int) then 63 else (ns.length : Int)) > 2 then (if 63 < (ns.length : Int) then 63 else (ns.length : Int)) else 2) ∧ (if (if 63 < (ns.length : Int) then 63 else (ns.length : Int)) > 2 then (if 63 < (ns.length : Int) then 63 else (ns.length : Int)) else 2) ≤ 63 := by split <;> split <;> omega
 generalize (if (if 63 < (ns.length : Int) then 63 else (ns.length : Int)) > 2 then (if 63 < (ns.length : Int) then 63 else (ns.length : Int)) else 2) = jj at *
 refine ⟨⟨by decide, by decide, by omega, by omega⟩, ?_⟩
 have hc : (jj - 1).toNat ≤ 62 := by omega
 generalize (jj - 1).toNat = cnt at *
 refine ⟨fun rest τ Γ' => ∃ (i m : Nat) (B BL : List Blk) (nd : Nat) (gs : List Int) (pb : Addr) (o5 o6 o7 o8 o9 o10 o11 o12 o13 o14 : Option T), rest = rngT (i : Int) m ∧ i + m ≤ 63 ∧ 1 ≤ i ∧ Lw Γ' C x own size B BL nd gs pb pg ∧ BL.length + 1 ≤ i ∧ gs.length ≤ i ∧ 4 * m ≤ nd ∧ τ = [some (.scr K a (ns.map T.int)), some (.int size), some (.ref x), some (.ref pb), some (.ref pg), o5, o6, o7, o8, o9, o10, o11, o12, o13, o14], ⟨1, cnt, [], [], 1000000, [], pb0, none, none, none, none, none, none, none, none, none, none, rfl, by omega, by omega, lw6, by simp, by simp, by omega, rfl⟩, ?_, ?_⟩
 ·rintro τ Γ' ⟨i, m, B, BL, nd, gs, pb, o5, o6, o7, o8, o9, o10, o11, o12, o13, o14, er, im, i1, lw, bl, gl, cr, rfl⟩
  refine ⟨trivial, ?_⟩
  and_intros
  exact drop0 .refl (q _)
 rintro y r τ Γ' ⟨i, m, B, BL, nd, gs, pb, o5, o6, o7, o8, o9, o10, o11, o12, o13, o14, er, im, i1, lw, bl, gl, cr, rfl⟩
 obtain ⟨m', rfl, rfl, rfl⟩ := rngT_cons er
 obtain ⟨nd, rfl⟩ : ∃ n', nd = n' + 4 := ⟨nd - 4, by omega⟩
 and_intros
 refine ⟨a, ns, i, rfl, by omega, fun c2 => ?_⟩
 and_intros
 refine ⟨c2, i, rfl, by omega, by omega, fun b2 Γ8 fb bg8 l8 => ?_⟩
 have far := lw.nn fb
 have nb2 : ∀ l : List Addr, (∀ o ∈ l, o ∈ x :: pb :: pg :: own) → b2 ∉ l := fun l hl z => far b2 (hl b2 z) (by simp)
 and_intros
 refine ⟨b2, 2, 999, rfl, bg8, by decide, by decide, fun r3 Γ9 _ _ bg9 fr9 => ?_⟩
 and_intros
 refine ⟨b2, 2, 998, rfl, bg9, by decide, by decide, fun hand Γ10 h0 h1 bg10 fr10 => ?_⟩
 have lw10 : Lw Γ10 C x own size B BL (nd + 4) gs pb pg := lw.kq ((l8.kq.trans fr9.kq).trans fr10.kq) far
 have h01 : hand = 0 ∨ hand = 1 := by omega
 and_intros
 obtain ⟨N, hN⟩ : ∃ N : S3 → Gp → Prop, N = fun τ Γ11 => ∃ (B' BL' : List Blk) (nd' : Nat) (gs' : List Int) (pb' : Addr) (o5 o6 o7 o8 o9 o10 o11 o12 o13 o14 : Option T), Lw Γ11 C x own size B' BL' nd' gs' pb' pg ∧ BL'.length ≤ i ∧ gs'.length ≤ i + 1 ∧ 4 * m' ≤ nd' ∧ τ = [some (.scr K a (ns.map T.int)), some (.int size), some (.ref x), some (.ref pb'), some (.ref pg), o5, o6, o7, o8, o9, o10, o11, o12, o13, o14] := ⟨_, rfl⟩
 have mkN : ∀ (Γ11 : Gp) (B' BL' : List Blk) (nd' : Nat) (gs' : List Int) (pb' : Addr) (o5 o6 o7 o8 o9 o10 o11 o12 o13 o14 : Option T), Lw Γ11 C x own size B' BL' nd' gs' pb' pg → BL'.length ≤ i → gs'.length ≤ i + 1 → 4 * m' ≤ nd' → N [some (.scr K a (ns.map T.int)), some (.int size), some (.ref x), some (.ref pb'), some (.ref pg), o5, o6, o7, o8, o9, o10, o11, o12, o13, o14] Γ11 := fun Γ11 B' BL' nd' gs' pb' o5 o6 o7 o8 o9 o10 o11 o12 o13 o14 h1 h2 h3 h4 => by
  rw [hN]
  exact ⟨B', BL', nd', gs', pb', o5, o6, o7, o8, o9, o10, o11, o12, o13, o14, h1, h2, h3, h4, rfl⟩
 refine ⟨N, ?_, ?_⟩
 rotate_left
 ·rintro τ Γ11 h
  rw [hN] at h
  obtain ⟨B', BL', nd', gs', pb', o5, o6, o7, o8, o9, o10, o11, o12, o13, o14, lw1, bl1, gl1, cr1, rfl⟩ := h
  and_intros
  exact ⟨i + 1, m', B', BL', nd', gs', pb', _, _, _, _, _, _, _, _, _, _, rfl, by omega, by omega, lw1, by omega, gl1, cr1, rfl⟩
 clear hN
 obtain ⟨G, si⟩ := lw10.st.si
 have siL := SI.perm si lw10.pm
 have ndL := SI.ndf siL
 have ndB := SI.ndf si
 have blL : BL.length ≤ 62 := by omega
 have blB : B.length = BL.length := lw10.pm.length_eq.symm
 and_intros
 refine c_if (fun c1 => ?_) (fun c1 => ?_)
 ·and_intros
  refine ⟨b2, 6, 997, rfl, bg10, by decide, by decide, fun mm Γ11 mm0 mm1 bg11 fr11 => ?_⟩
  have lw11 := lw10.kq fr11.kq far
  obtain ⟨many, hmany⟩ : ∃ many : Int, many = 1 + mm := ⟨_, rfl⟩
  and_intros
  rw [← hmany]
  refine ⟨pb, size, many, BL, rfl, lw11.gb, by omega, ⟨G, siL⟩, fun r hr' => ?_⟩
  and_intros
  refine ⟨x, own, hand, many, size, B, nd + 3, rfl, lw11.st, by omega, fun b Γ12 pl st12 k12 => ?_, fun no => ?_⟩
  ·have plL : Pl size BL many b := Pl.perm lw10.pm pl
   rcases hr' with ⟨rfl, no⟩ | ⟨b', rfl, pl'⟩
   ·exact (Pl.no siL.pos plL no).elim
   have eb := Pl.one siL.pos plL pl'
   subst eb
   have gb12 := k12 _ _ lw11.nb lw11.gb
   have gg12 := k12 _ _ lw11.ng lw11.gg
   and_intros
   intro p3 hp3; generalize e3 : up _ p3 (O.lst _) = Γ13; have g3 := al_g e3; have l3 := al_l e3 hp3
   and_intros
   refine ⟨_, rfl, ?_⟩
   refine t_ixR (i := 0) g3 (t := .str "") rfl ?_
   and_intros
   refine ⟨_, _, 1, rfl, .inl ⟨rfl, .tup (by simp) fun t ht => ?_⟩, by decide, ?_⟩
   ·simp only [List.mem_cons, List.not_mem_nil, or_false] at ht
    rcases ht with rfl | rfl
    ·exact .str (by decide)
    ·exact .int _
   have st13 := st12.le l3
   have gb13 := l3 _ _ gb12
   have gg13 := l3 _ _ gg12
   clear e3
   and_intros
   refine ⟨N, ?_, fun τ Γ14 h => by and_intros; exact h⟩
   and_intros
   and_intros
   intro p4 hp4; generalize e4 : up _ p4 (O.lst _) = Γ14; have g4 := al_g e4; have l4 := al_l e4 hp4
   have gb14 := l4 _ _ gb13
   clear e4
   refine ⟨pb, p4, _, _, rfl, rfl, gb14, g4, Nat.le_of_lt (small1000 (by rw [List.length_map]; show _ + 1 ≤ _; omega)), ?_⟩
   intro p5 hp5; generalize e5 : up _ p5 (O.lst _) = Γ15; have g5 := al_g e5; have l5 := al_l e5 hp5
   have g5 : Γ15 p5 = some (.lst ((BL ++ [(b, many, hand)]).map bkT)) := by rw [g5, List.map_append]; rfl
   clear e5
   and_intros
   have fq : ∀ p ∈ BL, p.1 ≠ b := fun p hp z => by
    have := plL.2.2.1.2 p hp
    have := (siL.pos p hp).2.1
    have := plL.1
    omega
   refine ⟨p5, BL ++ [(b, many, hand)], rfl, g5, by rw [List.length_append]; show _ + 1 < 64; omega, ?_, fun ms l pms hs hl => ?_⟩
   ·rw [List.map_append, List.nodup_append]
    refine ⟨ndL, by simp, fun u hu v hv z => ?_⟩
    obtain ⟨p, hp, rfl⟩ := List.mem_map.mp hu
    have hv : v = b := by simpa using hv
    exact fq p hp (z.trans hv)
   generalize e6 : up _ l (O.lst _) = Γ16; have g6 := al_g e6; have l6 := al_l e6 hl
   have l26 := ((l4.trans l5).trans l6)
   have st16 := st13.le l26
   have gg16 := l26 _ _ gg13
   have nl := ((st13.le (l4.trans l5)).nn hl).2
   and_intros
   refine mkN Γ16 (B ++ [(b, many, hand)]) ms (nd + 3) gs l _ _ _ _ _ _ _ _ _ _ ⟨st16, pms.trans (lw10.pm.append (.refl _)), hs, g6, gg16, nl, lw10.ng, (gnn ((l4.trans l5) _ _ gg13) hl).symm⟩ (by rw [pms.length_eq, List.length_append]; show _ + 1 ≤ _; omega) (by omega) (by omega)
  ·have noL : NoPl size BL many := NoPl.perm lw10.pm no
   rcases hr' with ⟨rfl, _⟩ | ⟨b', rfl, pl'⟩
   rotate_left
   ·exact (Pl.no siL.pos pl' noL).elim
   and_intros
   intro p3 hp3; generalize e3 : up _ p3 (O.lst _) = Γ13; have g3 := al_g e3; have l3 := al_l e3 hp3
   and_intros
   refine ⟨_, rfl, ?_⟩
   refine t_ixR (i := 1) g3 (t := .str "NoRoom") rfl ?_
   and_intros
   refine ⟨_, _, 1, rfl, .inl ⟨rfl, .tup (by simp) fun t ht => ?_⟩, by decide, ?_⟩
   ·simp only [List.mem_cons, List.not_mem_nil, or_false] at ht
    rcases ht with rfl | rfl
    ·exact .str (by decide)
    ·exact .non
   and_intros
   refine ⟨N, ?_, fun τ Γ14 h => by and_intros; exact h⟩
   and_intros
   and_intros
   exact mkN Γ13 B BL (nd + 4) gs pb _ _ _ _ _ _ _ _ _ _ (lw11.le l3) (by omega) (by omega) (by omega)
 ·have n1 : pb ≠ b2 := fun z => nb2 [pb] (by simp) (by simp [z])
  have n2 : pg ≠ b2 := fun z => nb2 [pg] (by simp) (by simp [z])
  and_intros
  refine ⟨b2, pb, pg, size, BL, gs, 993, rfl, bg10, s1, s2, lw10.gb, lw10.gg, n1, n2, by omega, by omega, fun k hk => by have := siL.pos k hk; omega, fun ad Γ11 bg11 k11 => ?_⟩
  have lw11 := lw10.kq k11 far
  and_intros
  refine ⟨pb, _, rfl, it3_l lw11.gb, Nat.le_of_lt (small1000 (by rw [List.length_map]; omega)), ?_⟩
  refine ⟨fun rest τ ys Γ' => ∃ (D R : List Blk) (o0 : Option T), rest = R.map bkT ∧ BL = D ++ R ∧ τ = [o0, some (.int ad)] ∧ ys = ((atA ad D).map (·.2.2)).map T.int ∧ Γ' = Γ11, ⟨[], BL, none, rfl, rfl, rfl, rfl, rfl⟩, ?_, ?_⟩
  rotate_left
  ·rintro y r τ ys Γ' ⟨D, R, o0, er, eD, rfl, rfl, rfl⟩
   cases R with
   | nil => cases er
   | cons k R =>
    cases er
    refine ⟨it3_l lw11.gb, ?_⟩
    unfold bkT
    and_intros
    rw [dec_int]
    refine c_if (fun c => ?_) (fun c => ?_)
    ·and_intros
     refine t_ixT (i := 2) (t := .int k.2.2) rfl ?_
     exact ⟨D ++ [k], R, _, rfl, by rw [eD]; simp, rfl, by rw [atA_snoc, if_pos c, List.map_append, List.map_append]; rfl, rfl⟩
    ·exact ⟨D ++ [k], R, _, rfl, by rw [eD]; simp, rfl, by rw [atA_snoc, if_neg (by rw [c]; decide)], rfl⟩
  rintro τ ys Γ' ⟨D, R, o0, er, eD, rfl, rfl, rfl⟩
  have hz : R = [] := by
   cases R with
   | nil => rfl
   | cons _ _ => cases er
  subst hz
  rw [List.append_nil] at eD
  subst eD
  refine ⟨it3_l lw11.gb, ?_⟩
  intro p1 hp1; generalize e1 : up _ p1 (O.lst _) = Γ12; have g1 := al_g e1; have l1 := al_l e1 hp1
  have lw12 := lw11.le l1
  clear e1
  and_intros
  refine ⟨N, ?_, fun τ Γ14 h => by and_intros; exact h⟩
  and_intros
  intro p2 hp2; generalize e2 : up _ p2 (O.lst _) = Γ13; have g2 := al_g e2; have l2 := al_l e2 hp2
  have lw13 := lw12.le l2
  have g13 := l2 _ _ g1
  clear e2
  refine ⟨p1, p2, _, [hand], rfl, rfl, g13, g2, ?_⟩
  and_intros
  refine c_if (fun c3 => ?_) (fun c3 => ?_)
  ·have c3 := of_decide_eq_true c3
   obtain ⟨k, hk, ek, ehd⟩ : ∃ k ∈ BL, k.1 = ad ∧ k.2.2 = hand := by
    rcases atA_cases (ad := ad) ndL with ⟨h1, _⟩ | ⟨k, hk, ek, h1⟩
    ·rw [h1] at c3; cases c3
    ·rw [h1] at c3
     exact ⟨k, hk, ek, by simpa using c3⟩
   obtain ⟨ad', len, hd'⟩ := k
   have ek : ad' = ad := ek
   have ehd : hd' = hand := ehd
   subst ek ehd
   obtain ⟨B1, B2, eB⟩ := List.append_of_mem (lw13.pm.mem_iff.mp hk)
   have st13 := lw13.st
   have pm13 := lw13.pm
   rw [eB] at st13 pm13
   and_intros
   refine ⟨x, pb, own, size, hd', ad', len, B1, B2, BL, nd + 1, rfl, st13, pm13, lw13.so, lw13.gb, lw13.nb, by omega, s1, s2, h01, fun B' Γ14 pB' st14 k14 => ?_⟩
   have gb14 := k14 _ _ lw13.nb lw13.gb
   have gg14 := k14 _ _ lw13.ng lw13.gg
   and_intros
   refine ⟨pb, _, rfl, it3_l gb14, Nat.le_of_lt (small1000 (by rw [List.length_map]; omega)), ?_⟩
   refine ⟨fun rest τ ys Γ' => ∃ (D R : List Blk) (o0 : Option T), rest = R.map bkT ∧ BL = D ++ R ∧ τ = [o0, some (.int ad')] ∧ ys = (offA ad' D).map bkT ∧ Γ' = Γ14, ⟨[], BL, none, rfl, rfl, rfl, rfl, rfl⟩, ?_, ?_⟩
   rotate_left
   ·rintro y r τ ys Γ' ⟨D, R, o0, er, eD, rfl, rfl, rfl⟩
    cases R with
    | nil => cases er
    | cons k R =>
     cases er
     refine ⟨it3_l gb14, ?_⟩
     unfold bkT
     and_intros
     rw [dec_int]
     refine c_if (fun c => ?_) (fun c => ?_)
     ·and_intros
      have c : decide (k.1 = ad') = false := by simpa using c
      exact ⟨D ++ [k], R, _, rfl, by rw [eD]; simp, rfl, by rw [offA_snoc, if_neg (by rw [c]; decide), List.map_append]; rfl, rfl⟩
     ·have c : decide (k.1 = ad') = true := by simpa using c
      exact ⟨D ++ [k], R, _, rfl, by rw [eD]; simp, rfl, by rw [offA_snoc, if_pos c], rfl⟩
   rintro τ ys Γ' ⟨D, R, o0, er, eD, rfl, rfl, rfl⟩
   have hz : R = [] := by
    cases R with
    | nil => rfl
    | cons _ _ => cases er
   subst hz
   rw [List.append_nil] at eD
   subst eD
   refine ⟨it3_l gb14, ?_⟩
   intro p5 hp5; generalize e5 : up _ p5 (O.lst _) = Γ15; have g5 := al_g e5; have l5 := al_l e5 hp5
   have st15 := st14.le l5
   have gg15 := l5 _ _ gg14
   have n5 := (st14.nn hp5).2
   have n5g : p5 ≠ pg := (gnn gg14 hp5).symm
   clear e5
   and_intros
   refine t_tyL gg15 ?_
   and_intros
   refine ⟨pg, _, _, rfl, rfl, gg15, small1000 (by rw [List.length_map]; omega), ?_⟩
   generalize e6 : up Γ15 pg (O.lst _) = Γ16; have gg16 := al_g e6; have k16 : Kq [pg] Γ15 Γ16 := e6 ▸ .set (by simp) _
   have nxg : x ≠ pg := lw13.ne.2
   and_intros
   refine mkN Γ16 B' (offA ad' BL) (nd + 1) (gs ++ [ad']) p5 _ _ _ _ _ _ _ _ _ _ ⟨st15.kq k16 (by simpa using nxg) (fun o ho z => lw13.ng (by rw [← List.mem_singleton.mp z]; exact ho)), pB'.symm, offA_sorted lw13.so, k16 _ _ (by simpa using n5g) g5, by rw [gg16, List.map_append]; rfl, n5, lw13.ng, n5g⟩ (Nat.le_trans (List.length_filter_le _ _) (by omega)) (by rw [List.length_append]; show _ + 1 ≤ _; omega) (by omega)
  ·have c3 := of_decide_eq_false c3
   rcases atA_cases (ad := ad) ndL with ⟨h1, no⟩ | ⟨k, hk, ek, h1⟩
   ·have noB : ∀ q ∈ B, q.1 ≠ ad := fun q hq => no q (lw10.pm.mem_iff.mpr hq)
    rw [h1] at g13
    have g13 : Γ13 p1 = some (.lst []) := g13
    and_intros
    intro p4 hp4; generalize e4 : up _ p4 (O.lst _) = Γ14; have g4 := al_g e4; have l4 := al_l e4 hp4
    have g14 := l4 _ _ g13
    clear e4
    and_intros
    refine t_lenR g14 ?_
    and_intros
    intro p5 hp5; generalize e5 : up _ p5 (O.lst _) = Γ15; have g5 := al_g e5; have l5 := al_l e5 hp5
    have g15 := l5 _ _ g14
    clear e5
    refine ⟨p1, p5, _, rfl, rfl, g15, g5, ?_⟩
    and_intros
    intro p6 hp6; generalize e6 : up _ p6 (O.lst _) = Γ16; have g6 := al_g e6; have l6 := al_l e6 hp6
    have g16 := l6 _ _ g15
    clear e6
    refine ⟨p1, p6, _, rfl, rfl, g16, g6, ?_⟩
    and_intros
    intro p7 hp7; generalize e7 : up _ p7 (O.lst _) = Γ17; have g7 := al_g e7; have l7 := al_l e7 hp7
    have g7 : Γ17 p7 = some (.lst (mkT true)) := g7
    have l37 := ((l4.trans l5).trans l6).trans l7
    have lw17 := lw13.le l37
    clear e7
    obtain ⟨dx7, pc7, pg7, ph7, pd7, gx7⟩ := lw17.st.insx
    and_intros
    refine ⟨x, own, ad, hand, size, B, nd + 3, rfl, lw17.st, fun X Y l Γ8 eB _ _ => absurd rfl (noB (ad, l, hand) (by rw [eB]; simp)), fun _ => ?_, fun b hb e _ => absurd e (noB b hb)⟩
    and_intros
    refine ⟨_, _, _, _, rfl, rfl, rfl, rfl, rfl, rfl, false, congrArg T.bl (by decide +kernel), ?_⟩
    and_intros
    refine ⟨x, own, ad, hand, size, B, nd + 3, true, rfl, lw17.st, .inl ⟨rfl, noB⟩, fun p8 Γ18 hp8 g8 l8 => ?_⟩
    and_intros
    refine ⟨p8, p7, mkT true, rfl, rfl, g8, l8 _ _ g7, mk_flat, ?_⟩
    have lw18 := lw17.le l8
    obtain ⟨dx8, pc8, pg8, ph8, pd8, gx8⟩ := lw18.st.insx
    and_intros
    refine ⟨x, own, size, B, nd + 4, rfl, lw18.st, by omega, fun p9 Bs Γ19 hp9 pB9 hs9 g9 l9 => ?_⟩
    have eBs : Bs = BL := sorted_eq (pB9.trans lw10.pm.symm) hs9 lw10.so (SI.ndf (SI.perm si pB9))
    subst eBs
    have lw19 := lw18.le l9
    and_intros
    refine ⟨_, _, 2, rfl, .inr ⟨p9, pb, _, 1, rfl, rfl, rfl, g9, lw19.gb, by rw [List.length_map]; omega, bk_sm⟩, by decide, ?_⟩
    and_intros
    exact mkN Γ19 B Bs (nd + 4) gs pb _ _ _ _ _ _ _ _ _ _ lw19 (by omega) (by omega) (by omega)
   ·have kB := lw10.pm.mem_iff.mp hk
    have nk : k.2.2 ≠ hand := fun z => c3 (by rw [h1]; show [k.2.2] = [hand]; rw [z])
    have allB : ∀ q ∈ B, q.1 = ad → q.2.2 ≠ hand := fun q hq e => by rw [uniq ndB hq kB (e.trans ek.symm)]; exact nk
    rw [h1] at g13
    have g13 : Γ13 p1 = some (.lst [.int k.2.2]) := g13
    and_intros
    intro p4 hp4; generalize e4 : up _ p4 (O.lst _) = Γ14; have g4 := al_g e4; have l4 := al_l e4 hp4
    have g14 := l4 _ _ g13
    clear e4
    and_intros
    refine t_lenR g14 ?_
    and_intros
    intro p5 hp5; generalize e5 : up _ p5 (O.lst _) = Γ15; have g5 := al_g e5; have l5 := al_l e5 hp5
    have g15 := l5 _ _ g14
    clear e5
    refine ⟨p1, p5, _, rfl, rfl, g15, g5, ?_⟩
    and_intros
    intro p6 hp6; generalize e6 : up _ p6 (O.lst _) = Γ16; have g6 := al_g e6; have l6 := al_l e6 hp6
    have g16 := l6 _ _ g15
    clear e6
    refine ⟨p1, p6, _, rfl, rfl, g16, g6, ?_⟩
    and_intros
    intro p7 hp7; generalize e7 : up _ p7 (O.lst _) = Γ17; have g7 := al_g e7; have l7 := al_l e7 hp7
    have g7 : Γ17 p7 = some (.lst (mkT false)) := g7
    have l37 := ((l4.trans l5).trans l6).trans l7
    have lw17 := lw13.le l37
    clear e7
    obtain ⟨dx7, pc7, pg7, ph7, pd7, gx7⟩ := lw17.st.insx
    and_intros
    refine ⟨x, own, ad, hand, size, B, nd + 3, rfl, lw17.st, fun X Y l Γ8 eB _ _ => absurd rfl (allB (ad, l, hand) (by rw [eB]; simp) rfl), fun no => absurd ek (no k kB), fun b hb e _ => ?_⟩
    and_intros
    refine ⟨_, _, _, _, rfl, rfl, rfl, rfl, rfl, rfl, false, congrArg T.bl (by decide +kernel), ?_⟩
    and_intros
    refine ⟨x, own, ad, hand, size, B, nd + 3, false, rfl, lw17.st, .inr ⟨rfl, k, kB, ek, nk, allB⟩, fun p8 Γ18 hp8 g8 l8 => ?_⟩
    and_intros
    refine ⟨p8, p7, mkT false, rfl, rfl, g8, l8 _ _ g7, mk_flat, ?_⟩
    have lw18 := lw17.le l8
    obtain ⟨dx8, pc8, pg8, ph8, pd8, gx8⟩ := lw18.st.insx
    and_intros
    refine ⟨x, own, size, B, nd + 4, rfl, lw18.st, by omega, fun p9 Bs Γ19 hp9 pB9 hs9 g9 l9 => ?_⟩
    have eBs : Bs = BL := sorted_eq (pB9.trans lw10.pm.symm) hs9 lw10.so (SI.ndf (SI.perm si pB9))
    subst eBs
    have lw19 := lw18.le l9
    and_intros
    refine ⟨_, _, 2, rfl, .inr ⟨p9, pb, _, 1, rfl, rfl, rfl, g9, lw19.gb, by rw [List.length_map]; omega, bk_sm⟩, by decide, ?_⟩
    and_intros
    exact mkN Γ19 B Bs (nd + 4) gs pb _ _ _ _ _ _ _ _ _ _ lw19 (by omega) (by omega) (by omega)
theorem ak_all (F : Fun K "_law_alike" "_law_alike" s_law_alike f fd) (m : mg "_law_alike" = some (.ref f)) (kp : PySem.W.keepIn K (.ref f) = true) (b : Binds K fd ["found", "due"] []) (z_isinstance : mg "isinstance" = none) (z_tuple : mg "tuple" = none) (z_list : mg "list" = none) (z_len : mg "len" = none) (z_all : mg "all" = none) (z_zip : mg "zip" = none) (z_str : mg "str" = none) (z_int : mg "int" = none) (z_bool : mg "bool" = none) :
  ∀ n : Nat, Cl3 P w K mg base "_law_alike" n ["found", "due"] (spAk n)
 | 0 => ⟨f, fd, noC fun ts Γ Z Y h => by obtain ⟨_, _, d, _, _, h, _⟩ := h; omega, m, kp, b⟩
 | n + 1 => ⟨f, fd, ok_alike F (ak_all F m kp b z_isinstance z_tuple z_list z_len z_all z_zip z_str z_int z_bool n) z_isinstance z_tuple z_list z_len z_all z_zip z_str z_int z_bool, m, kp, b⟩
end
def spLaw (K : PySem.W.Frag) : Sp := fun vs H Q _ => ∃ (a : Addr) (ns : List Int), vs = [.ref a] ∧ Only H ∧ SqL K H a (ns.map V.int) ∧ ns.length ≤ 63 ∧ ∀ H', Q (.bl true) H'
theorem law_dn {K : PySem.W.Frag} (vs : List V) (H : Hp) (Q : VK) (E : XK) (h : spLaw K vs H Q E) : liSp (spLaw3 K) vs H Q E := by
 obtain ⟨a, ns, rfl, hO, hS, h63, q⟩ := h
 have sc : SqC K H a (ns.map V.int) := by
  rcases hS with (h | ⟨o, h⟩) | h
  ·rcases hO a with z | ⟨o, xs, z⟩
   ·rw [h] at z; cases z
   ·rw [h] at z; cases z
  ·exact .inl ⟨o, h⟩
  ·exact .inr h
 refine ⟨[.scr K a (ns.map T.int)], fun _ => none, fun x _ => x = .bl true, fun _ _ => False, rs_cons (r_scr sc (rs_of_ints ns)) rs_nil, fun _ _ h => (nomatch h), ⟨a, ns, rfl, h63, fun _ => rfl⟩, fun v x H' Γ' _ _ r z => ?_, fun _ _ _ _ _ z => z.elim⟩
 subst z
 rw [i_bl r]
 exact q H'
end Tg
set_option Elab.async false
set_option linter.all false
set_option maxRecDepth 100000
set_option maxHeartbeats 4000000
namespace Tg
open PySem L2 L3
theorem all_mk {l : PySem.W.OpenLaw} {w : World} {K : PySem.W.Frag} {h : Heap} {mg : Str → Option Value} {fa f1 f2 f3 f4 f5 f6 f7 f8 f9 f10 f11 f12 f13 f14 : Addr} (X : K.In h) (G : h.Ns mainGlobals mg) (hfa : mg "law" = some (.ref fa))
  {od1 an1 od2 an2 od3 an3 od4 an4 od5 an5 od6 an6 od7 an7 od8 an8 od9 an9 od10 an10 od11 an11 od12 an12 od13 an13 od14 an14 : Option Addr} {sl1 sl2 sl3 sl4 sl5 sl6 sl7 sl8 sl9 sl10 sl11 sl12 sl13 sl14 : Array (Option Value)} {oc1 kV1 dc1 pm1 cd1 ct1 oc2 kV2 dc2 pm2 cd2 ct2 oc3 kV3 dc3 pm3 cd3 ct3 oc4 kV4 dc4 pm4 cd4 ct4 oc5 kV5 dc5 pm5 cd5 ct5 oc6 kV6 dc6 pm6 cd6 ct6 oc7 kV7 dc7 pm7 cd7 ct7 oc8 kV8 dc8 pm8 cd8 ct8 oc9 kV9 dc9 pm9 cd9 ct9 oc10 kV10 dc10 pm10 cd10 ct10 oc11 kV11 dc11 pm11 cd11 ct11 oc12 kV12 dc12 pm12 cd12 ct12 oc13 kV13 dc13 pm13 cd13 ct13 oc14 kV14 dc14 pm14 cd14 ct14 : Value}
  (a1 : PySem.W.nsIn K mainGlobals "_wall" = some (some (.ref f1))) (l1 : K.lookup f1 = some ⟨oc1, od1, .func (PySem.W.fnOf "_wall" "_wall" (defArgs s_wall) (defBody s_wall) (defScope s_wall) .none kV1 dc1 pm1 an1 cd1 ct1), sl1⟩) (c1 : PySem.W.codeIn K cd1 "_wall" = true) (k1 : PySem.W.keepIn K (.ref f1) = true)
  (a2 : PySem.W.nsIn K mainGlobals "_law_cell_at" = some (some (.ref f2))) (l2 : K.lookup f2 = some ⟨oc2, od2, .func (PySem.W.fnOf "_law_cell_at" "_law_cell_at" (defArgs s_law_cell_at) (defBody s_law_cell_at) (defScope s_law_cell_at) .none kV2 dc2 pm2 an2 cd2 ct2), sl2⟩) (c2 : PySem.W.codeIn K cd2 "_law_cell_at" = true) (k2 : PySem.W.keepIn K (.ref f2) = true)
  (a3 : PySem.W.nsIn K mainGlobals "_law_bag" = some (some (.ref f3))) (l3 : K.lookup f3 = some ⟨oc3, od3, .func (PySem.W.fnOf "_law_bag" "_law_bag" (defArgs s_law_bag) (defBody s_law_bag) (defScope s_law_bag) .none kV3 dc3 pm3 an3 cd3 ct3), sl3⟩) (c3 : PySem.W.codeIn K cd3 "_law_bag" = true) (k3 : PySem.W.keepIn K (.ref f3) = true)
  (a4 : PySem.W.nsIn K mainGlobals "_law_draw" = some (some (.ref f4))) (l4 : K.lookup f4 = some ⟨oc4, od4, .func (PySem.W.fnOf "_law_draw" "_law_draw" (defArgs s_law_draw) (defBody s_law_draw) (defScope s_law_draw) .none kV4 dc4 pm4 an4 cd4 ct4), sl4⟩) (c4 : PySem.W.codeIn K cd4 "_law_draw" = true) (k4 : PySem.W.keepIn K (.ref f4) = true)
  (a5 : PySem.W.nsIn K mainGlobals "_law_much" = some (some (.ref f5))) (l5 : K.lookup f5 = some ⟨oc5, od5, .func (PySem.W.fnOf "_law_much" "_law_much" (defArgs s_law_much) (defBody s_law_much) (defScope s_law_much) .none kV5 dc5 pm5 an5 cd5 ct5), sl5⟩) (c5 : PySem.W.codeIn K cd5 "_law_much" = true) (k5 : PySem.W.keepIn K (.ref f5) = true)
  (a6 : PySem.W.nsIn K mainGlobals "_law_alike" = some (some (.ref f6))) (l6 : K.lookup f6 = some ⟨oc6, od6, .func (PySem.W.fnOf "_law_alike" "_law_alike" (defArgs s_law_alike) (defBody s_law_alike) (defScope s_law_alike) .none kV6 dc6 pm6 an6 cd6 ct6), sl6⟩) (c6 : PySem.W.codeIn K cd6 "_law_alike" = true) (k6 : PySem.W.keepIn K (.ref f6) = true)
  (a7 : PySem.W.nsIn K mainGlobals "_law_fits" = some (some (.ref f7))) (l7 : K.lookup f7 = some ⟨oc7, od7, .func (PySem.W.fnOf "_law_fits" "_law_fits" (defArgs s_law_fits) (defBody s_law_fits) (defScope s_law_fits) .none kV7 dc7 pm7 an7 cd7 ct7), sl7⟩) (c7 : PySem.W.codeIn K cd7 "_law_fits" = true) (k7 : PySem.W.keepIn K (.ref f7) = true)
  (a8 : PySem.W.nsIn K mainGlobals "_law_place" = some (some (.ref f8))) (l8 : K.lookup f8 = some ⟨oc8, od8, .func (PySem.W.fnOf "_law_place" "_law_place" (defArgs s_law_place) (defBody s_law_place) (defScope s_law_place) .none kV8 dc8 pm8 an8 cd8 ct8), sl8⟩) (c8 : PySem.W.codeIn K cd8 "_law_place" = true) (k8 : PySem.W.keepIn K (.ref f8) = true)
  (a9 : PySem.W.nsIn K mainGlobals "_law_taken" = some (some (.ref f9))) (l9 : K.lookup f9 = some ⟨oc9, od9, .func (PySem.W.fnOf "_law_taken" "_law_taken" (defArgs s_law_taken) (defBody s_law_taken) (defScope s_law_taken) .none kV9 dc9 pm9 an9 cd9 ct9), sl9⟩) (c9 : PySem.W.codeIn K cd9 "_law_taken" = true) (k9 : PySem.W.keepIn K (.ref f9) = true)
  (a10 : PySem.W.nsIn K mainGlobals "_law_address" = some (some (.ref f10))) (l10 : K.lookup f10 = some ⟨oc10, od10, .func (PySem.W.fnOf "_law_address" "_law_address" (defArgs s_law_address) (defBody s_law_address) (defScope s_law_address) .none kV10 dc10 pm10 an10 cd10 ct10), sl10⟩) (c10 : PySem.W.codeIn K cd10 "_law_address" = true) (k10 : PySem.W.keepIn K (.ref f10) = true)
  (a11 : PySem.W.nsIn K mainGlobals "_law_given" = some (some (.ref f11))) (l11 : K.lookup f11 = some ⟨oc11, od11, .func (PySem.W.fnOf "_law_given" "_law_given" (defArgs s_law_given) (defBody s_law_given) (defScope s_law_given) .none kV11 dc11 pm11 an11 cd11 ct11), sl11⟩) (c11 : PySem.W.codeIn K cd11 "_law_given" = true) (k11 : PySem.W.keepIn K (.ref f11) = true)
  (a12 : PySem.W.nsIn K mainGlobals "_law_marks" = some (some (.ref f12))) (l12 : K.lookup f12 = some ⟨oc12, od12, .func (PySem.W.fnOf "_law_marks" "_law_marks" (defArgs s_law_marks) (defBody s_law_marks) (defScope s_law_marks) .none kV12 dc12 pm12 an12 cd12 ct12), sl12⟩) (c12 : PySem.W.codeIn K cd12 "_law_marks" = true) (k12 : PySem.W.keepIn K (.ref f12) = true)
  (a13 : PySem.W.nsIn K mainGlobals "_law_back" = some (some (.ref f13))) (l13 : K.lookup f13 = some ⟨oc13, od13, .func (PySem.W.fnOf "_law_back" "_law_back" (defArgs s_law_back) (defBody s_law_back) (defScope s_law_back) .none kV13 dc13 pm13 an13 cd13 ct13), sl13⟩) (c13 : PySem.W.codeIn K cd13 "_law_back" = true) (k13 : PySem.W.keepIn K (.ref f13) = true)
  (a14 : PySem.W.nsIn K mainGlobals "law" = some (some (.ref f14))) (l14 : K.lookup f14 = some ⟨oc14, od14, .func (PySem.W.fnOf "law" "law" (defArgs s_law) (defBody s_law) (defScope s_law) .none kV14 dc14 pm14 an14 cd14 ct14), sl14⟩) (c14 : PySem.W.codeIn K cd14 "law" = true) (k14 : PySem.W.keepIn K (.ref f14) = true)
  (y1 : PySem.W.nsIn K mainGlobals "len" = some none)
  (y2 : PySem.W.nsIn K mainGlobals "max" = some none)
  (y3 : PySem.W.nsIn K mainGlobals "min" = some none)
  (y4 : PySem.W.nsIn K mainGlobals "range" = some none)
  (y5 : PySem.W.nsIn K mainGlobals "tuple" = some none)
  (y6 : PySem.W.nsIn K mainGlobals "isinstance" = some none)
  (y7 : PySem.W.nsIn K mainGlobals "int" = some none)
  (y8 : PySem.W.nsIn K mainGlobals "bool" = some none)
  (y9 : PySem.W.nsIn K mainGlobals "str" = some none)
  (y10 : PySem.W.nsIn K mainGlobals "list" = some none)
  (y11 : PySem.W.nsIn K mainGlobals "zip" = some none)
  (y12 : PySem.W.nsIn K mainGlobals "enumerate" = some none)
  (y13 : PySem.W.nsIn K mainGlobals "ValueError" = some none)
  (y14 : PySem.W.nsIn K mainGlobals "all" = some none)
  (y15 : PySem.W.nsIn K mainGlobals "sorted" = some none)
  {cGateError : Addr} (gcGateError : PySem.W.nsIn K mainGlobals "GateError" = some (some (.ref cGateError)))
  {cNoBlock : Addr} (gcNoBlock : PySem.W.nsIn K mainGlobals "NoBlock" = some (some (.ref cNoBlock)))
  {cWrongHand : Addr} (gcWrongHand : PySem.W.nsIn K mainGlobals "WrongHand" = some (some (.ref cWrongHand)))
  {cFull : Addr} (gcFull : PySem.W.nsIn K mainGlobals "Full" = some (some (.ref cFull)))
  {cNoDoor : Addr} (gcNoDoor : PySem.W.nsIn K mainGlobals "NoDoor" = some (some (.ref cNoDoor)))
  {cNoPart : Addr} (gcNoPart : PySem.W.nsIn K mainGlobals "NoPart" = some (some (.ref cNoPart)))
  {cNoPicture : Addr} (gcNoPicture : PySem.W.nsIn K mainGlobals "NoPicture" = some (some (.ref cNoPicture)))
  {cNoProgram : Addr} (gcNoProgram : PySem.W.nsIn K mainGlobals "NoProgram" = some (some (.ref cNoProgram)))
  {cNoRoom : Addr} (gcNoRoom : PySem.W.nsIn K mainGlobals "NoRoom" = some (some (.ref cNoRoom)))
  {cNoText : Addr} (gcNoText : PySem.W.nsIn K mainGlobals "NoText" = some (some (.ref cNoText)))
  {cNoThing : Addr} (gcNoThing : PySem.W.nsIn K mainGlobals "NoThing" = some (some (.ref cNoThing)))
  {cNoWord : Addr} (gcNoWord : PySem.W.nsIn K mainGlobals "NoWord" = some (some (.ref cNoWord)))
  {cNoWorths : Addr} (gcNoWorths : PySem.W.nsIn K mainGlobals "NoWorths" = some (some (.ref cNoWorths)))
  {cStore : Addr} (gcStore : PySem.W.nsIn K mainGlobals "Store" = some (some (.ref cStore)))
  (xNoBlock : PySem.W.excIn K cNoBlock [.type "ValueError", .type "Exception", .type "BaseException", .type "object"] "ValueError.__new__" = true)
  (b_xm : PySem.W.exmOne K (.ref cNoBlock) (.ref cGateError) = some true)
  (b_ka : PySem.W.kitAny K (.ref cNoBlock) [.ref cFull, .ref cNoDoor, .ref cNoPart, .ref cNoPicture, .ref cNoProgram, .ref cNoRoom, .ref cNoText] = some false)
  (b_kb : PySem.W.kitAny K (.ref cNoBlock) [.ref cNoThing, .ref cNoWord, .ref cNoWorths] = some false)
  (b_kn : PySem.W.kitOne K (.ref cNoBlock) (.ref cNoBlock) = some true)
  (b_kv : PySem.W.kitOne K (.ref cNoBlock) (.type "ValueError") = some true)
  (b_e1 : PySem.W.findIn K (.ref cNoBlock) "__getattribute__" = some (some (.builtin "BaseException.__getattribute__")))
  (b_e2 : PySem.W.findIn K (.ref cNoBlock) "__getattr__" = some none)
  (b_e3 : PySem.W.findIn K (.ref cNoBlock) "__class__" = some (some (.builtin "object.__class__")))
  (b_e4 : PySem.W.specialIn K (.builtin "object.__class__") "__get__" = some (some (.builtin "getset_descriptor.__get__")))
  (b_e5 : PySem.W.takesIn K (.builtin "object.__class__") = some true)
  (b_e6 : PySem.W.mroIn K cNoBlock (.type "object") = some true)
  (b_e7 : PySem.W.mroIn K cNoBlock (.type "BaseException") = some true)
  (xWrongHand : PySem.W.excIn K cWrongHand [.type "ValueError", .type "Exception", .type "BaseException", .type "object"] "ValueError.__new__" = true)
  (w_xm : PySem.W.exmOne K (.ref cWrongHand) (.ref cGateError) = some true)
  (w_ka : PySem.W.kitAny K (.ref cWrongHand) [.ref cFull, .ref cNoDoor, .ref cNoPart, .ref cNoPicture, .ref cNoProgram, .ref cNoRoom, .ref cNoText] = some false)
  (w_kb : PySem.W.kitAny K (.ref cWrongHand) [.ref cNoThing, .ref cNoWord, .ref cNoWorths] = some false)
  (w_kn : PySem.W.kitOne K (.ref cWrongHand) (.ref cWrongHand) = some true)
  (w_kv : PySem.W.kitOne K (.ref cWrongHand) (.type "ValueError") = some true)
  (w_e1 : PySem.W.findIn K (.ref cWrongHand) "__getattribute__" = some (some (.builtin "BaseException.__getattribute__")))
  (w_e2 : PySem.W.findIn K (.ref cWrongHand) "__getattr__" = some none)
  (w_e3 : PySem.W.findIn K (.ref cWrongHand) "__class__" = some (some (.builtin "object.__class__")))
  (w_e4 : PySem.W.specialIn K (.builtin "object.__class__") "__get__" = some (some (.builtin "getset_descriptor.__get__")))
  (w_e5 : PySem.W.takesIn K (.builtin "object.__class__") = some true)
  (w_e6 : PySem.W.mroIn K cWrongHand (.type "object") = some true)
  (w_e7 : PySem.W.mroIn K cWrongHand (.type "BaseException") = some true)
  (b_ko : PySem.W.kitOne K (.ref cNoBlock) (.ref cWrongHand) = some false)
  (w_ko : PySem.W.kitOne K (.ref cWrongHand) (.ref cNoBlock) = some false)
  (xNoRoom : PySem.W.excIn K cNoRoom [.type "ValueError", .type "Exception", .type "BaseException", .type "object"] "ValueError.__new__" = true)
  (xmm : PySem.W.exmOne K (.ref cNoRoom) (.ref cNoRoom) = some true)
  (xbb : PySem.W.exmOne K (.ref cNoBlock) (.ref cNoBlock) = some true)
  (xwb : PySem.W.exmOne K (.ref cWrongHand) (.ref cNoBlock) = some false)
  (xww : PySem.W.exmOne K (.ref cWrongHand) (.ref cWrongHand) = some true)
  {fm1 : Addr} {odm1 anm1 : Option Addr} {slm1 : Array (Option Value)} {ocm1 kVm1 dcm1 pmm1 cdm1 ctm1 : Value}
  (am1 : PySem.W.findIn K (.ref cStore) "__init__" = some (some (.ref fm1))) (lm1 : K.lookup fm1 = some ⟨ocm1, odm1, .func (PySem.W.fnOf "__init__" "Store.__init__" (defArgs s_Store_init) (defBody s_Store_init) (defScope s_Store_init) .none kVm1 dcm1 pmm1 anm1 cdm1 ctm1), slm1⟩) (cm1 : PySem.W.codeIn K cdm1 "Store.__init__" = true) (km1 : PySem.W.keepIn K (.ref fm1) = true) (im1 : PySem.W.isFn K (.ref fm1) = true)
  {fm2 : Addr} {odm2 anm2 : Option Addr} {slm2 : Array (Option Value)} {ocm2 kVm2 dcm2 pmm2 cdm2 ctm2 : Value}
  (am2 : PySem.W.findIn K (.ref cStore) "take" = some (some (.ref fm2))) (lm2 : K.lookup fm2 = some ⟨ocm2, odm2, .func (PySem.W.fnOf "take" "Store.take" (defArgs s_Store_take) (defBody s_Store_take) (defScope s_Store_take) .none kVm2 dcm2 pmm2 anm2 cdm2 ctm2), slm2⟩) (cm2 : PySem.W.codeIn K cdm2 "Store.take" = true) (km2 : PySem.W.keepIn K (.ref fm2) = true) (im2 : PySem.W.isFn K (.ref fm2) = true)
  {fm3 : Addr} {odm3 anm3 : Option Addr} {slm3 : Array (Option Value)} {ocm3 kVm3 dcm3 pmm3 cdm3 ctm3 : Value}
  (am3 : PySem.W.findIn K (.ref cStore) "first_gap" = some (some (.ref fm3))) (lm3 : K.lookup fm3 = some ⟨ocm3, odm3, .func (PySem.W.fnOf "first_gap" "Store.first_gap" (defArgs s_Store_first_gap) (defBody s_Store_first_gap) (defScope s_Store_first_gap) .none kVm3 dcm3 pmm3 anm3 cdm3 ctm3), slm3⟩) (cm3 : PySem.W.codeIn K cdm3 "Store.first_gap" = true) (km3 : PySem.W.keepIn K (.ref fm3) = true) (im3 : PySem.W.isFn K (.ref fm3) = true)
  {fm4 : Addr} {odm4 anm4 : Option Addr} {slm4 : Array (Option Value)} {ocm4 kVm4 dcm4 pmm4 cdm4 ctm4 : Value}
  (am4 : PySem.W.findIn K (.ref cStore) "give" = some (some (.ref fm4))) (lm4 : K.lookup fm4 = some ⟨ocm4, odm4, .func (PySem.W.fnOf "give" "Store.give" (defArgs s_Store_give) (defBody s_Store_give) (defScope s_Store_give) .none kVm4 dcm4 pmm4 anm4 cdm4 ctm4), slm4⟩) (cm4 : PySem.W.codeIn K cdm4 "Store.give" = true) (km4 : PySem.W.keepIn K (.ref fm4) = true) (im4 : PySem.W.isFn K (.ref fm4) = true)
  {fm5 : Addr} {odm5 anm5 : Option Addr} {slm5 : Array (Option Value)} {ocm5 kVm5 dcm5 pmm5 cdm5 ctm5 : Value}
  (am5 : PySem.W.findIn K (.ref cStore) "widen" = some (some (.ref fm5))) (lm5 : K.lookup fm5 = some ⟨ocm5, odm5, .func (PySem.W.fnOf "widen" "Store.widen" (defArgs s_Store_widen) (defBody s_Store_widen) (defScope s_Store_widen) .none kVm5 dcm5 pmm5 anm5 cdm5 ctm5), slm5⟩) (cm5 : PySem.W.codeIn K cdm5 "Store.widen" = true) (km5 : PySem.W.keepIn K (.ref fm5) = true) (im5 : PySem.W.isFn K (.ref fm5) = true)
  {fm6 : Addr} {odm6 anm6 : Option Addr} {slm6 : Array (Option Value)} {ocm6 kVm6 dcm6 pmm6 cdm6 ctm6 : Value}
  (am6 : PySem.W.findIn K (.ref cStore) "gaps_ahead" = some (some (.ref fm6))) (lm6 : K.lookup fm6 = some ⟨ocm6, odm6, .func (PySem.W.fnOf "gaps_ahead" "Store.gaps_ahead" (defArgs s_Store_gaps_ahead) (defBody s_Store_gaps_ahead) (defScope s_Store_gaps_ahead) .none kVm6 dcm6 pmm6 anm6 cdm6 ctm6), slm6⟩) (cm6 : PySem.W.codeIn K cdm6 "Store.gaps_ahead" = true) (km6 : PySem.W.keepIn K (.ref fm6) = true) (im6 : PySem.W.isFn K (.ref fm6) = true)
  {fm7 : Addr} {odm7 anm7 : Option Addr} {slm7 : Array (Option Value)} {ocm7 kVm7 dcm7 pmm7 cdm7 ctm7 : Value}
  (am7 : PySem.W.findIn K (.ref cStore) "blocks" = some (some (.ref fm7))) (lm7 : K.lookup fm7 = some ⟨ocm7, odm7, .func (PySem.W.fnOf "blocks" "Store.blocks" (defArgs s_Store_blocks) (defBody s_Store_blocks) (defScope s_Store_blocks) .none kVm7 dcm7 pmm7 anm7 cdm7 ctm7), slm7⟩) (cm7 : PySem.W.codeIn K cdm7 "Store.blocks" = true) (km7 : PySem.W.keepIn K (.ref fm7) = true) (im7 : PySem.W.isFn K (.ref fm7) = true)
  (pgStore : PySem.W.plainGet K cStore Str.empty = true) (hdStore : PySem.W.hasDictIn K cStore = true) (poStore : PySem.W.plainOver K cStore = true) (saStore : PySem.W.findIn K (.ref cStore) "__setattr__" = some (some (.builtin "object.__setattr__"))) (mkStore : PySem.W.makesIn K cStore = true) (keStore : PySem.W.keepIn K (.ref cStore) = true)
  (naStore_words : PySem.W.findIn K (.ref cStore) "words" = some none)
  (naStore_cells : PySem.W.findIn K (.ref cStore) "cells" = some none)
  (naStore_gaps : PySem.W.findIn K (.ref cStore) "gaps" = some none)
  (naStore_held : PySem.W.findIn K (.ref cStore) "held" = some none)
  (naStore_deeds : PySem.W.findIn K (.ref cStore) "deeds" = some none)
  :
  ∃ fd : FuncData, (∀ (s : Shared) (v : Value), BindsTo s fd ⟨[v], []⟩ [("script", v)]) ∧ ∀ base : Heap, K.In base → base.Ns mainGlobals mg → FnOk l.prog w K mg base CX0 6 fa fd ["script"] (spLaw K) := by
 have e := hfa.symm.trans (PySem.W.mg_of X G a14)
 cases e
 have F1 := fun_mk (st := s_wall) l1 c1 k1
 have b1 := F1.binds (ps := ["k"]) fun _ _ _ _ _ _ => L3.us1 (fun _ => rfl)
 have m1 := PySem.W.mg_of X G a1
 have F2 := fun_mk (st := s_law_cell_at) l2 c2 k2
 have b2 := F2.binds (ps := ["script", "k"]) fun _ _ _ _ _ _ => L3.us2 (fun _ _ => rfl)
 have m2 := PySem.W.mg_of X G a2
 have F3 := fun_mk (st := s_law_bag) l3 c3 k3
 have b3 := F3.binds (ps := ["cell", "place"]) fun _ _ _ _ _ _ => L3.us2 (fun _ _ => rfl)
 have m3 := PySem.W.mg_of X G a3
 have F4 := fun_mk (st := s_law_draw) l4 c4 k4
 have b4 := F4.binds (ps := ["bag", "many"]) fun _ _ _ _ _ _ => L3.us2 (fun _ _ => rfl)
 have m4 := PySem.W.mg_of X G a4
 have F5 := fun_mk (st := s_law_much) l5 c5 k5
 have b5 := F5.binds (ps := ["bag", "many"]) fun _ _ _ _ _ _ => L3.us2 (fun _ _ => rfl)
 have m5 := PySem.W.mg_of X G a5
 have F6 := fun_mk (st := s_law_alike) l6 c6 k6
 have b6 := F6.binds (ps := ["found", "due"]) fun _ _ _ _ _ _ => L3.us2 (fun _ _ => rfl)
 have m6 := PySem.W.mg_of X G a6
 have F7 := fun_mk (st := s_law_fits) l7 c7 k7
 have b7 := F7.binds (ps := ["size", "blocks", "at", "many"]) fun _ _ _ _ _ _ => L3.us4 (fun _ _ _ _ => rfl)
 have m7 := PySem.W.mg_of X G a7
 have F8 := fun_mk (st := s_law_place) l8 c8 k8
 have b8 := F8.binds (ps := ["size", "blocks", "many"]) fun _ _ _ _ _ _ => L3.us3 (fun _ _ _ => rfl)
 have m8 := PySem.W.mg_of X G a8
 have F9 := fun_mk (st := s_law_taken) l9 c9 k9
 have b9 := F9.binds (ps := ["store", "hand", "many"]) fun _ _ _ _ _ _ => L3.us3 (fun _ _ _ => rfl)
 have m9 := PySem.W.mg_of X G a9
 have F10 := fun_mk (st := s_law_address) l10 c10 k10
 have b10 := F10.binds (ps := ["bag", "size", "blocks", "gone"]) fun _ _ _ _ _ _ => L3.us4 (fun _ _ _ _ => rfl)
 have m10 := PySem.W.mg_of X G a10
 have F11 := fun_mk (st := s_law_given) l11 c11 k11
 have b11 := F11.binds (ps := ["store", "hand", "address"]) fun _ _ _ _ _ _ => L3.us3 (fun _ _ _ => rfl)
 have m11 := PySem.W.mg_of X G a11
 have F12 := fun_mk (st := s_law_marks) l12 c12 k12
 have b12 := F12.binds (ps := ["store", "hand", "address"]) fun _ _ _ _ _ _ => L3.us3 (fun _ _ _ => rfl)
 have m12 := PySem.W.mg_of X G a12
 have F13 := fun_mk (st := s_law_back) l13 c13 k13
 have b13 := F13.binds (ps := ["store", "size", "blocks", "hand", "address"]) fun _ _ _ _ _ _ => L3.us5 (fun _ _ _ _ _ => rfl)
 have m13 := PySem.W.mg_of X G a13
 have F14 := fun_mk (st := s_law) l14 c14 k14
 have z_len := PySem.W.mg_none_of X G y1
 have z_max := PySem.W.mg_none_of X G y2
 have z_min := PySem.W.mg_none_of X G y3
 have z_range := PySem.W.mg_none_of X G y4
 have z_tuple := PySem.W.mg_none_of X G y5
 have z_isinstance := PySem.W.mg_none_of X G y6
 have z_int := PySem.W.mg_none_of X G y7
 have z_bool := PySem.W.mg_none_of X G y8
 have z_str := PySem.W.mg_none_of X G y9
 have z_list := PySem.W.mg_none_of X G y10
 have z_zip := PySem.W.mg_none_of X G y11
 have z_enumerate := PySem.W.mg_none_of X G y12
 have z_ValueError := PySem.W.mg_none_of X G y13
 have z_all := PySem.W.mg_none_of X G y14
 have z_sorted := PySem.W.mg_none_of X G y15
 refine ⟨PySem.W.fnOf "law" "law" (defArgs s_law) (defBody s_law) (defScope s_law) .none kV14 dc14 pm14 an14 cd14 ct14, fun s v => .of_eq rfl, fun base _ _ => ?_⟩
 have m_GateError := PySem.W.mg_of X G gcGateError
 have m_NoBlock := PySem.W.mg_of X G gcNoBlock
 have m_WrongHand := PySem.W.mg_of X G gcWrongHand
 have m_Full := PySem.W.mg_of X G gcFull
 have m_NoDoor := PySem.W.mg_of X G gcNoDoor
 have m_NoPart := PySem.W.mg_of X G gcNoPart
 have m_NoPicture := PySem.W.mg_of X G gcNoPicture
 have m_NoProgram := PySem.W.mg_of X G gcNoProgram
 have m_NoRoom := PySem.W.mg_of X G gcNoRoom
 have m_NoText := PySem.W.mg_of X G gcNoText
 have m_NoThing := PySem.W.mg_of X G gcNoThing
 have m_NoWord := PySem.W.mg_of X G gcNoWord
 have m_NoWorths := PySem.W.mg_of X G gcNoWorths
 have m_Store := PySem.W.mg_of X G gcStore
 have Fm1 := fun_mk (st := s_Store_init) lm1 cm1 km1
 have bm1 := Fm1.binds (ps := ["self", "words"]) fun _ _ _ _ _ _ => L3.us2 (fun _ _ => rfl)
 have mt1 : Meth K cStore "__init__" fm1 := ⟨am1, im1, km1⟩
 have Fm2 := fun_mk (st := s_Store_take) lm2 cm2 km2
 have bm2 := Fm2.binds (ps := ["self", "hand", "many"]) fun _ _ _ _ _ _ => L3.us3 (fun _ _ _ => rfl)
 have mt2 : Meth K cStore "take" fm2 := ⟨am2, im2, km2⟩
 have Fm3 := fun_mk (st := s_Store_first_gap) lm3 cm3 km3
 have bm3 := Fm3.binds (ps := ["self", "many"]) fun _ _ _ _ _ _ => L3.us2 (fun _ _ => rfl)
 have mt3 : Meth K cStore "first_gap" fm3 := ⟨am3, im3, km3⟩
 have Fm4 := fun_mk (st := s_Store_give) lm4 cm4 km4
 have bm4 := Fm4.binds (ps := ["self", "hand", "address"]) fun _ _ _ _ _ _ => L3.us3 (fun _ _ _ => rfl)
 have mt4 : Meth K cStore "give" fm4 := ⟨am4, im4, km4⟩
 have Fm5 := fun_mk (st := s_Store_widen) lm5 cm5 km5
 have bm5 := Fm5.binds (ps := ["self", "begin", "end"]) fun _ _ _ _ _ _ => L3.us3 (fun _ _ _ => rfl)
 have mt5 : Meth K cStore "widen" fm5 := ⟨am5, im5, km5⟩
 have Fm6 := fun_mk (st := s_Store_gaps_ahead) lm6 cm6 km6
 have bm6 := Fm6.binds (ps := ["self", "address"]) fun _ _ _ _ _ _ => L3.us2 (fun _ _ => rfl)
 have mt6 : Meth K cStore "gaps_ahead" fm6 := ⟨am6, im6, km6⟩
 have Fm7 := fun_mk (st := s_Store_blocks) lm7 cm7 km7
 have bm7 := Fm7.binds (ps := ["self"]) fun _ _ _ _ _ _ => L3.us1 (fun _ => rfl)
 have mt7 : Meth K cStore "blocks" fm7 := ⟨am7, im7, km7⟩
 have cls_Store : Cls K cStore := ⟨pgStore, hdStore, poStore, saStore⟩
 have mk_Store : Mk K cStore fm1 := ⟨mkStore, am1, im1, keStore⟩
 have n_Store_words : NoAttr K cStore "words" := naStore_words
 have n_Store_cells : NoAttr K cStore "cells" := naStore_cells
 have n_Store_gaps : NoAttr K cStore "gaps" := naStore_gaps
 have n_Store_held : NoAttr K cStore "held" := naStore_held
 have n_Store_deeds : NoAttr K cStore "deeds" := naStore_deeds
 have b_ex : ExC K cNoBlock := ⟨b_e1, b_e2, b_e3, b_e4, b_e5, b_e6, b_e7, cls_exc xNoBlock⟩
 have w_ex : ExC K cWrongHand := ⟨w_e1, w_e2, w_e3, w_e4, w_e5, w_e6, w_e7, cls_exc xWrongHand⟩
 have xB : XOf K cNoBlock cNoBlock cWrongHand cGateError [cFull, cNoDoor, cNoPart, cNoPicture, cNoProgram, cNoRoom, cNoText] [cNoThing, cNoWord, cNoWorths] true := ⟨b_ex, b_kv, b_kn, b_ko, b_ka, b_kb, b_xm⟩
 have xW : XOf K cWrongHand cNoBlock cWrongHand cGateError [cFull, cNoDoor, cNoPart, cNoPicture, cNoProgram, cNoRoom, cNoText] [cNoThing, cNoWord, cNoWorths] false := ⟨w_ex, w_kv, w_ko, w_kn, w_ka, w_kb, w_xm⟩
 have C2 : Cl3 l.prog w K mg base "_law_cell_at" _ _ _ := ⟨_, _, ok_cell3 F2 z_len, m2, k2, b2⟩
 have C3 : Cl3 l.prog w K mg base "_law_bag" _ _ _ := ⟨_, _, ok_bag F3 z_max, m3, k3, b3⟩
 have C4 : Cl3 l.prog w K mg base "_law_draw" _ _ _ := ⟨_, _, ok_draw F4, m4, k4, b4⟩
 have C5 : Cl3 l.prog w K mg base "_law_much" _ _ _ := ⟨_, _, ok_much F5 C4 z_range, m5, k5, b5⟩
 have Cm1 : ClI l.prog w K mg base cStore _ _ _ := ⟨_, _, ok_Store_init Fm1 cls_Store n_Store_words n_Store_cells n_Store_gaps n_Store_held n_Store_deeds, mk_Store, bm1⟩
 have Cm3 : ClMx l.prog w K mg base cStore "first_gap" _ _ _ := ⟨_, _, ok_first_gap Fm3 cls_Store n_Store_gaps m_NoRoom xNoRoom z_enumerate, cls_Store, mt3, bm3⟩
 have Cm6 : ClM l.prog w K mg base cStore "gaps_ahead" _ _ _ := ⟨_, _, ok_gaps_ahead Fm6 cls_Store n_Store_gaps z_len, cls_Store, mt6, bm6⟩
 have Cm5 : ClM l.prog w K mg base cStore "widen" _ _ _ := ⟨_, _, ok_widen Fm5 Cm6 cls_Store n_Store_gaps z_len, cls_Store, mt5, bm5⟩
 have Cm4 : ClMx l.prog w K mg base cStore "give" _ _ _ := ⟨_, _, ok_give Fm4 Cm5 cls_Store n_Store_held n_Store_cells n_Store_deeds m_NoBlock xNoBlock m_WrongHand xWrongHand, cls_Store, mt4, bm4⟩
 have Cm2 : ClMx l.prog w K mg base cStore "take" _ _ _ := ⟨_, _, ok_take Fm2 Cm3 cls_Store n_Store_held n_Store_cells n_Store_deeds n_Store_gaps m_NoRoom xNoRoom, cls_Store, mt2, bm2⟩
 have C7 : Cl3 l.prog w K mg base "_law_fits" _ _ _ := ⟨_, _, ok_fits F7, m7, k7, b7⟩
 have C8 : Cl3 l.prog w K mg base "_law_place" _ _ _ := ⟨_, _, ok_place F8 C7, m8, k8, b8⟩
 have C9 : Cl3 l.prog w K mg base "_law_taken" _ _ _ := ⟨_, _, ok_taken F9 Cm2 m_NoRoom xmm, m9, k9, b9⟩
 have Cm7 : ClM l.prog w K mg base cStore "blocks" _ _ _ := ⟨_, _, ok_blocks Fm7 cls_Store n_Store_held z_sorted, cls_Store, mt7, bm7⟩
 have C11 : Cl3 l.prog w K mg base "_law_given" _ _ _ := ⟨_, _, ok_given F11 Cm4 m_NoBlock m_WrongHand xbb xwb xww, m11, k11, b11⟩
 have C12 : Cl3 l.prog w K mg base "_law_marks" _ _ _ := ⟨_, _, ok_marks F12 Cm4 m_NoBlock m_WrongHand m_GateError m_Full m_NoDoor m_NoPart m_NoPicture m_NoProgram m_NoRoom m_NoText m_NoThing m_NoWord m_NoWorths xB xW z_isinstance z_ValueError, m12, k12, b12⟩
 have C10 : Cl3 l.prog w K mg base "_law_address" _ _ _ := ⟨_, _, ok_address F10 C4 C5 z_len, m10, k10, b10⟩
 have C6 := ak_all (P := l.prog) (w := w) (base := base) F6 m6 k6 b6 z_isinstance z_tuple z_list z_len z_all z_zip z_str z_int z_bool 3
 have C13 : Cl3 l.prog w K mg base "_law_back" _ _ _ := ⟨_, _, ok_back F13 C11 Cm7 C6 C8 C9 z_range, m13, k13, b13⟩
 exact (ok_law3 F14 m_Store Cm1 Cm7 C2 C3 C4 C8 C9 C6 C10 C13 C11 C12 z_range z_max z_min z_len z_int z_sorted).imp law_dn
theorem walk {l : PySem.W.OpenLaw} {q : Program} {loose : List Str} {XP : (Str → Option Value) → Heap → Prop} {YP : World → Heap → Prop} {d : DefRec} {K : Params → PySem.W.Frag} (hn : l.most = some 63) (hdf : d.params.defaults = [])
  (hY : ∀ (w : World) (h : Heap), YP w h → (K w.params).In h)
  (F : ∀ (w : World) (mg : Str → Option Value) (fa : Addr) (h : Heap), (K w.params).In h → h.Ns mainGlobals mg → mg d.name = some (.ref fa) →
   ∃ fd : FuncData, (∀ (s : Shared) (u : Value), BindsTo s fd ⟨[u], []⟩ [("script", u)]) ∧ ∀ base : Heap, (K w.params).In base → base.Ns mainGlobals mg → FnOk l.prog w (K w.params) mg base CX0 6 fa fd ["script"] (spLaw (K w.params))) :
  PySem.W.WalkO q loose XP YP l.row.toRowW d [] (fun f vs => PySem.call f vs) :=
 L2.walk_of (n := 63) (k := 6) (x := "script") (CX := fun _ => CX0) (sp := fun w => spLaw (K w.params)) hn (by decide) hdf ⟨rfl, by decide, by decide⟩ hY F (fun _ _ a ns hl hO hS => ⟨a, ns, rfl, hO, hS, hl, fun _ => rfl⟩) fun _ _ _ _ _ z => z
end Tg
open PySem PySem.W PyProof.Rows
def PySem.W.Fast.tw8510248438674792096 : Unit := ()
def PySem.W.Fast.tw9305210667948972000 : Unit := ()
def PySem.W.Fast.tw16490469587028903202 : Unit := ()
def PySem.W.Fast.tw13038168374295860900 : Unit := ()
def PySem.W.Fast.tw13647886487986786020 : Unit := ()
def PySem.W.Fast.tw8489403590180127045 : Unit := ()
def PySem.W.Fast.tw2987941083181934053 : Unit := ()
def PySem.W.Fast.tw5894462645062074981 : Unit := ()
def PySem.W.Fast.tw11112393889588248197 : Unit := ()
def PySem.W.Fast.tw1570589243230080422 : Unit := ()
def PySem.W.Fast.tw13839496334097753160 : Unit := ()
def PySem.W.Fast.tw7378900220775055688 : Unit := ()
def PySem.W.Fast.tw4343470510739764329 : Unit := ()
def PySem.W.Fast.tw14725250041204812489 : Unit := ()
def PySem.W.Fast.tw5094114429310661322 : Unit := ()
def PySem.W.Fast.tw616226523680291888 : Unit := ()
def PySem.W.Fast.tw6022307852241481584 : Unit := ()
def PySem.W.Fast.tw16366899147638057649 : Unit := ()
def PySem.W.Fast.tw12926765353216130929 : Unit := ()
def PySem.W.Fast.tw11593711549660783762 : Unit := ()
def PySem.W.Fast.tw15040382749713088211 : Unit := ()
def PySem.W.Fast.tw3077669307859449587 : Unit := ()
def PySem.W.Fast.tw2374782316163979764 : Unit := ()
def PySem.W.Fast.tw1156218154806664916 : Unit := ()
def PySem.W.Fast.tw3201298696337712853 : Unit := ()
def PySem.W.Fast.tw8329234919927976853 : Unit := ()
def PySem.W.Fast.tw5372183307935780598 : Unit := ()
def PySem.W.Fast.tw14349536451973053209 : Unit := ()
def PySem.W.Fast.tw13327882156447865817 : Unit := ()
def PySem.W.Fast.tw7106886770008937562 : Unit := ()
def PySem.W.Fast.tw3526787902698778010 : Unit := ()
def PySem.W.Fast.tw17797767265256373754 : Unit := ()
def PySem.W.Fast.tw1867150690829381883 : Unit := ()
def PySem.W.Fast.tw17569722366395138811 : Unit := ()
def PySem.W.Fast.tw11314564362357194172 : Unit := ()
def PySem.W.Fast.tw12180271206131770076 : Unit := ()
def PySem.W.Fast.tw3469275688115402109 : Unit := ()
def PySem.W.Fast.tw8214499412456230356 : Unit := ()
set_option maxRecDepth 100000 in
set_option maxHeartbeats 0 in
theorem PySem.Challenge.cw_tonguegate_k16_given_back_holds : PySem.Challenge.rw_tonguegate_k16_given_back.Holds := by
 w_on; o_law; k_head; (case hw => w_witness2)
 k_fill
 refine Tg.walk (l := PySem.Challenge.rw_tonguegate_k16_given_back) rfl rfl (fun w h Y => PySem.W.kIn_of Y) ?F
 case F =>
  intro w mg fa h KX G hmg
  refine' Tg.all_mk KX G hmg ?a1 ?l1 ?c1 ?k1 ?a2 ?l2 ?c2 ?k2 ?a3 ?l3 ?c3 ?k3 ?a4 ?l4 ?c4 ?k4 ?a5 ?l5 ?c5 ?k5 ?a6 ?l6 ?c6 ?k6 ?a7 ?l7 ?c7 ?k7 ?a8 ?l8 ?c8 ?k8 ?a9 ?l9 ?c9 ?k9 ?a10 ?l10 ?c10 ?k10 ?a11 ?l11 ?c11 ?k11 ?a12 ?l12 ?c12 ?k12 ?a13 ?l13 ?c13 ?k13 ?a14 ?l14 ?c14 ?k14 ?y1 ?y2 ?y3 ?y4 ?y5 ?y6 ?y7 ?y8 ?y9 ?y10 ?y11 ?y12 ?y13 ?y14 ?y15  ?gcGateError ?gcNoBlock ?gcWrongHand ?gcFull ?gcNoDoor ?gcNoPart ?gcNoPicture ?gcNoProgram ?gcNoRoom ?gcNoText ?gcNoThing ?gcNoWord ?gcNoWorths ?gcStore ?xNoBlock ?b_xm ?b_ka ?b_kb ?b_kn ?b_kv ?b_e1 ?b_e2 ?b_e3 ?b_e4 ?b_e5 ?b_e6 ?b_e7 ?xWrongHand ?w_xm ?w_ka ?w_kb ?w_kn ?w_kv ?w_e1 ?w_e2 ?w_e3 ?w_e4 ?w_e5 ?w_e6 ?w_e7 ?b_ko ?w_ko ?xNoRoom ?xmm ?xbb ?xwb ?xww   ?am1 ?lm1 ?cm1 ?km1 ?im1 ?am2 ?lm2 ?cm2 ?km2 ?im2 ?am3 ?lm3 ?cm3 ?km3 ?im3 ?am4 ?lm4 ?cm4 ?km4 ?im4 ?am5 ?lm5 ?cm5 ?km5 ?im5 ?am6 ?lm6 ?cm6 ?km6 ?im6 ?am7 ?lm7 ?cm7 ?km7 ?im7 ?pgStore ?hdStore ?poStore ?saStore ?mkStore ?keStore ?naStore_words ?naStore_cells ?naStore_gaps ?naStore_held ?naStore_deeds
  (case a1 => k_is); (case l1 => k_is); (case c1 => k_is); (case k1 => k_is)
  (case a2 => k_is); (case l2 => k_is); (case c2 => k_is); (case k2 => k_is)
  (case a3 => k_is); (case l3 => k_is); (case c3 => k_is); (case k3 => k_is)
  (case a4 => k_is); (case l4 => k_is); (case c4 => k_is); (case k4 => k_is)
  (case a5 => k_is); (case l5 => k_is); (case c5 => k_is); (case k5 => k_is)
  (case a6 => k_is); (case l6 => k_is); (case c6 => k_is); (case k6 => k_is)
  (case a7 => k_is); (case l7 => k_is); (case c7 => k_is); (case k7 => k_is)
  (case a8 => k_is); (case l8 => k_is); (case c8 => k_is); (case k8 => k_is)
  (case a9 => k_is); (case l9 => k_is); (case c9 => k_is); (case k9 => k_is)
  (case a10 => k_is); (case l10 => k_is); (case c10 => k_is); (case k10 => k_is)
  (case a11 => k_is); (case l11 => k_is); (case c11 => k_is); (case k11 => k_is)
  (case a12 => k_is); (case l12 => k_is); (case c12 => k_is); (case k12 => k_is)
  (case a13 => k_is); (case l13 => k_is); (case c13 => k_is); (case k13 => k_is)
  (case a14 => k_is); (case l14 => k_is); (case c14 => k_is); (case k14 => k_is)
  (case y1 => k_is)
  (case y2 => k_is)
  (case y3 => k_is)
  (case y4 => k_is)
  (case y5 => k_is)
  (case y6 => k_is)
  (case y7 => k_is)
  (case y8 => k_is)
  (case y9 => k_is)
  (case y10 => k_is)
  (case y11 => k_is)
  (case y12 => k_is)
  (case y13 => k_is)
  (case y14 => k_is)
  (case y15 => k_is)
  (case gcGateError => k_is)
  (case gcNoBlock => k_is)
  (case gcWrongHand => k_is)
  (case gcFull => k_is)
  (case gcNoDoor => k_is)
  (case gcNoPart => k_is)
  (case gcNoPicture => k_is)
  (case gcNoProgram => k_is)
  (case gcNoRoom => k_is)
  (case gcNoText => k_is)
  (case gcNoThing => k_is)
  (case gcNoWord => k_is)
  (case gcNoWorths => k_is)
  (case gcStore => k_is)
  (case xNoBlock => k_exc)
  (case b_xm => kts_exm)
  (case b_ka => kit_is)
  (case b_kb => kit_is)
  (case b_kn => kit_is)
  (case b_kv => kit_is)
  (case b_e1 => k_is)
  (case b_e2 => k_is)
  (case b_e3 => k_is)
  (case b_e4 => k_is)
  (case b_e5 => k_is)
  (case b_e6 => k_is)
  (case b_e7 => k_is)
  (case xWrongHand => k_exc)
  (case w_xm => kts_exm)
  (case w_ka => kit_is)
  (case w_kb => kit_is)
  (case w_kn => kit_is)
  (case w_kv => kit_is)
  (case w_e1 => k_is)
  (case w_e2 => k_is)
  (case w_e3 => k_is)
  (case w_e4 => k_is)
  (case w_e5 => k_is)
  (case w_e6 => k_is)
  (case w_e7 => k_is)
  (case b_ko => kit_is)
  (case w_ko => kit_is)
  (case xNoRoom => k_exc)
  (case xmm => kts_exm)
  (case xbb => kts_exm)
  (case xwb => kts_exm)
  (case xww => kts_exm)
  (case am1 => k_is); (case lm1 => k_is); (case cm1 => k_is); (case km1 => k_is); (case im1 => k_is)
  (case am2 => k_is); (case lm2 => k_is); (case cm2 => k_is); (case km2 => k_is); (case im2 => k_is)
  (case am3 => k_is); (case lm3 => k_is); (case cm3 => k_is); (case km3 => k_is); (case im3 => k_is)
  (case am4 => k_is); (case lm4 => k_is); (case cm4 => k_is); (case km4 => k_is); (case im4 => k_is)
  (case am5 => k_is); (case lm5 => k_is); (case cm5 => k_is); (case km5 => k_is); (case im5 => k_is)
  (case am6 => k_is); (case lm6 => k_is); (case cm6 => k_is); (case km6 => k_is); (case im6 => k_is)
  (case am7 => k_is); (case lm7 => k_is); (case cm7 => k_is); (case km7 => k_is); (case im7 => k_is)
  (case pgStore => k_is); (case hdStore => k_is); (case poStore => k_is); (case saStore => k_is); (case mkStore => k_is); (case keStore => k_is)
  (case naStore_words => k_is)
  (case naStore_cells => k_is)
  (case naStore_gaps => k_is)
  (case naStore_held => k_is)
  (case naStore_deeds => k_is)

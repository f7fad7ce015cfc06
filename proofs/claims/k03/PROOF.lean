import PyProof.Rows.All
import Wide.All
import OpenK.AllK
import Wide.FinOn
import Lean
import PyProof.EqAt
import PyProof.EqKinds
import PyProof.TupleCall
import PySem.Challenge.RW_tonguegate_k03_kinds_at_paths
set_option Elab.async false
set_option linter.all false
set_option maxRecDepth 100000
/-! THE HAND LAYER, for ints, bools, texts, own classes, LISTS and tuples (index, slices, in, append, pop ..), calls, loops. Paste it whole ahead of your own text; what your proof does not reach may be deleted. -/
namespace L2
open PySem PySem.Spec PyProof.Rows

/-- a key: an int or a str -/
abbrev Key := Sum Int Str
def keyIs : Key → Value → Bool
  | .inl k, v => Value.isInt k v
  | .inr x, v => Value.isStrOf x v
def keyH (w : World) : Key → Int
  | .inl k => hashInt k
  | .inr x => hashStr w x
theorem keyIs_shape : ∀ {k : Key} {v : Value}, keyIs k v = true → (∃ i t, k = Sum.inl i ∧ v = Value.int i t) ∨ (∃ x t, k = Sum.inr x ∧ v = Value.str x t)
  | .inl i, v, h => by
    obtain ⟨t, e⟩ := Value.isInt_shape (k := i) (v := v) h
    exact .inl ⟨i, t, rfl, e⟩
  | .inr x, v, h => by
    obtain ⟨t, e⟩ := Value.isStrOf_shape (x := x) (v := v) h
    exact .inr ⟨x, t, rfl, e⟩
theorem keyIs_int (i : Int) (t : Tok) : keyIs (.inl i) (.int i t) = true := by simp [keyIs, Value.isInt]
theorem keyIs_str (x : Str) (t : Tok) : keyIs (.inr x) (.str x t) = true := by simp [keyIs, Value.isStrOf]
theorem key_ll (a b : Int) : decide ((Sum.inl a : Key) = Sum.inl b) = (a == b) := by
  by_cases e : a = b
  · subst e; simp
  · have h : ¬ (Sum.inl a : Key) = Sum.inl b := fun q => e (Sum.inl.inj q)
    rw [decide_eq_false h]
    exact (beq_eq_false_iff_ne.mpr e).symm
theorem key_rr (a b : Str) : decide ((Sum.inr a : Key) = Sum.inr b) = decide (a = b) := by
  by_cases e : a = b
  · subst e; simp
  · have h : ¬ (Sum.inr a : Key) = Sum.inr b := fun q => e (Sum.inr.inj q)
    rw [decide_eq_false h, decide_eq_false e]
theorem key_lr (a : Int) (b : Str) : decide ((Sum.inl a : Key) = Sum.inr b) = false := decide_eq_false (fun q => nomatch q)
theorem key_rl (a : Str) (b : Int) : decide ((Sum.inr a : Key) = Sum.inl b) = false := decide_eq_false (fun q => nomatch q)

def mixKind (prog : Program) (w : World) : PySem.KeyKind prog w Key where
  is := keyIs
  hash := keyH w
  inj := fun v a b ha hb => by
    rcases keyIs_shape ha with ⟨i, t, rfl, rfl⟩ | ⟨x, t, rfl, rfl⟩
    · rcases keyIs_shape hb with ⟨j, u, rfl, e⟩ | ⟨y, u, rfl, e⟩
      · injection e with e1 _; rw [e1]
      · exact nomatch e
    · rcases keyIs_shape hb with ⟨j, u, rfl, e⟩ | ⟨y, u, rfl, e⟩
      · exact nomatch e
      · injection e with e1 _; rw [e1]
  byValue := fun k v h => by
    rcases keyIs_shape h with ⟨i, t, rfl, rfl⟩ | ⟨x, t, rfl, rfl⟩ <;> rfl
  pyHash := fun hv h => by
    rcases keyIs_shape hv with ⟨i, t, rfl, rfl⟩ | ⟨x, t, rfl, rfl⟩
    · exact wpAny_pyHash_int h
    · exact wpAny_pyHash_str h
  eqBool := fun hu hv h => by
    rcases keyIs_shape hu with ⟨i, t, rfl, rfl⟩ | ⟨x, t, rfl, rfl⟩
    · rcases keyIs_shape hv with ⟨j, u, rfl, rfl⟩ | ⟨y, u, rfl, rfl⟩
      · rw [key_ll] at h; exact wpAny_eqBool_int h
      · rw [key_lr] at h; exact SeqAt.EqAt.int_str i t y u _ _ _ _ h
    · rcases keyIs_shape hv with ⟨j, u, rfl, rfl⟩ | ⟨y, u, rfl, rfl⟩
      · rw [key_rl] at h; exact SeqAt.EqAt.str_int x t j u _ _ _ _ h
      · rw [key_rr] at h; exact wpAny_eqBool_str h
  «strs» := fun k x t v h => by
    rcases keyIs_shape h with ⟨i, u, rfl, e⟩ | ⟨y, u, rfl, e⟩
    · exact nomatch e
    · injection e with e1 _
      subst e1
      cases v <;> rfl

theorem mixKind_is (prog : Program) (w : World) (k : Key) (v : Value) : (mixKind prog w).is k v = keyIs k v := rfl
theorem mixKind_int (prog : Program) (w : World) (i : Int) (t : Tok) : (mixKind prog w).is (.inl i) (.int i t) = true := keyIs_int i t
theorem mixKind_str (prog : Program) (w : World) (x : Str) (t : Tok) : (mixKind prog w).is (.inr x) (.str x t) = true := keyIs_str x t
end L2

namespace L2
open PySem PySem.Spec PyProof.Rows

/-- a value, without the heap -/
inductive V where
  | non | bl (b : Bool) | int (i : Int) | str (x : Str) | byt (b : Array UInt8) | flt (b : UInt64) | ref (a : Addr) | ty (n : String)
  deriving DecidableEq

def RelV : V → Value → Prop
  | .non, u => u = Value.none
  | .bl b, u => u = Value.bool b
  | .int i, u => ∃ t, u = Value.int i t
  | .str x, u => ∃ t, u = Value.str x t
  | .byt b, u => ∃ t, u = Value.bytes b t
  | .flt b, u => ∃ t, u = Value.float b t
  | .ref a, u => u = Value.ref a
  | .ty n, u => u = Value.type n

abbrev Vals : List V → List Value → Prop := Paired RelV
theorem Vals.length {xs : List V} {us : List Value} (r : Vals xs us) : xs.length = us.length := Paired.length r
theorem Vals.get : ∀ {xs : List V} {us : List Value} {i : Nat} {x : V}, Vals xs us → xs[i]? = some x → ∃ u, us[i]? = some u ∧ RelV x u
  | _, _, _, _, .nil, e => by simp at e
  | _, _, 0, _, .cons r _, e => by simp at e; subst e; exact ⟨_, rfl, r⟩
  | _, _, i + 1, x, .cons _ t, e => by
    obtain ⟨u, h1, h2⟩ := Vals.get (i := i) (x := x) t (by simpa using e)
    exact ⟨u, by simpa using h1, h2⟩
theorem Vals.set {x : V} {u : Value} (r : RelV x u) : ∀ {xs : List V} {us : List Value} (i : Nat), Vals xs us → Vals (xs.set i x) (us.set i u)
  | _, _, _, .nil => .nil
  | _, _, 0, .cons _ t => .cons r t
  | _, _, i + 1, .cons q t => .cons q (Vals.set r i t)
theorem Vals.append : ∀ {xs ys : List V} {us ws : List Value}, Vals xs us → Vals ys ws → Vals (xs ++ ys) (us ++ ws)
  | _, _, _, _, .nil, s => s
  | _, _, _, _, .cons r t, s => .cons r (Vals.append t s)
theorem Vals.take : ∀ {xs : List V} {us : List Value} (n : Nat), Vals xs us → Vals (xs.take n) (us.take n)
  | _, _, 0, _ => .nil
  | _, _, _ + 1, .nil => .nil
  | _, _, n + 1, .cons r t => .cons r (Vals.take n t)
theorem Vals.drop : ∀ {xs : List V} {us : List Value} (n : Nat), Vals xs us → Vals (xs.drop n) (us.drop n)
  | _, _, 0, r => r
  | _, _, _ + 1, .nil => .nil
  | _, _, n + 1, .cons _ t => Vals.drop n t
theorem Vals.none_of : ∀ {xs : List V} {us : List Value} {i : Nat}, Vals xs us → xs[i]? = none → us[i]? = none := fun {xs us i} r e => by
  have h1 := r.length
  have h2 : xs.length ≤ i := List.getElem?_eq_none_iff.mp e
  exact List.getElem?_eq_none_iff.mpr (by omega)

def RelO : Option V → Option Value → Prop
  | some v, some u => RelV v u
  | none, none => True
  | _, _ => False
def KV {κ : Type} : List (κ × V) → List (κ × Value) → Prop := Paired fun (p : κ × V) (q : κ × Value) => p.1 = q.1 ∧ RelV p.2 q.2

/-- a key of a dict (00_mix): an int or a text -/
def kV : Key → V
  | .inl i => .int i
  | .inr x => .str x

/-- what stands at a tracked address -/
inductive HO where
  /-- a list -/
  | lst (xs : List V)
  /-- a tuple (never changes) -/
  | tup (xs : List V)
  /-- a dict whose keys are ints and texts; one whose keys are tuples of ints and texts (the empty one is both) -/
  | dK (kvs : List (Key × V)) | dT (kvs : List (List Key × V))
  /-- a set of ints: its members, its size -/
  | set (S : Int → Bool) (n : Nat)
  /-- an instance of the class at C, its dict at dx, its attributes -/
  | ins (C dx : Addr) (fs : List (Str × V))
  /-- the dict of the instance at x -/
  | own (x : Addr)
  /-- the dict of an exception -/
  | xd (fs : List (Str × V))
  /-- a bound method, f of x -/
  | met (f x : Addr)
  /-- a range object lo, lo + 1, .. below hi -/
  | rng (lo hi : Int)
  /-- a thing that is known to the object (the script; a dict while a loop walks it): read, never written while it is so -/
  | frz (o : Obj) (u : HO)
  /-- a code object's table -/
  | tbl (ps : Array Value)
  /-- any other thing, by what is true of its one object (a def of one's own: SetO a S n := HO.ext fun h => ..) -/
  | ext (φ : Heap → Prop)

abbrev Hp := Addr → Option HO
def upd (H : Hp) (a : Addr) (o : HO) : Hp := fun b => if b = a then some o else H b
theorem upd_same {H : Hp} {a : Addr} {o : HO} : upd H a o a = some o := by unfold upd; rw [if_pos rfl]
theorem upd_ne {H : Hp} {a b : Addr} {o : HO} (h : b ≠ a) : upd H a o b = H b := by unfold upd; rw [if_neg h]
theorem upd_upd {H : Hp} {a : Addr} {o u : HO} : upd (upd H a o) a u = upd H a u := by
  funext b; unfold upd; split <;> rfl
/-- two objects of different content stand apart -/
theorem ne_of {H : Hp} {a b : Addr} {o u : HO} (h : H a = some o) (h' : H b = some u) (d : o ≠ u) : a ≠ b := by
  intro e; subst e; rw [h] at h'; exact d (Option.some.inj h')
theorem ne_of_none {H : Hp} {a b : Addr} {o : HO} (h : H a = some o) (h' : H b = none) : a ≠ b := by
  intro e; subst e; rw [h] at h'; cases h'

section
variable (P : Program) (w : World)
def ObjOk (H : Hp) (h : Heap) (a : Addr) : HO → Prop
  | .lst xs => xs.length ≤ sizeLine ∧ ∃ (its : List Value) (n : Nat), Vals xs its ∧ h.get? a = some { cls := .type "list", data := .seq its.toArray n }
  | .tup xs => xs.length ≤ sizeLine ∧ ∃ its : List Value, Vals xs its ∧ IsTup h a its.toArray
  | .dK kvs => kvs.length ≤ sizeLine ∧ (a == sysModules) = false ∧ ∃ vs, KV kvs vs ∧ h.DictOf (mixKind P w) a vs
  | .dT kvs => kvs.length ≤ sizeLine ∧ (a == sysModules) = false ∧ ∃ xs : List (List Key × Addr × Value),
      Paired (fun (p : List Key × V) (q : List Key × Addr × Value) => p.1 = q.1 ∧ H q.2.1 = some (.tup (p.1.map kV)) ∧ RelV p.2 q.2.2) kvs xs ∧
      ∃ o es ep, h.get? a = some o ∧ o.ExactDict ∧ o.data = .dict es ep ∧ es.toList = xs.map (entryOfKey (tupleKind (mixKind P w))) ∧ (xs.map (·.1)).Nodup
  | .set S n => h.SetOf (intKind P w) a S n
  | .ins C dx fs => H dx = some (.own a) ∧ fs.length ≤ 1000 ∧ dx ≠ a ∧ h.get? a = some (PySem.W.instObj C dx) ∧
      ∃ mA, h.Ns1 dx mA ∧ (∀ f, RelO (fs.lookup f) (mA f)) ∧ PySem.Within mA (fs.map (·.1))
  | .own _ => ∃ o, h.get? a = some o
  | .xd fs => ∃ mA, h.Ns1 a mA ∧ ∀ f, RelO (fs.lookup f) (mA f)
  | .rng lo hi => ∃ t u v, h.get? a = some { cls := .type "range", data := .fields #[.int lo t, .int hi u, .int 1 v] }
  | .frz o u => h.get? a = some o ∧ ObjOk H h a u
  | .tbl ps => h.get? a = some { cls := .none, data := .fields ps }
  | .met f x => h.get? a = some (PySem.W.methodObj (.ref f) (.ref x))
  | .ext φ => φ h ∧ (∃ o, h.get? a = some o) ∧ ∀ h1 h2 : Heap, φ h1 → (∀ o, h1.get? a = some o → h2.get? a = some o) → φ h2
/-- the abstract heap is held -/
def HOk (H : Hp) (h : Heap) : Prop := ∀ a o, H a = some o → ObjOk P w H h a o
end

section
variable {P : Program} {w : World} {H H' : Hp} {h h' : Heap} {a : Addr} {o : HO}
theorem ObjOk.lt (x : ObjOk P w H h a o) : a < h.objs.size := by
  cases o with
  | lst xs => obtain ⟨_, _, _, _, e⟩ := x; exact Heap.lt_size e
  | tup xs => obtain ⟨_, _, _, p⟩ := x; exact p.lt
  | dK kvs => obtain ⟨_, _, _, _, o, _, _, e, _⟩ := x; exact Heap.lt_size e
  | dT kvs => obtain ⟨_, _, _, _, o, _, _, e, _⟩ := x; exact Heap.lt_size e
  | set S n => obtain ⟨o, _, _, _, e, _⟩ := x; exact Heap.lt_size e
  | ins C dx fs => obtain ⟨_, _, _, e, _⟩ := x; exact Heap.lt_size e
  | own y => obtain ⟨_, e⟩ := x; exact Heap.lt_size e
  | xd fs => obtain ⟨_, ⟨_, _, _, e, _⟩, _⟩ := x; exact Heap.lt_size e
  | rng lo hi => obtain ⟨_, _, _, e⟩ := x; exact Heap.lt_size e
  | frz ob u => obtain ⟨e, _⟩ := x; exact Heap.lt_size e
  | tbl ps => exact Heap.lt_size (show h.get? a = some _ from x)
  | met f y => exact Heap.lt_size (show h.get? a = some _ from x)
  | ext φ => obtain ⟨_, ⟨_, e⟩, _⟩ := x; exact Heap.lt_size e
theorem Paired.mapP {α β : Type} {F G : α → β → Prop} : ∀ {l₁ : List α} {l₂ : List β}, Paired F l₁ l₂ → (∀ a b, F a b → G a b) → Paired G l₁ l₂
  | _, _, .nil, _ => .nil
  | _, _, .cons r t, f => .cons (f _ _ r) (Paired.mapP t f)
theorem Paired.imp' {α β : Type} {F G : α → β → Prop} (f : ∀ a b, F a b → G a b) {l₁ : List α} {l₂ : List β} (r : Paired F l₁ l₂) : Paired G l₁ l₂ := Paired.mapP r f
/-- what an object's description leans on: its own object, its own dict, the tuples -/
theorem ObjOk.stay (x : ObjOk P w H h a o) (k : ∀ b u, (b = a ∨ H b = some (.own a)) → h.get? b = some u → h'.get? b = some u)
    (ho : ∀ b, H b = some (.own a) → H' b = some (.own a)) (ht : ∀ b xs, H b = some (.tup xs) → H' b = some (.tup xs)) : ObjOk P w H' h' a o := by
  induction o with
  | lst xs => obtain ⟨z, its, n, r, e⟩ := x; exact ⟨z, its, n, r, k _ _ (.inl rfl) e⟩
  | tup xs => obtain ⟨z, its, r, ob, e, c⟩ := x; exact ⟨z, its, r, ob, k _ _ (.inl rfl) e, c⟩
  | dK kvs => obtain ⟨z, y, vs, r, ob, es, ep, e, c⟩ := x; exact ⟨z, y, vs, r, ob, es, ep, k _ _ (.inl rfl) e, c⟩
  | dT kvs =>
    obtain ⟨z, y, xs, r, ob, es, ep, e, c⟩ := x
    exact ⟨z, y, xs, Paired.mapP r fun p q z => ⟨z.1, ht _ _ z.2.1, z.2.2⟩, ob, es, ep, k _ _ (.inl rfl) e, c⟩
  | set S n => obtain ⟨ob, es, ep, t, e, c⟩ := x; exact ⟨ob, es, ep, t, k _ _ (.inl rfl) e, c⟩
  | ins C dx fs =>
    obtain ⟨d, z, ne, e, mA, ⟨od, es, ep, e2, c⟩, r⟩ := x
    exact ⟨ho _ d, z, ne, k _ _ (.inl rfl) e, mA, ⟨od, es, ep, k _ _ (.inr d) e2, c⟩, r⟩
  | own y => obtain ⟨ob, e⟩ := x; exact ⟨ob, k _ _ (.inl rfl) e⟩
  | xd fs => obtain ⟨mA, ⟨od, es, ep, e, c⟩, r⟩ := x; exact ⟨mA, ⟨od, es, ep, k _ _ (.inl rfl) e, c⟩, r⟩
  | rng lo hi => obtain ⟨t, u, v, e⟩ := x; exact ⟨t, u, v, k _ _ (.inl rfl) e⟩
  | frz ob u ih => obtain ⟨e, q⟩ := x; exact ⟨k _ _ (.inl rfl) e, ih q⟩
  | tbl ps =>
    have e : h.get? a = some { cls := .none, data := .fields ps } := x
    show h'.get? a = some { cls := .none, data := .fields ps }
    exact k a _ (.inl rfl) e
  | met f y =>
    have e : h.get? a = some (PySem.W.methodObj (.ref f) (.ref y)) := x
    show h'.get? a = some (PySem.W.methodObj (.ref f) (.ref y))
    exact k a _ (.inl rfl) e
  | ext φ => obtain ⟨p, ⟨o, e⟩, st⟩ := x; exact ⟨st _ _ p fun o q => k _ _ (.inl rfl) q, ⟨o, k _ _ (.inl rfl) e⟩, st⟩
theorem HOk.lt (x : HOk P w H h) (e : H a = some o) : a < h.objs.size := (x a o e).lt
theorem HOk.fresh (x : HOk P w H h) (e : h.objs.size ≤ a) : H a = none := by
  cases q : H a with
  | none => rfl
  | some u => exact absurd (Nat.lt_of_lt_of_le (x.lt q) e) (Nat.lt_irrefl _)
/-- every object of the heap is kept -/
theorem HOk.kept (x : HOk P w H h) (k : ∀ b u, h.get? b = some u → h'.get? b = some u) : HOk P w H h' := fun a o e =>
  (x a o e).stay (fun b u _ q => k b u q) (fun _ q => q) fun _ _ q => q
/-- a new object is laid and tracked -/
theorem HOk.laid (x : HOk P w H h) (k : ∀ b u, h.get? b = some u → h'.get? b = some u) (hp : h.objs.size ≤ a) (new : ObjOk P w (upd H a o) h' a o) : HOk P w (upd H a o) h' := fun b u e => by
  have hn := x.fresh hp
  by_cases hb : b = a
  · subst hb; rw [upd_same] at e; cases e; exact new
  · rw [upd_ne hb] at e
    exact (x b u e).stay (fun c v _ q => k c v q) (fun c q => by rw [upd_ne (ne_of_none q hn)]; exact q) fun c xs q => by rw [upd_ne (ne_of_none q hn)]; exact q
end

/-- what may be read as u: it is u, or a known u -/
def Rd (H : Hp) (a : Addr) (u : HO) : Prop := H a = some u ∨ ∃ o, H a = some (.frz o u)
theorem Rd.of {H : Hp} {a : Addr} {u : HO} (h : H a = some u) : Rd H a u := .inl h
theorem Rd.ok {P : Program} {w : World} {H : Hp} {h : Heap} {a : Addr} {u : HO} (r : Rd H a u) (x : HOk P w H h) : ObjOk P w H h a u := by
  rcases r with r | ⟨o, r⟩
  · exact x a u r
  · obtain ⟨_, q⟩ := x a _ r
    exact q
/-- what may be written -/
def Mut : Option HO → Prop
  | some (.lst _) => True
  | some (.dK _) => True
  | some (.dT _) => True
  | some (.set _ _) => True
  | some (.ins _ _ _) => True
  | some (.ext _) => True
  | _ => False
section
variable {P : Program} {w : World} {H : Hp} {h h' : Heap} {x e : Addr} {o' : HO}
/-- the object at e is changed: x itself, or the dict of the instance x -/
theorem HOk.write (ok : HOk P w H h) (mu : Mut (H x)) (he : e = x ∨ H e = some (.own x)) (k : ∀ b u, b ≠ e → h.get? b = some u → h'.get? b = some u) (heo : ∃ u, h'.get? e = some u)
    (new : ObjOk P w (upd H x o') h' x o') : HOk P w (upd H x o') h' := fun b u q => by
  have nown : ∀ c y, H c = some (.own y) → c ≠ x := fun c y r z => by subst z; rw [r] at mu; exact mu
  have ntup : ∀ c xs, H c = some (.tup xs) → c ≠ x := fun c xs r z => by subst z; rw [r] at mu; exact mu
  by_cases hb : b = x
  · subst hb; rw [upd_same] at q; cases q; exact new
  · rw [upd_ne hb] at q
    by_cases hbe : b = e
    · have q' : H b = some (.own x) := by
        rcases he with z | z
        · exact absurd (hbe.trans z) hb
        · rw [hbe]; exact z
      rw [q] at q'; cases q'
      obtain ⟨v, hv⟩ := heo
      exact ⟨v, by rw [hbe]; exact hv⟩
    · refine (ok b u q).stay (fun c v hc r => k c v ?_ r) (fun c r => by rw [upd_ne (nown c b r)]; exact r) fun c xs r => by rw [upd_ne (ntup c xs r)]; exact r
      rcases hc with rfl | hc
      · exact hbe
      · rintro rfl
        rcases he with z | z
        · exact nown c b hc z
        · rw [hc] at z; cases z; exact hb rfl
end

/-! ### kept unless tracked; of the frames at fs (the callers') the slots may change (an exception that passes writes there); of the records at ex (iterators) nothing is said -/
structure Un (fs ex : List Addr) (H H' : Hp) (h h' : Heap) : Prop where
  keep : ∀ b o, h.get? b = some o → H b = none → b ∉ fs → b ∉ ex → h'.get? b = some o
  slot : ∀ b o, h.get? b = some o → H b = none → b ∈ fs → b ∉ ex → ∃ sl, h'.get? b = some { o with slots := sl }
  free : ∀ b o, h.get? b = some o → H b = none → b ∉ ex → H' b = none
  there : ∀ b o, h.get? b = some o → b ∉ ex → ∃ o', h'.get? b = some o'
  tups : ∀ b xs, H b = some (.tup xs) → H' b = some (.tup xs)
  frzs : ∀ b o u, H b = some (.frz o u) → H' b = some (.frz o u)
  tbls : ∀ b ps, H b = some (.tbl ps) → ∃ more, H' b = some (.tbl (ps ++ more))
section
variable {fs fs' ex ex' : List Addr} {H H1 H2 : Hp} {h h1 h2 h' : Heap} {a x e : Addr} {o : HO}
theorem Un.any (u : Un fs ex H H1 h h1) {b : Addr} {ob : Obj} (q : h.get? b = some ob) (n : H b = none) (hx : b ∉ ex) : ∃ sl, h1.get? b = some { ob with slots := sl } := by
  by_cases hb : b ∈ fs
  · exact u.slot b ob q n hb hx
  · exact ⟨ob.slots, u.keep b ob q n hb hx⟩
theorem Un.trans (a : Un fs ex H H1 h h1) (b : Un fs ex H1 H2 h1 h2) : Un fs ex H H2 h h2 where
  keep := fun c ob q n hc hx => b.keep c ob (a.keep c ob q n hc hx) (a.free c ob q n hx) hc hx
  slot := fun c ob q n hc hx => by
    obtain ⟨sl, e1⟩ := a.slot c ob q n hc hx
    obtain ⟨sl', e2⟩ := b.slot c _ e1 (a.free c ob q n hx) hc hx
    exact ⟨sl', e2⟩
  free := fun c ob q n hx => by
    obtain ⟨o', e1⟩ := a.there c ob q hx
    exact b.free c o' e1 (a.free c ob q n hx) hx
  there := fun c ob q hx => by
    obtain ⟨o', e1⟩ := a.there c ob q hx
    exact b.there c o' e1 hx
  tups := fun c xs q => b.tups c xs (a.tups c xs q)
  frzs := fun c ob xs q => b.frzs c ob xs (a.frzs c ob xs q)
  tbls := fun c ps q => by
    obtain ⟨m1, e1⟩ := a.tbls c ps q
    obtain ⟨m2, e2⟩ := b.tbls c _ e1
    exact ⟨m1 ++ m2, by rw [e2, Array.append_assoc]⟩
theorem Un.kept (k : ∀ b u, h.get? b = some u → h'.get? b = some u) : Un fs ex H H h h' :=
  ⟨fun b ob q _ _ _ => k b ob q, fun b ob q _ _ _ => ⟨ob.slots, k b ob q⟩, fun _ _ _ n _ => n, fun b ob q _ => ⟨ob, k b ob q⟩, fun _ _ q => q, fun _ _ _ q => q, fun _ ps q => ⟨#[], by rw [q]; simp⟩⟩
theorem Un.refl : Un fs ex H H h h := Un.kept fun _ _ q => q
theorem Un.laid (k : ∀ b u, h.get? b = some u → h'.get? b = some u) (hp : h.objs.size ≤ a) (hn : H a = none) : Un fs ex H (upd H a o) h h' where
  keep := fun b u q _ _ _ => k b u q
  slot := fun b u q _ _ _ => ⟨u.slots, k b u q⟩
  free := fun b u q n _ => by rw [upd_ne (Nat.ne_of_lt (Nat.lt_of_lt_of_le (Heap.lt_size q) hp))]; exact n
  there := fun b u q _ => ⟨u, k b u q⟩
  tups := fun b xs q => by rw [upd_ne (ne_of_none q hn)]; exact q
  frzs := fun b u xs q => by rw [upd_ne (ne_of_none q hn)]; exact q
  tbls := fun b ps q => ⟨#[], by rw [upd_ne (ne_of_none q hn), q]; simp⟩
theorem Un.write (mu : Mut (H x)) (he : e = x ∨ H e = some (.own x)) (k : ∀ b u, b ≠ e → h.get? b = some u → h'.get? b = some u) (heo : ∃ u, h'.get? e = some u) : Un fs ex H (upd H x o) h h' := by
  have hx : ∀ b, H b = none → b ≠ x := fun b n z => by subst z; rw [n] at mu; exact mu
  have hb : ∀ b, H b = none → b ≠ e := fun b n z => by
    subst z
    rcases he with r | r
    · exact hx b n r
    · rw [n] at r; cases r
  have hm : ∀ b u, H b = some u → ¬ Mut (some u) → b ≠ x := fun b u q nm z => by subst z; rw [q] at mu; exact nm mu
  refine ⟨fun b u q n _ _ => k b u (hb b n) q, fun b u q n _ _ => ⟨u.slots, k b u (hb b n) q⟩, fun b u q n _ => by rw [upd_ne (hx b n)]; exact n, fun b u q _ => ?_,
    fun b xs q => by rw [upd_ne (hm b _ q fun z => z)]; exact q, fun b u xs q => by rw [upd_ne (hm b _ q fun z => z)]; exact q, fun b ps q => ⟨#[], by rw [upd_ne (hm b _ q fun z => z), q]; simp⟩⟩
  by_cases hbe : b = e
  · subst hbe; exact heo
  · exact ⟨u, k b u hbe q⟩
theorem Un.mono (u : Un fs ex H H1 h h1) (hs : ∀ b ∈ fs, b ∈ fs') (hx : ∀ b ∈ ex, b ∈ ex') : Un fs' ex' H H1 h h1 :=
  ⟨fun b ob q n hb he => u.keep b ob q n (fun z => hb (hs b z)) fun z => he (hx b z), fun _ _ q n _ he => u.any q n fun z => he (hx _ z), fun b ob q n he => u.free b ob q n fun z => he (hx b z), fun b ob q he => u.there b ob q fun z => he (hx b z), u.tups, u.frzs, u.tbls⟩
end

/-! ### the heap without what is tracked -/
def trk (h : Heap) (H : Hp) : List Addr := (List.range h.objs.size).filter fun a => (H a).isSome
def hidT (h : Heap) (H : Hp) : Heap := PySem.W.hideAll h (trk h H)
theorem hidT_size (h : Heap) (H : Hp) : (hidT h H).objs.size = h.objs.size := PySem.W.hideAll_size _ _
theorem hidT_get {h : Heap} {H : Hp} {b : Addr} {o : Obj} (e : h.get? b = some o) (n : H b = none) : (hidT h H).get? b = some o :=
  PySem.W.hideAll_get _ e fun hm => by
    have q : (H b).isSome = true := (List.mem_filter.mp hm).2
    rw [n] at q; simp at q
theorem of_hidT {h : Heap} {H : Hp} {b : Addr} {o : Obj} (e : (hidT h H).get? b = some o) : h.get? b = some o ∧ H b = none := by
  have e' : h.get? b = some o := PySem.W.of_hideAll (trk h H) e
  refine ⟨e', ?_⟩
  cases q : H b with
  | none => rfl
  | some x =>
    have hm : b ∈ trk h H := List.mem_filter.mpr ⟨List.mem_range.mpr (Heap.lt_size e'), by simp [q]⟩
    have z : (hidT h H).get? b = none := PySem.W.hideAll_none (trk h H) hm
    rw [z] at e; cases e

/-! ### OpenK's ledger, filled with every new object but one -/
def allNews (g h : Heap) (L : Addr) : List (Addr × Obj) := (List.range h.objs.size).filterMap fun a => if a = L ∨ (g.get? a).isSome = true then none else (h.get? a).map fun o => (a, o)
theorem mem_allNews {g h : Heap} {L a : Addr} {o : Obj} (h1 : a ≠ L) (h2 : g.get? a = none) (h3 : h.get? a = some o) : (a, o) ∈ allNews g h L :=
  List.mem_filterMap.mpr ⟨a, List.mem_range.mpr (Heap.lt_size h3), by simp [h1, h2, h3]⟩
theorem of_mem_allNews {g h : Heap} {L : Addr} {p : Addr × Obj} (hp : p ∈ allNews g h L) : p.1 ≠ L ∧ g.get? p.1 = none ∧ h.get? p.1 = some p.2 := by
  obtain ⟨b, _, e⟩ := List.mem_filterMap.mp hp
  split at e
  · cases e
  · rename_i hn
    cases q : h.get? b with
    | none => rw [q] at e; simp at e
    | some u =>
      rw [q] at e
      simp only [Option.map_some, Option.some.injEq] at e
      subst e
      refine ⟨fun z => hn (.inl z), ?_, q⟩
      show g.get? b = none
      cases r : g.get? b with
      | none => rfl
      | some v => exact (hn (.inr (by simp [r]))).elim
def rest (g h : Heap) (L d : Addr) : List (Addr × Obj) := (allNews g h L).filter fun p => decide (p.1 ≠ d)
theorem rest_ne {g h : Heap} {L d : Addr} : ∀ p ∈ rest g h L d, p.1 ≠ d := fun p hp => of_decide_eq_true (List.mem_filter.mp hp).2
theorem mem_rest {g h : Heap} {L d a : Addr} {o : Obj} (h1 : a ≠ L) (h2 : g.get? a = none) (h3 : h.get? a = some o) (h4 : a ≠ d) : (a, o) ∈ rest g h L d :=
  List.mem_filter.mpr ⟨mem_allNews h1 h2 h3, decide_eq_true h4⟩
theorem news_all {g h : Heap} {L : Addr} : News g L h (allNews g h L) := fun p hp => let ⟨a, b, c⟩ := of_mem_allNews hp; ⟨c, a, b⟩
theorem news_at {g h : Heap} {L d : Addr} {o : Obj} (h1 : d ≠ L) (h2 : g.get? d = none) (h3 : h.get? d = some o) : News g L h ((d, o) :: rest g h L d) := fun p hp => by
  rcases List.mem_cons.mp hp with rfl | hp
  · exact ⟨h3, h1, h2⟩
  · exact news_all p (List.mem_filter.mp hp).1
/-- behind a rule that changed d alone: all else but the frame is kept -/
theorem kept_of_news {g h h' : Heap} {L d : Addr} {m : Str → Option Value} (k : ∀ b o, g.get? b = some o → h.get? b = some o) (F : Fr g L h' m) (N : News g L h' (rest g h L d)) :
    ∀ b o, b ≠ L → b ≠ d → h.get? b = some o → h'.get? b = some o := fun b o h1 h2 e => by
  cases q : g.get? b with
  | some u =>
    have := k b u q
    rw [e] at this; cases this
    exact F.keep b _ q
  | none => exact (N (b, o) (mem_rest h1 q e h2)).1
end L2

namespace L2
open PySem PySem.Spec PyProof.Rows

/-- the module's facts, over the base: the heap at the law's entry without what is tracked there -/
structure Mod (K : PySem.W.Frag) (mg : Str → Option Value) (base : Heap) : Prop where
  kin : K.In base
  glob : base.Ns mainGlobals mg
  blt : ∃ mb, base.Ns builtinsNs mb ∧ ∀ x : Str, x ≠ "__name__" → mb x = bootBuiltins x
  nolimit : base.NoLimit

/-- the context: a def's body (or a comprehension's block) running. base: fixed through the whole law; s₀, H₀: the entry; outer: the frames whose slots others may change (a def's callers); stack: all frames that run;
   ex: iterators that were made ahead of the entry and are walked here (a comprehension's); fn: the names whose cells were made at the entry (a def: all; a comprehension's block: its own); calm: not within an except suite; pn: pins that every state bears; xe: what is wanted of an exception that leaves the code -/
structure Cx where
  prog : Program
  w : World
  K : PySem.W.Frag
  mg : Str → Option Value
  base : Heap
  A : Around
  N : List Str
  s₀ : Shared
  H₀ : Hp
  env : Env
  outer : List Env
  stack : List Env
  ex : List Addr
  fn : Str → Bool
  calm : Bool
  pn : List (Addr × Obj)
  xe : Value → Shared → Prop
/-- the callers' frames -/
def frs (l : List Env) : List Addr := l.filterMap (·.frame)
abbrev Cx.fs (X : Cx) : List Addr := frs X.outer

def Vis (sc : Scope) (x : Str) : Prop := sc.names.lookup x = some .local ∨ sc.names.lookup x = some .cell ∨ sc.names.lookup x = some .free
def Loc (sc : Scope) (x : Str) : Prop := sc.names.lookup x = some .local ∨ sc.names.lookup x = some .cell
def Look (env : Env) (h : Heap) (m : Str → Option Value) (x : Str) (u : Value) : Prop :=
  (env.kindOf x = some .local ∧ m x = some u) ∨ ((env.kindOf x = some .cell ∨ env.kindOf x = some .free) ∧ ∃ c, env.cells.lookup x = some c ∧ h.IsCell c (some u))

structure Cx.Ok (X : Cx) : Prop where
  mod : Mod X.K X.mg X.base
  kind : X.env.scope.kind = .function
  glob : X.env.globals = mainGlobals
  blt : X.env.builtins = builtinsNs
  above : X.s₀.heap.objs.size ≤ X.env.locals
  inj : ∀ x y c, X.env.cells.lookup x = some c → X.env.cells.lookup y = some c → x = y
  has : ∀ x, (X.env.kindOf x = some .cell ∨ X.env.kindOf x = some .free) → ∃ c, X.env.cells.lookup x = some c
  cab : ∀ x c, X.fn x = true → X.env.cells.lookup x = some c → X.s₀.heap.objs.size ≤ c
  hd : X.calm = true → X.A.handled = none
  frames : X.A.frames = some X.stack
  stk : X.stack = X.outer ∨ (X.stack = X.env :: X.outer ∧ X.env.frame = some X.env.locals)
  exf : ∀ b ∈ X.ex, b ≠ X.env.locals ∧ ∀ x c, X.env.cells.lookup x = some c → c ≠ b
  bs : ∀ b o, X.base.get? b = some o → X.s₀.heap.get? b = some o ∧ X.H₀ b = none
  bsz : X.base.objs.size ≤ X.s₀.heap.objs.size
  noex : ∀ b o, X.base.get? b = some o → b ∉ X.ex
  exfs : ∀ b ∈ X.ex, b ∉ X.fs
  funs : X.s₀.heap.FunFrames X.base X.outer
  frf : ∀ b ∈ X.fs, X.H₀ b = none

structure Inv (X : Cx) (pins : List (Addr × Obj)) (σ : List (Option V)) (H : Hp) (s : Shared) : Prop where
  ok : X.Ok
  os : s.os = X.s₀.os
  bare : AllBare s.gens
  base : Un X.fs X.ex X.H₀ H X.s₀.heap s.heap
  loc : ∃ m, s.heap.Ns X.env.locals m ∧ ∀ (i : Nat) (x : Str) (v : V), X.N[i]? = some x → σ[i]? = some (some v) → Vis X.env.scope x → ∃ u, RelV v u ∧ Look X.env s.heap m x u
  cell : ∀ x c, X.env.cells.lookup x = some c → ∃ v, s.heap.IsCell c v
  free : H X.env.locals = none
  freeC : ∀ x c, X.env.cells.lookup x = some c → H c = none
  pin : ∀ p ∈ X.pn ++ pins, s.heap.get? p.1 = some p.2 ∧ H p.1 = none ∧ p.1 ≠ X.env.locals ∧ p.1 ∉ X.fs ∧ ∀ v, p.2.data ≠ .cell v
  hok : HOk X.prog X.w H s.heap
  len : σ.length = X.N.length

section
variable {X : Cx} {pins : List (Addr × Obj)} {σ : List (Option V)} {H H' : Hp} {s : Shared} {h' : Heap}

theorem Cx.Ok.nofr (ok : X.Ok) {b : Addr} {o : Obj} (e : X.base.get? b = some o) : b ∉ X.fs := fun hb => by
  have := (ok.funs.mem hb).1
  rw [e] at this; cases this
theorem Inv.bs (I : Inv X pins σ H s) : ∀ b o, X.base.get? b = some o → s.heap.get? b = some o ∧ H b = none := fun b o e =>
  ⟨I.base.keep b o (I.ok.bs b o e).1 (I.ok.bs b o e).2 (I.ok.nofr e) (I.ok.noex b o e), I.base.free b o (I.ok.bs b o e).1 (I.ok.bs b o e).2 (I.ok.noex b o e)⟩
theorem Inv.bk (I : Inv X pins σ H s) : ∀ b o, X.base.get? b = some o → s.heap.get? b = some o := fun b o e => (I.bs b o e).1
theorem Inv.mod (I : Inv X pins σ H s) : Mod X.K X.mg X.base := I.ok.mod
theorem Inv.kIn (I : Inv X pins σ H s) : X.K.In s.heap := I.ok.mod.kin.keeps I.bk
theorem Inv.nolimit (I : Inv X pins σ H s) : s.heap.NoLimit := I.ok.mod.nolimit.keeps I.bk
/-- the frame over the base: for OpenK's rules (K.In X.base is I.mod.kin) -/
theorem Inv.fr (I : Inv X pins σ H s) : ∃ m, Fr X.base X.env.locals s.heap m :=
  let ⟨m, hn, _⟩ := I.loc
  ⟨m, hn, I.bk, Nat.le_trans I.ok.bsz I.ok.above⟩
theorem Inv.lt (I : Inv X pins σ H s) : X.env.locals < s.heap.objs.size := let ⟨_, hn, _⟩ := I.loc; hn.lt
theorem Inv.sz (I : Inv X pins σ H s) : X.s₀.heap.objs.size ≤ s.heap.objs.size := Nat.le_trans I.ok.above (Nat.le_of_lt I.lt)
theorem Inv.nofs (I : Inv X pins σ H s) {a : Addr} (h : s.heap.objs.size ≤ a) : a ∉ X.fs := fun hb => by
  obtain ⟨_, o, ho, _⟩ := I.ok.funs.mem hb
  exact absurd (Nat.lt_of_lt_of_le (Heap.lt_size ho) (Nat.le_trans I.sz h)) (Nat.lt_irrefl _)
theorem Inv.cne (I : Inv X pins σ H s) : ∀ x c, X.env.cells.lookup x = some c → c ≠ X.env.locals := fun x c e z => by
  obtain ⟨v, o, ho, hd⟩ := I.cell x c e
  obtain ⟨m, ⟨o', es, ep, ho', hd', _⟩, _⟩ := I.loc
  rw [z, ho'] at ho; cases ho; rw [hd'] at hd; cases hd
theorem Inv.funs (I : Inv X pins σ H s) : s.heap.FunFrames X.base X.outer := by
  have all : ∀ (l : List Env), (∀ b ∈ frs l, b ∈ X.fs) → X.s₀.heap.FunFrames X.base l → s.heap.FunFrames X.base l := by
    intro l
    induction l with
    | nil => intro _ _; trivial
    | cons env r ih =>
      intro hs hl
      obtain ⟨hk, ⟨L, o, hf, hn, ho, hd⟩, hr⟩ := hl
      have hL : L ∈ X.fs := hs L (by unfold frs; rw [List.filterMap_cons, hf]; exact List.mem_cons_self)
      obtain ⟨sl, e⟩ := I.base.slot L o ho (I.ok.frf L hL) hL fun z => I.ok.exfs L z hL
      exact ⟨hk, ⟨L, _, hf, hn, e, hd⟩, ih (fun b hb => hs b (by unfold frs; rw [List.filterMap_cons, hf]; exact List.mem_cons_of_mem _ hb)) hr⟩
  exact all X.outer (fun _ hb => hb) I.ok.funs

/-- the frames that run, for a call -/
theorem Inv.stack (I : Inv X pins σ H s) : s.heap.FunFrames X.base X.stack := by
  rcases I.ok.stk with e | ⟨e, hf⟩
  · rw [e]; exact I.funs
  · rw [e]
    obtain ⟨m, hn, _⟩ := I.loc
    refine .cons (by rw [I.ok.kind]; decide) hf hn ?_ I.funs
    exact Heap.get?_none_of_le (Nat.le_trans I.ok.bsz I.ok.above)
theorem Inv.stkSub (I : Inv X pins σ H s) : ∀ b ∈ frs X.stack, b ∈ X.env.locals :: X.fs := fun b hb => by
  rcases I.ok.stk with e | ⟨e, hf⟩
  · rw [e] at hb; exact List.mem_cons_of_mem _ hb
  · rw [e] at hb
    unfold frs at hb
    rw [List.filterMap_cons, hf] at hb
    exact hb
theorem Inv.stkFree (I : Inv X pins σ H s) : ∀ b ∈ frs X.stack, H b = none := fun b hb => by
  rcases List.mem_cons.mp (I.stkSub b hb) with e | hb
  · rw [e]; exact I.free
  · obtain ⟨_, o, ho, _⟩ := I.ok.funs.mem hb
    exact I.base.free b o ho (I.ok.frf b hb) fun z => I.ok.exfs b z hb

/-- THE STEP: the untracked objects but the frame and the records at ch are kept (the callers' frames up to slots), the frame's map is kept, the new abstract heap is held -/
theorem Inv.step {g' : Array GenState} {t' : Nat} {d' : Drawn} {ch : List Addr} (I : Inv X pins σ H s)
    (hch : ∀ b ∈ ch, (b ∈ X.ex ∨ X.s₀.heap.objs.size ≤ b) ∧ b ≠ X.env.locals ∧ (∀ x c, X.env.cells.lookup x = some c → c ≠ b) ∧ ∀ p ∈ X.pn ++ pins, p.1 ≠ b)
    (keep : ∀ b o, b ≠ X.env.locals → b ∉ X.fs → b ∉ ch → s.heap.get? b = some o → H b = none → h'.get? b = some o)
    (slot : ∀ b o, b ≠ X.env.locals → b ∈ X.fs → b ∉ ch → s.heap.get? b = some o → H b = none → ∃ sl, h'.get? b = some { o with slots := sl }) (free : ∀ b o, b ∉ ch → s.heap.get? b = some o → H b = none → H' b = none)
    (there : ∀ b o, b ∉ ch → s.heap.get? b = some o → ∃ o', h'.get? b = some o')
    (tups : ∀ b xs, H b = some (.tup xs) → H' b = some (.tup xs)) (frzs : ∀ b o u, H b = some (.frz o u) → H' b = some (.frz o u)) (tbls : ∀ b ps, H b = some (.tbl ps) → ∃ more, H' b = some (.tbl (ps ++ more)))
    (ns : ∀ m, s.heap.Ns X.env.locals m → h'.Ns X.env.locals m) (hok : HOk X.prog X.w H' h') (hg : AllBare g') :
    Inv X pins σ H' { s with heap := h', gens := g', drawn := d', toks := t' } := by
  have neL : ∀ b o, X.s₀.heap.get? b = some o → b ≠ X.env.locals := fun b o e => Nat.ne_of_lt (Nat.lt_of_lt_of_le (Heap.lt_size e) I.ok.above)
  have neC : ∀ b o, X.s₀.heap.get? b = some o → b ∉ X.ex → b ∉ ch := fun b o e hx hb => by
    rcases (hch b hb).1 with z | z
    · exact hx z
    · exact absurd (Nat.lt_of_lt_of_le (Heap.lt_size e) z) (Nat.lt_irrefl _)
  have cellK : ∀ x c, X.env.cells.lookup x = some c → ∀ v, s.heap.IsCell c v → h'.IsCell c v := fun x c e v ⟨o, ho, hd⟩ => by
    have nch : c ∉ ch := fun z => (hch c z).2.2.1 x c e rfl
    by_cases hc : c ∈ X.fs
    · obtain ⟨sl, q⟩ := slot c o (I.cne x c e) hc nch ho (I.freeC x c e)
      exact ⟨_, q, hd⟩
    · exact ⟨o, keep c o (I.cne x c e) hc nch ho (I.freeC x c e), hd⟩
  refine ⟨I.ok, I.os, hg, ⟨fun b o e n hb hx => ?_, fun b o e n hb hx => ?_, fun b o e n hx => ?_, fun b o e hx => ?_, fun b xs e => tups b xs (I.base.tups b xs e), fun b o xs e => frzs b o xs (I.base.frzs b o xs e), fun b ps e => ?_⟩, ?_, fun x c e => ?_, ?_, fun x c e => ?_, fun p hp => ?_, hok, I.len⟩
  · exact keep b o (neL b o e) hb (neC b o e hx) (I.base.keep b o e n hb hx) (I.base.free b o e n hx)
  · obtain ⟨sl, e1⟩ := I.base.slot b o e n hb hx
    obtain ⟨sl', e2⟩ := slot b _ (neL b o e) hb (neC b o e hx) e1 (I.base.free b o e n hx)
    exact ⟨sl', e2⟩
  · obtain ⟨o', e1⟩ := I.base.there b o e hx
    exact free b o' (neC b o e hx) e1 (I.base.free b o e n hx)
  · obtain ⟨o', e1⟩ := I.base.there b o e hx
    exact there b o' (neC b o e hx) e1
  · obtain ⟨m1, e1⟩ := I.base.tbls b ps e
    obtain ⟨m2, e2⟩ := tbls b _ e1
    exact ⟨m1 ++ m2, by rw [e2, Array.append_assoc]⟩
  · obtain ⟨m, hn, hl⟩ := I.loc
    refine ⟨m, ns m hn, fun i x v e1 e2 e3 => ?_⟩
    obtain ⟨u, r, l⟩ := hl i x v e1 e2 e3
    refine ⟨u, r, ?_⟩
    rcases l with l | ⟨k, c, e, z⟩
    · exact .inl l
    · exact .inr ⟨k, c, e, cellK x c e _ z⟩
  · obtain ⟨v, z⟩ := I.cell x c e
    exact ⟨v, cellK x c e v z⟩
  · obtain ⟨m, ⟨o, _, _, ho, _⟩, _⟩ := I.loc
    exact free _ o (fun z => (hch _ z).2.1 rfl) ho I.free
  · obtain ⟨v, o, ho, hd⟩ := I.cell x c e
    exact free c o (fun z => (hch c z).2.2.1 x c e rfl) ho (I.freeC x c e)
  · obtain ⟨e, n, ne, nf, d⟩ := I.pin p hp
    have nch : p.1 ∉ ch := fun z => (hch p.1 z).2.2.2 p hp rfl
    exact ⟨keep p.1 p.2 ne nf nch e n, free p.1 p.2 nch e n, ne, nf, d⟩
/-- .. where the frame's own object is kept too -/
theorem Inv.un {t' : Nat} (I : Inv X pins σ H s) (u : Un X.fs [] H H' s.heap h') (hok : HOk X.prog X.w H' h') : Inv X pins σ H' { s with heap := h', toks := t' } := by
  obtain ⟨m, ⟨o, es, ep, ho, r⟩, _⟩ := id I.loc
  obtain ⟨sl, hL⟩ := u.any ho I.free (by simp)
  exact I.step (g' := s.gens) (d' := s.drawn) (ch := []) (fun _ z => nomatch z) (fun b o _ hb _ e n => u.keep b o e n hb (by simp)) (fun b o _ hb _ e n => u.slot b o e n hb (by simp)) (fun b o _ e n => u.free b o e n (by simp)) (fun b o _ e => u.there b o e (by simp)) u.tups u.frzs u.tbls (fun m' hm => by
    obtain ⟨o', es', ep', ho', r'⟩ := hm
    rw [ho] at ho'; cases ho'
    exact ⟨_, es', ep', hL, r'⟩) hok I.bare
/-- behind a call (or a comprehension's block): the slots of this frame may have changed too, the records at ch may have turned -/
theorem Inv.call {g' : Array GenState} {t' : Nat} {d' : Drawn} {ch : List Addr} (I : Inv X pins σ H s) (u : Un (frs X.stack) ch H H' s.heap h') (hok : HOk X.prog X.w H' h') (hg : AllBare g')
    (hch : ∀ b ∈ ch, (b ∈ X.ex ∨ X.s₀.heap.objs.size ≤ b) ∧ b ≠ X.env.locals ∧ (∀ x c, X.env.cells.lookup x = some c → c ≠ b) ∧ ∀ p ∈ X.pn ++ pins, p.1 ≠ b) :
    Inv X pins σ H' { s with heap := h', gens := g', drawn := d', toks := t' } := by
  obtain ⟨m, ⟨o, es, ep, ho, r⟩, _⟩ := id I.loc
  obtain ⟨sl, hL⟩ := u.any ho I.free fun z => (hch _ z).2.1 rfl
  exact I.step (ch := ch) hch (fun b o hL hb hc e n => u.keep b o e n (fun z => (List.mem_cons.mp (I.stkSub b z)).elim hL hb) hc) (fun b o _ _ hc e n => u.any e n hc) (fun b o hc e n => u.free b o e n hc) (fun b o hc e => u.there b o e hc) u.tups u.frzs u.tbls (fun m' hm => by
    obtain ⟨o', es', ep', ho', r'⟩ := hm
    rw [ho] at ho'; cases ho'
    exact ⟨_, es', ep', hL, r'⟩) hok hg
/-- an untracked record of ours (an iterator) has turned -/
theorem Inv.turned {t' : Nat} {it : Addr} (I : Inv X pins σ H s) (k : ∀ b o, b ≠ it → s.heap.get? b = some o → h'.get? b = some o) (hn : H it = none) (hL : it ≠ X.env.locals)
    (h1 : it ∈ X.ex ∨ X.s₀.heap.objs.size ≤ it) (h2 : ∀ x c, X.env.cells.lookup x = some c → c ≠ it) (h3 : ∀ p ∈ X.pn ++ pins, p.1 ≠ it) : Inv X pins σ H { s with heap := h', toks := t' } := by
  have nit : ∀ b u, H b = some u → b ≠ it := fun b u e z => by rw [z, hn] at e; cases e
  refine I.step (g' := s.gens) (d' := s.drawn) (ch := [it]) (fun b hb => ?_) (fun b o _ _ hc e _ => k b o (fun z => hc (by simp [z])) e) (fun b o _ _ hc e _ => ⟨o.slots, k b o (fun z => hc (by simp [z])) e⟩) (fun _ _ _ _ n => n)
    (fun b o hc e => ⟨o, k b o (fun z => hc (by simp [z])) e⟩) (fun _ _ e => e) (fun _ _ _ e => e) (fun b ps e => ⟨#[], by rw [e]; simp⟩) (fun m hm => ?_) (fun b u e => ?_) I.bare
  · have e : b = it := by simpa using hb
    subst e
    exact ⟨h1, hL, h2, h3⟩
  · obtain ⟨o, es, ep, ho, r⟩ := hm
    exact ⟨o, es, ep, k _ o (Ne.symm hL) ho, r⟩
  · refine (I.hok b u e).stay (fun c v hc q => k c v ?_ q) (fun _ q => q) fun _ _ q => q
    rcases hc with z | z
    · rw [z]; exact nit b u e
    · exact nit c _ z
theorem Inv.tok (I : Inv X pins σ H s) (t : Nat) : Inv X pins σ H { s with toks := t } := I.un (h' := s.heap) (t' := t) Un.refl I.hok
/-- all objects kept -/
theorem Inv.kept {t' : Nat} (I : Inv X pins σ H s) (k : ∀ b u, s.heap.get? b = some u → h'.get? b = some u) : Inv X pins σ H { s with heap := h', toks := t' } := I.un (Un.kept k) (I.hok.kept k)
/-- a new object laid and tracked -/
theorem Inv.laid {a : Addr} {o : HO} {t' : Nat} (I : Inv X pins σ H s) (k : ∀ b u, s.heap.get? b = some u → h'.get? b = some u) (hp : s.heap.objs.size ≤ a) (new : ObjOk X.prog X.w (upd H a o) h' a o) :
    Inv X pins σ (upd H a o) { s with heap := h', toks := t' } := I.un (Un.laid k hp (I.hok.fresh hp)) (I.hok.laid k hp new)
/-- an object written -/
theorem Inv.write {x e : Addr} {o : HO} {t' : Nat} (I : Inv X pins σ H s) (mu : Mut (H x)) (he : e = x ∨ H e = some (.own x)) (k : ∀ b u, b ≠ e → s.heap.get? b = some u → h'.get? b = some u) (heo : ∃ u, h'.get? e = some u)
    (new : ObjOk X.prog X.w (upd H x o) h' x o) : Inv X pins σ (upd H x o) { s with heap := h', toks := t' } := I.un (Un.write mu he k heo) (I.hok.write mu he k heo new)
/-- forgetting slots, pins -/
theorem Inv.weak {σ' : List (Option V)} (I : Inv X pins σ H s) (hl : σ'.length = σ.length) (w : ∀ (i : Nat) v, σ'[i]? = some (some v) → σ[i]? = some (some v)) : Inv X pins σ' H s :=
  ⟨I.ok, I.os, I.bare, I.base, let ⟨m, hn, hl'⟩ := I.loc; ⟨m, hn, fun i x v e1 e2 e3 => hl' i x v e1 (w i v e2) e3⟩, I.cell, I.free, I.freeC, I.pin, I.hok, hl.trans I.len⟩
theorem Inv.pins_of {pins' : List (Addr × Obj)} (I : Inv X pins σ H s) (h : ∀ p ∈ pins', s.heap.get? p.1 = some p.2 ∧ H p.1 = none ∧ p.1 ≠ X.env.locals ∧ p.1 ∉ X.fs ∧ ∀ v, p.2.data ≠ .cell v) : Inv X pins' σ H s :=
  ⟨I.ok, I.os, I.bare, I.base, I.loc, I.cell, I.free, I.freeC, fun p hp => (List.mem_append.mp hp).elim (fun z => I.pin p (List.mem_append_left _ z)) (h p), I.hok, I.len⟩

theorem nodup_ix {N : List Str} (hN : N.Nodup) {i j : Nat} {x : Str} (a : N[i]? = some x) (b : N[j]? = some x) : i = j := by
  obtain ⟨h1, e1⟩ := List.getElem?_eq_some_iff.mp a
  obtain ⟨h2, e2⟩ := List.getElem?_eq_some_iff.mp b
  exact (List.getElem_inj hN).mp (e1.trans e2.symm)

/-- a name is stored; what changed -/
theorem store_ok2 {M : Model} {A : Around} {E : Value → Shared → Prop} {i : Nat} {x : Str} {v : V} {u : Value} {Q : Unit → Shared → Prop} (I : Inv X pins σ H s) (hN : X.N.Nodup) (hi : X.N[i]? = some x) (hx : Loc X.env.scope x) (r : RelV v u)
    (h : ∀ s', Inv X pins (σ.set i (some v)) H s' → (∃ a, Heap.SameBut a s.heap s'.heap ∧ (a = X.env.locals ∨ X.env.cells.lookup x = some a)) → Q () s') (hf : X.fn x = true ∨ X.env.scope.names.lookup x = some .local := by first | exact .inl rfl | exact .inr rfl | assumption) : wpAny M A (storeName X.env x u) Q E s := by
  obtain ⟨m, hn, hl⟩ := id I.loc
  have hcls : (X.env.scope.kind == .class || (X.env.scope.kind == .module && X.env.locals != X.env.globals)) = false := by rw [I.ok.kind]; rfl
  have hiσ : i < σ.length := by rw [I.len]; exact (List.getElem?_eq_some_iff.mp hi).1
  have cne := I.cne
  have tracked : ∀ {a : Addr} {h' : Heap}, (∃ o, s.heap.get? a = some o ∧ H a = none) → Heap.SameBut a s.heap h' → HOk X.prog X.w H h' := fun {a h'} ha hs b ob e => by
    obtain ⟨_, _, hfree⟩ := ha
    refine (I.hok b ob e).stay (fun c w' hc q => (hs.2 c ?_).trans q) (fun _ q => q) fun _ _ q => q
    rintro rfl
    rcases hc with rfl | hc
    · rw [hfree] at e; cases e
    · rw [hfree] at hc; cases hc
  rcases hx with hk | hk
  · refine wpAny_storeName_local hk hn (fun h' hn' hs => ?_) hcls
    obtain ⟨oL, _, _, hoL, _⟩ := id hn
    refine h _ ⟨I.ok, I.os, I.bare, ⟨fun b o e n hb hx => ?_, fun b o e n hb hx => ?_, I.base.free, fun b o e hx => ?_, I.base.tups, I.base.frzs, I.base.tbls⟩, ⟨_, hn', fun j y v' e1 e2 e3 => ?_⟩, fun y c e => ?_, I.free, I.freeC, fun p hp => ?_, tracked ⟨oL, hoL, I.free⟩ hs, by simpa using I.len⟩ ⟨_, hs, .inl rfl⟩
    · exact (hs.2 b (Nat.ne_of_lt (Nat.lt_of_lt_of_le (Heap.lt_size e) I.ok.above))).trans (I.base.keep b o e n hb hx)
    · obtain ⟨sl, e1⟩ := I.base.slot b o e n hb hx
      exact ⟨sl, (hs.2 b (Nat.ne_of_lt (Nat.lt_of_lt_of_le (Heap.lt_size e) I.ok.above))).trans e1⟩
    · obtain ⟨o', e1⟩ := I.base.there b o e hx
      exact ⟨o', (hs.2 b (Nat.ne_of_lt (Nat.lt_of_lt_of_le (Heap.lt_size e) I.ok.above))).trans e1⟩
    · by_cases hj : j = i
      · subst hj
        rw [hi] at e1; cases e1
        rw [List.getElem?_set_self hiσ] at e2
        cases e2
        exact ⟨u, r, .inl ⟨hk, by simp⟩⟩
      · rw [List.getElem?_set_ne (Ne.symm hj)] at e2
        obtain ⟨u', r', q⟩ := hl j y v' e1 e2 e3
        refine ⟨u', r', ?_⟩
        rcases q with ⟨k, e⟩ | ⟨k, c, e, z⟩
        · refine .inl ⟨k, ?_⟩
          have : y ≠ x := fun e => hj (nodup_ix hN e1 (e ▸ hi))
          simp [this, e]
        · exact .inr ⟨k, c, e, z.sameBut hs (cne y c e)⟩
    · obtain ⟨w', z⟩ := I.cell y c e
      exact ⟨w', z.sameBut hs (cne y c e)⟩
    · obtain ⟨e, n, ne, nf, d⟩ := I.pin p hp
      exact ⟨(hs.2 p.1 ne).trans e, n, ne, nf, d⟩
  · have hfn : X.fn x = true := by
      rcases hf with z | z
      · exact z
      · rw [z] at hk; cases hk
    obtain ⟨c, hc⟩ := I.ok.has x (.inl hk)
    obtain ⟨w', z⟩ := I.cell x c hc
    refine wpAny_storeName_cell I.ok.kind hk hc z (fun h' hc' hs => ?_)
    obtain ⟨oc, hoc, hocd⟩ := id z
    refine h { s with heap := h' } ⟨I.ok, I.os, I.bare, ⟨fun b o e n hb hx => ?_, fun b o e n hb hx => ?_, I.base.free, fun b o e hx => ?_, I.base.tups, I.base.frzs, I.base.tbls⟩, ⟨m, hn.sameBut hs (Ne.symm (cne x c hc)), fun j y v' e1 e2 e3 => ?_⟩, fun y c' e => ?_, I.free, I.freeC, fun p hp => ?_, tracked ⟨oc, hoc, I.freeC x c hc⟩ hs, by simpa using I.len⟩ ⟨c, hs, .inr hc⟩
    · exact (hs.2 b (Nat.ne_of_lt (Nat.lt_of_lt_of_le (Heap.lt_size e) (I.ok.cab x c hfn hc)))).trans (I.base.keep b o e n hb hx)
    · obtain ⟨sl, e1⟩ := I.base.slot b o e n hb hx
      exact ⟨sl, (hs.2 b (Nat.ne_of_lt (Nat.lt_of_lt_of_le (Heap.lt_size e) (I.ok.cab x c hfn hc)))).trans e1⟩
    · obtain ⟨o', e1⟩ := I.base.there b o e hx
      exact ⟨o', (hs.2 b (Nat.ne_of_lt (Nat.lt_of_lt_of_le (Heap.lt_size e) (I.ok.cab x c hfn hc)))).trans e1⟩
    · by_cases hj : j = i
      · subst hj
        rw [hi] at e1; cases e1
        rw [List.getElem?_set_self hiσ] at e2
        cases e2
        exact ⟨u, r, .inr ⟨.inl hk, c, hc, hc'⟩⟩
      · rw [List.getElem?_set_ne (Ne.symm hj)] at e2
        obtain ⟨u', r', q⟩ := hl j y v' e1 e2 e3
        refine ⟨u', r', ?_⟩
        rcases q with q | ⟨k, c', e, z'⟩
        · exact .inl q
        · refine .inr ⟨k, c', e, z'.sameBut hs ?_⟩
          rintro rfl
          exact hj (nodup_ix hN e1 (I.ok.inj _ _ _ e hc ▸ hi))
    · by_cases hcc : c' = c
      · subst hcc; exact ⟨_, hc'⟩
      · obtain ⟨w2, z2⟩ := I.cell y c' e
        exact ⟨w2, z2.sameBut hs hcc⟩
    · obtain ⟨e, n, ne, nf, d⟩ := I.pin p hp
      refine ⟨(hs.2 p.1 ?_).trans e, n, ne, nf, d⟩
      intro q
      rw [q, hoc] at e
      have q' : oc = p.2 := Option.some.inj e
      exact d w' (by rw [← q']; exact hocd)
theorem store_ok {M : Model} {A : Around} {E : Value → Shared → Prop} {i : Nat} {x : Str} {v : V} {u : Value} {Q : Unit → Shared → Prop} (I : Inv X pins σ H s) (hN : X.N.Nodup) (hi : X.N[i]? = some x) (hx : Loc X.env.scope x) (r : RelV v u)
    (h : ∀ s', Inv X pins (σ.set i (some v)) H s' → Q () s') (hf : X.fn x = true ∨ X.env.scope.names.lookup x = some .local := by first | exact .inl rfl | exact .inr rfl | assumption) : wpAny M A (storeName X.env x u) Q E s :=
  store_ok2 I hN hi hx r (fun s' I' _ => h s' I') hf
/-- behind a call or a block, the state as it is -/
theorem Inv.call' {s' : Shared} {ch : List Addr} (I : Inv X pins σ H s) (ho : s'.os = s.os) (u : Un (frs X.stack) ch H H' s.heap s'.heap) (hok : HOk X.prog X.w H' s'.heap) (hg : AllBare s'.gens)
    (hch : ∀ b ∈ ch, (b ∈ X.ex ∨ X.s₀.heap.objs.size ≤ b) ∧ b ≠ X.env.locals ∧ (∀ x c, X.env.cells.lookup x = some c → c ≠ b) ∧ ∀ p ∈ X.pn ++ pins, p.1 ≠ b) : Inv X pins σ H' s' := by
  obtain ⟨h', g', d', t', o'⟩ := s'
  have e : o' = s.os := ho
  subst e
  exact I.call (g' := g') (t' := t') (d' := d') u hok hg hch
end

/-! ### the judgements -/
/-- an exception: its class, its own dict's address (where it has one), the abstract heap behind it -/
abbrev XK := Value → Option Addr → Hp → Prop
abbrev St := List (Option V)
abbrev VK := V → Hp → Prop
/-- an expression's reading; a test's; an argument list's -/
abbrev TE := St → Hp → VK → Prop
abbrev TT := St → Hp → (Bool → Hp → Prop) → Prop
abbrev TA := St → Hp → (List V → Hp → Prop) → Prop
/-- what is wanted behind a statement -/
structure Ends where
  nx : St → Hp → Prop
  rt : VK
  bk : St → Hp → Prop := fun _ _ => False
  ct : St → Hp → Prop := fun _ _ => False
abbrev TS := Ends → St → Hp → Prop

def EP (X : Cx) (pins : List (Addr × Obj)) (σ : St) (Q : VK) (u : Value) (s' : Shared) : Prop := ∃ v H', Inv X pins σ H' s' ∧ RelV v u ∧ Q v H'
def TP (X : Cx) (pins : List (Addr × Obj)) (σ : St) (Q : Bool → Hp → Prop) (b : Bool) (s' : Shared) : Prop := ∃ H', Inv X pins σ H' s' ∧ Q b H'
def AP (X : Cx) (pins : List (Addr × Obj)) (σ : St) (Q : List V → Hp → Prop) (us : List Value) (s' : Shared) : Prop := ∃ vs H', Inv X pins σ H' s' ∧ Vals vs us ∧ Q vs H'
def SP (X : Cx) (pins : List (Addr × Obj)) (D : Ends) (f : Flow) (s' : Shared) : Prop :=
  match f with
  | .next => ∃ σ' H', Inv X pins σ' H' s' ∧ D.nx σ' H'
  | .brk => ∃ σ' H', Inv X pins σ' H' s' ∧ D.bk σ' H'
  | .cont => ∃ σ' H', Inv X pins σ' H' s' ∧ D.ct σ' H'
  | .ret u => ∃ v σ' H', Inv X pins σ' H' s' ∧ RelV v u ∧ D.rt v H'

structure PE (X : Cx) (e : Expr) (t : TE) : Prop where
  run : ∀ (pins : List (Addr × Obj)) (s : Shared) (σ : St) (H : Hp) (Q : VK), Inv X pins σ H s → t σ H Q → wpAny (model X.prog X.w) X.A (eval e X.env) (EP X pins σ Q) X.xe s
instance {X : Cx} {e : Expr} {t : TE} : CoeFun (PE X e t) fun _ => ∀ (pins : List (Addr × Obj)) (s : Shared) (σ : St) (H : Hp) (Q : VK), Inv X pins σ H s → t σ H Q → wpAny (model X.prog X.w) X.A (eval e X.env) (EP X pins σ Q) X.xe s := ⟨PE.run⟩
structure PT (X : Cx) (e : Expr) (t : TT) : Prop where
  run : ∀ (pins : List (Addr × Obj)) (s : Shared) (σ : St) (H : Hp) (Q : Bool → Hp → Prop), Inv X pins σ H s → t σ H Q → wpAny (model X.prog X.w) X.A (isTrue e X.env (eval e X.env)) (TP X pins σ Q) X.xe s
instance {X : Cx} {e : Expr} {t : TT} : CoeFun (PT X e t) fun _ => ∀ (pins : List (Addr × Obj)) (s : Shared) (σ : St) (H : Hp) (Q : Bool → Hp → Prop), Inv X pins σ H s → t σ H Q → wpAny (model X.prog X.w) X.A (isTrue e X.env (eval e X.env)) (TP X pins σ Q) X.xe s := ⟨PT.run⟩
/-- a test whatever its 'whole' is (and, or) -/
structure PW (X : Cx) (e : Expr) (t : TT) : Prop where
  run : ∀ (whole : Sem Value) (pins : List (Addr × Obj)) (s : Shared) (σ : St) (H : Hp) (Q : Bool → Hp → Prop), Inv X pins σ H s → t σ H Q → wpAny (model X.prog X.w) X.A (isTrue e X.env whole) (TP X pins σ Q) X.xe s
instance {X : Cx} {e : Expr} {t : TT} : CoeFun (PW X e t) fun _ => ∀ (whole : Sem Value) (pins : List (Addr × Obj)) (s : Shared) (σ : St) (H : Hp) (Q : Bool → Hp → Prop), Inv X pins σ H s → t σ H Q → wpAny (model X.prog X.w) X.A (isTrue e X.env whole) (TP X pins σ Q) X.xe s := ⟨PW.run⟩
theorem PW.pt {X : Cx} {e : Expr} {t : TT} (h : PW X e t) : PT X e t := ⟨h.run _⟩
/-- an argument list (no star), from the left -/
structure PA (X : Cx) (es : List Expr) (t : TA) : Prop where
  run : ∀ (pos : Pos) (pins : List (Addr × Obj)) (s : Shared) (σ : St) (H : Hp) (Q : List V → Hp → Prop), Inv X pins σ H s → t σ H Q → wpAny (model X.prog X.w) X.A (spliced (backTo pos (starEach es X.env))) (AP X pins σ Q) X.xe s
instance {X : Cx} {es : List Expr} {t : TA} : CoeFun (PA X es t) fun _ => ∀ (pos : Pos) (pins : List (Addr × Obj)) (s : Shared) (σ : St) (H : Hp) (Q : List V → Hp → Prop), Inv X pins σ H s → t σ H Q → wpAny (model X.prog X.w) X.A (spliced (backTo pos (starEach es X.env))) (AP X pins σ Q) X.xe s := ⟨PA.run⟩
structure PS (X : Cx) (st : Stmt) (t : TS) : Prop where
  run : ∀ (pins : List (Addr × Obj)) (s : Shared) (σ : St) (H : Hp) (D : Ends), Inv X pins σ H s → t D σ H → wpAny (model X.prog X.w) X.A (exec st X.env) (SP X pins D) X.xe s
instance {X : Cx} {st : Stmt} {t : TS} : CoeFun (PS X st t) fun _ => ∀ (pins : List (Addr × Obj)) (s : Shared) (σ : St) (H : Hp) (D : Ends), Inv X pins σ H s → t D σ H → wpAny (model X.prog X.w) X.A (exec st X.env) (SP X pins D) X.xe s := ⟨PS.run⟩
structure PSs (X : Cx) (st : List Stmt) (t : TS) : Prop where
  run : ∀ (pins : List (Addr × Obj)) (s : Shared) (σ : St) (H : Hp) (D : Ends), Inv X pins σ H s → t D σ H → wpAny (model X.prog X.w) X.A (execs st X.env) (SP X pins D) X.xe s
instance {X : Cx} {st : List Stmt} {t : TS} : CoeFun (PSs X st t) fun _ => ∀ (pins : List (Addr × Obj)) (s : Shared) (σ : St) (H : Hp) (D : Ends), Inv X pins σ H s → t D σ H → wpAny (model X.prog X.w) X.A (execs st X.env) (SP X pins D) X.xe s := ⟨PSs.run⟩
/-- weaken the end -/
theorem thn {α : Type} {t : Sem α} {Q Q' : α → Shared → Prop} {M : Model} {A : Around} {E : Value → Shared → Prop} {s : Shared} (h : wpAny M A t Q E s) (hQ : ∀ a s, Q a s → Q' a s) : wpAny M A t Q' E s := wpAny_mono h hQ fun _ _ x => x
end L2

namespace L2
open PySem PySem.Spec PyProof.Rows
section
variable {X : Cx}

/-- two expressions in a row -/
theorem bin {a b : Expr} {ta tb : TE} (ha : PE X a ta) (hb : PE X b tb) {pins : List (Addr × Obj)} {s : Shared} {σ : St} {H : Hp} {R : V → V → Hp → Prop} (I : Inv X pins σ H s) (h : ta σ H fun x H1 => tb σ H1 fun y H2 => R x y H2)
    {α : Type} {Q : α → Shared → Prop} {f : Value → Value → Sem α}
    (hf : ∀ v u s2 x y H2, Inv X pins σ H2 s2 → RelV x v → RelV y u → R x y H2 → wpAny (model X.prog X.w) X.A (f v u) Q X.xe s2) :
    wpAny (model X.prog X.w) X.A (eval a X.env) (fun v s₁ => wpAny (model X.prog X.w) X.A (eval b X.env) (fun u s₂ => wpAny (model X.prog X.w) X.A (f v u) Q X.xe s₂) X.xe s₁) X.xe s := by
  refine thn (ha pins s σ H _ I h) fun v s1 ⟨x, H1, I1, r1, q1⟩ => ?_
  refine thn (hb pins s1 σ H1 _ I1 q1) fun u s2 ⟨y, H2, I2, r2, q2⟩ => ?_
  exact hf v u s2 x y H2 I2 r1 r2 q2

/-! ### names and constants -/
def tVar (i : Nat) : TE := fun σ H Q => ∃ v, σ[i]? = some (some v) ∧ Q v H
def tC (v : V) : TE := fun _ H Q => Q v H
theorem pe_var {i : Nat} {x : Str} {pos : Pos} (hN : X.N[i]? = some x) (hv : Vis X.env.scope x) (hd : (x == ("__debug__" : Str)) = false := by decide) (hcd : (x == ("__classdict__" : Str)) = false := by decide) : PE X (.Name x pos) (tVar i) := by
  refine .mk ?_
  intro pins s σ H Q I h
  obtain ⟨v, e, h⟩ := h
  obtain ⟨m, hn, hl⟩ := I.loc
  obtain ⟨u, r, l⟩ := hl i x v hN e hv
  have fin : EP X pins σ Q u s := ⟨v, H, I, r, h⟩
  rcases l with ⟨hk, hm⟩ | ⟨hk, c, hc, hcell⟩
  · exact wpAny_Name (wpAny_loadName_local I.ok.kind hk hn hm fin) hd
  · rcases hk with hk | hk
    · exact wpAny_Name (wpAny_loadName_cell I.ok.kind hk hc hcell fin) hd
    · exact wpAny_Name (wpAny_loadName_free I.ok.kind hk hc hcell fin hcd) hd
theorem pe_int {i j pos} : PE X (.Constant (.int i) j pos) (tC (.int i)) := .mk fun _ _ _ H _ I h => wpAny_Constant_int ⟨.int i, H, I.tok _, ⟨_, rfl⟩, h⟩
theorem pe_bl {b j pos} : PE X (.Constant (.bool b) j pos) (tC (.bl b)) := .mk fun _ _ _ H _ I h => Constant_bool ⟨.bl b, H, I, rfl, h⟩
theorem pe_non {j pos} : PE X (.Constant .none j pos) (tC .non) := .mk fun _ _ _ H _ I h => Constant_none ⟨.non, H, I, rfl, h⟩
theorem pe_str {x j pos} : PE X (.Constant (.str x) j pos) (tC (.str x)) := .mk fun _ _ _ H _ I h => Calls.Constant_str ⟨.str x, H, I.tok _, ⟨_, rfl⟩, h⟩

/-- a global name of the def -/
def Gl (X : Cx) (x : Str) : Prop := X.env.kindOf x = some .globalImplicit
theorem ld_glob {E : Value → Shared → Prop} {pins : List (Addr × Obj)} {s : Shared} {σ : St} {H : Hp} {x : Str} {u : Value} {pos : Pos} {Q : Value → Shared → Prop} (I : Inv X pins σ H s) (hg : Gl X x) (hm : X.mg x = some u) (h : Q u s)
    (hd : (x == ("__debug__" : Str)) = false := by decide) : wpAny (model X.prog X.w) X.A (eval (.Name x pos) X.env) Q E s :=
  Calls.Name_function_global I.ok.kind hg (Calls.loadGlobal_global (by rw [I.ok.glob]; exact I.mod.glob.keeps I.bk) hm h) hd
theorem ld_blt {E : Value → Shared → Prop} {pins : List (Addr × Obj)} {s : Shared} {σ : St} {H : Hp} {x : Str} {u : Value} {pos : Pos} {Q : Value → Shared → Prop} (I : Inv X pins σ H s) (hg : Gl X x) (hm : X.mg x = none) (hv : bootBuiltins x = some u) (h : Q u s)
    (hn : x ≠ "__name__" := by decide) (hd : (x == ("__debug__" : Str)) = false := by decide) : wpAny (model X.prog X.w) X.A (eval (.Name x pos) X.env) Q E s := by
  obtain ⟨mb, h1, h2⟩ := I.mod.blt
  exact Calls.Name_function_global I.ok.kind hg (Calls.loadGlobal_builtin (by rw [I.ok.glob]; exact I.mod.glob.keeps I.bk) hm (by rw [I.ok.blt]; exact h1.keeps I.bk) ((h2 x hn).trans hv) h) hd
/-- a module's constant, a class, a function, as a value -/
theorem pe_glob {x : Str} {v : V} {u : Value} {pos : Pos} (hg : Gl X x) (hm : X.mg x = some u) (r : RelV v u) (hd : (x == ("__debug__" : Str)) = false := by decide) : PE X (.Name x pos) (tC v) :=
  .mk fun _ _ _ H _ I h => ld_glob I hg hm ⟨v, H, I, r, h⟩ hd
theorem pe_bltn {x : Str} {v : V} {u : Value} {pos : Pos} (hg : Gl X x) (hm : X.mg x = none) (hv : bootBuiltins x = some u) (r : RelV v u) (hn : x ≠ "__name__" := by decide) (hd : (x == ("__debug__" : Str)) = false := by decide) : PE X (.Name x pos) (tC v) :=
  .mk fun _ _ _ H _ I h => ld_blt I hg hm hv ⟨v, H, I, r, h⟩ hn hd

/-! ### arithmetic -/
/-- two ints -/
def t2I (ta tb : TE) (k : Int → Int → Hp → Prop) : St → Hp → Prop := fun σ H => ta σ H fun x H1 => tb σ H1 fun y H2 => ∃ i j, x = .int i ∧ y = .int j ∧ k i j H2
def tAdd (ta tb : TE) : TE := fun σ H Q => t2I ta tb (fun i j H2 => Q (.int (i + j)) H2) σ H
def tSub (ta tb : TE) : TE := fun σ H Q => t2I ta tb (fun i j H2 => Q (.int (i - j)) H2) σ H
/-- the left factor below 2^64 -/
def tMul (ta tb : TE) : TE := fun σ H Q => t2I ta tb (fun i j H2 => (-(2 ^ 64) < i ∧ i < 2 ^ 64) ∧ Q (.int (i * j)) H2) σ H
variable {a b : Expr} {ta tb : TE} {pos : Pos}
theorem pe_add (ha : PE X a ta) (hb : PE X b tb) : PE X (.BinOp a .Add b pos) (tAdd ta tb) := by
  refine .mk ?_
  intro pins s σ H Q I h
  refine wpAny_BinOp (bin ha hb I h fun v u s2 x y H2 I2 rx ry q => ?_)
  obtain ⟨i, j, rfl, rfl, q⟩ := q
  obtain ⟨t, rfl⟩ := rx
  obtain ⟨t', rfl⟩ := ry
  exact add_int ⟨.int _, H2, I2.tok _, ⟨_, rfl⟩, q⟩
theorem pe_sub (ha : PE X a ta) (hb : PE X b tb) : PE X (.BinOp a .Sub b pos) (tSub ta tb) := by
  refine .mk ?_
  intro pins s σ H Q I h
  refine wpAny_BinOp (bin ha hb I h fun v u s2 x y H2 I2 rx ry q => ?_)
  obtain ⟨i, j, rfl, rfl, q⟩ := q
  obtain ⟨t, rfl⟩ := rx
  obtain ⟨t', rfl⟩ := ry
  exact sub_int ⟨.int _, H2, I2.tok _, ⟨_, rfl⟩, q⟩
theorem pe_mul (ha : PE X a ta) (hb : PE X b tb) : PE X (.BinOp a .Mult b pos) (tMul ta tb) := by
  refine .mk ?_
  intro pins s σ H Q I h
  refine wpAny_BinOp (bin ha hb I h fun v u s2 x y H2 I2 rx ry q => ?_)
  obtain ⟨i, j, rfl, rfl, ⟨q1, q2⟩, q⟩ := q
  obtain ⟨t, rfl⟩ := rx
  obtain ⟨t', rfl⟩ := ry
  exact mul_int ⟨.int _, H2, I2.tok _, ⟨_, rfl⟩, q⟩ (.of_left (intBits_le_64 q1 q2))

/-! ### comparisons -/
structure PC (X : Cx) (op : CmpOp) (a b : Expr) (t : TE) : Prop where
  run : ∀ (pins : List (Addr × Obj)) (s : Shared) (σ : St) (H : Hp) (Q : VK), Inv X pins σ H s → t σ H Q →
    wpAny (model X.prog X.w) X.A (eval a X.env) (fun v s₁ => wpAny (model X.prog X.w) X.A (eval b X.env) (fun u s₂ => wpAny (model X.prog X.w) X.A (compareOp op v u) (EP X pins σ Q) X.xe s₂) X.xe s₁) X.xe s
instance {X : Cx} {op : CmpOp} {a b : Expr} {t : TE} : CoeFun (PC X op a b t) fun _ => ∀ (pins : List (Addr × Obj)) (s : Shared) (σ : St) (H : Hp) (Q : VK), Inv X pins σ H s → t σ H Q → wpAny (model X.prog X.w) X.A (eval a X.env) (fun v s₁ => wpAny (model X.prog X.w) X.A (eval b X.env) (fun u s₂ => wpAny (model X.prog X.w) X.A (compareOp op v u) (EP X pins σ Q) X.xe s₂) X.xe s₁) X.xe s := ⟨PC.run⟩
theorem nobehind (b : Expr) {op : CmpOp} (h : op ≠ .In) (h2 : op ≠ .NotIn) : behindInMarks op b = false := by
  have e1 : (op == CmpOp.In) = false := by cases op <;> first | rfl | exact absurd rfl h
  have e2 : (op == CmpOp.NotIn) = false := by cases op <;> first | rfl | exact absurd rfl h2
  cases b <;> simp [behindInMarks, e1, e2]
def tCmp (p : Int → Int → Bool) (ta tb : TE) : TE := fun σ H Q => t2I ta tb (fun i j H2 => Q (.bl (p i j)) H2) σ H
abbrev tLt : TE → TE → TE := tCmp fun i j => decide (i < j)
abbrev tLe : TE → TE → TE := tCmp fun i j => decide (i ≤ j)
abbrev tGt : TE → TE → TE := tCmp fun i j => decide (j < i)
abbrev tGe : TE → TE → TE := tCmp fun i j => decide (j ≤ i)
abbrev tEqI : TE → TE → TE := tCmp fun i j => decide (i = j)
abbrev tNeI : TE → TE → TE := tCmp fun i j => !decide (i = j)
/-- a comparison of two ints, by its rule -/
theorem pc_int {op : CmpOp} {p : Int → Int → Bool} (ha : PE X a ta) (hb : PE X b tb)
    (rule : ∀ (i j : Int) (t u : Tok) (Q : Value → Shared → Prop) (s : Shared), Q (.bool (p i j)) s → wpAny (model X.prog X.w) X.A (compareOp op (.int i t) (.int j u)) Q X.xe s) : PC X op a b (tCmp p ta tb) := by
  refine .mk ?_
  intro pins s σ H Q I h
  refine bin ha hb I h fun v u s2 x y H2 I2 rx ry q => ?_
  obtain ⟨i, j, rfl, rfl, q⟩ := q
  obtain ⟨t, rfl⟩ := rx
  obtain ⟨t', rfl⟩ := ry
  exact rule i j t t' _ s2 ⟨.bl _, H2, I2, rfl, q⟩
theorem pc_lt (ha : PE X a ta) (hb : PE X b tb) : PC X .Lt a b (tLt ta tb) := pc_int ha hb fun _ _ _ _ _ _ h => lt_int h
theorem pc_le (ha : PE X a ta) (hb : PE X b tb) : PC X .LtE a b (tLe ta tb) := pc_int ha hb fun _ _ _ _ _ _ h => le_int h
theorem pc_gt (ha : PE X a ta) (hb : PE X b tb) : PC X .Gt a b (tGt ta tb) := pc_int ha hb fun _ _ _ _ _ _ h => gt_int h
theorem pc_ge (ha : PE X a ta) (hb : PE X b tb) : PC X .GtE a b (tGe ta tb) := pc_int ha hb fun _ _ _ _ _ _ h => ge_int h
theorem pc_eqI (ha : PE X a ta) (hb : PE X b tb) : PC X .Eq a b (tEqI ta tb) := pc_int ha hb fun _ _ _ _ _ _ h => eq_int (by rw [Bool.beq_eq_decide_eq]; exact h)
theorem pc_neI (ha : PE X a ta) (hb : PE X b tb) : PC X .NotEq a b (tNeI ta tb) := pc_int ha hb fun _ _ _ _ _ _ h => ne_int (by rw [bne, Bool.beq_eq_decide_eq]; exact h)
/-- is None -/
def tIsN (ta : TE) : TE := fun σ H Q => ta σ H fun x H1 => Q (.bl (decide (x = .non))) H1
def tNotN (ta : TE) : TE := fun σ H Q => ta σ H fun x H1 => Q (.bl (!decide (x = .non))) H1
theorem RelV.none_iff {x : V} {v : Value} (r : RelV x v) : (v == Value.none) = decide (x = .non) := by
  cases x with
  | non => cases r; rfl
  | bl _ => cases r; rfl
  | int _ => obtain ⟨t, rfl⟩ := r; rfl
  | str _ => obtain ⟨t, rfl⟩ := r; rfl
  | byt _ => obtain ⟨t, rfl⟩ := r; rfl
  | flt _ => obtain ⟨t, rfl⟩ := r; rfl
  | ref _ => cases r; rfl
  | ty _ => cases r; rfl
theorem pc_isN {j pos'} (ha : PE X a ta) : PC X .Is a (.Constant .none j pos') (tIsN ta) := by
  refine .mk ?_
  intro pins s σ H Q I h
  refine thn (ha pins s σ H _ I h) fun v s1 ⟨x, H1, I1, r1, q1⟩ => ?_
  exact Constant_none (is_none_gen ⟨.bl _, H1, I1, by rw [r1.none_iff]; rfl, q1⟩)
theorem pc_notN {j pos'} (ha : PE X a ta) : PC X .IsNot a (.Constant .none j pos') (tNotN ta) := by
  refine .mk ?_
  intro pins s σ H Q I h
  refine thn (ha pins s σ H _ I h) fun v s1 ⟨x, H1, I1, r1, q1⟩ => ?_
  exact Constant_none (isnot_none_gen ⟨.bl _, H1, I1, by rw [r1.none_iff]; rfl, q1⟩)
/-- a comparison as a value, as a test -/
def tB (t : TE) : TT := fun σ H Q => t σ H fun x H1 => ∃ c, x = .bl c ∧ Q c H1
theorem pe_cmp {op : CmpOp} {t : TE} (h : PC X op a b t) (h1 : behindInMarks op b = false := by first | exact nobehind _ (by decide) (by decide) | rfl) : PE X (.Compare a [op] [b] pos) t := .mk fun pins s σ H Q I hw => wpAny_Compare1 (h pins s σ H Q I hw) h1
theorem pt_cmp {op : CmpOp} {t : TE} (h : PC X op a b t) (h1 : behindInMarks op b = false := by first | exact nobehind _ (by decide) (by decide) | rfl) : PT X (.Compare a [op] [b] pos) (tB t) := by
  refine .mk ?_
  intro pins s σ H Q I hw
  refine wpAny_isTrue_Compare1 (thn (h pins s σ H _ I hw) fun v s1 h1 => thn h1 fun u s2 h2 => thn h2 fun c s3 ⟨x, H1, I1, r1, q1⟩ => ?_) h1
  obtain ⟨d, rfl, q⟩ := q1
  cases r1
  exact wpAny_truthy_bool ⟨H1, I1, q⟩
/-- an expression whose value is a bool, as a test -/
theorem pt_val {e : Expr} {t : TE} (h : PE X e t) (he : ∀ whole, isTrue e X.env whole = (do let v ← whole; standAt e.pos; holding [v] (truthy v)) := by intro _; rfl) : PT X e (tB t) := by
  refine .mk ?_
  intro pins s σ H Q I hw
  refine isTrue_plain (thn (h pins s σ H _ I hw) fun v s1 ⟨x, H1, I1, r1, q1⟩ => ?_) (he _)
  obtain ⟨d, rfl, q⟩ := q1
  cases r1
  exact wpAny_truthy_bool ⟨H1, I1, q⟩

/-! ### and, or, not -/
variable {tA tB' : TT} {rest : List Expr}
def tAnd (t u : TT) : TT := fun σ H Q => t σ H fun c H1 => if c = true then u σ H1 Q else Q false H1
def tOr (t u : TT) : TT := fun σ H Q => t σ H fun c H1 => if c = true then Q true H1 else u σ H1 Q
def tNot (t : TT) : TT := fun σ H Q => t σ H fun c H1 => Q (!c) H1
theorem pw_and1 (ha : PT X a tA) : PW X (.BoolOp .And [a] pos) tA := by
  refine .mk ?_
  intro wh pins s σ H Q I h
  refine isTrue_and (thn (ha pins s σ H Q I h) fun c s1 e => ?_)
  cases c with
  | true => exact isTrue_and_nil e
  | false => exact e
theorem pw_or1 (ha : PT X a tA) : PW X (.BoolOp .Or [a] pos) tA := by
  refine .mk ?_
  intro wh pins s σ H Q I h
  refine isTrue_or (thn (ha pins s σ H Q I h) fun c s1 e => ?_)
  cases c with
  | false => exact isTrue_or_nil e
  | true => exact e
theorem pw_and (ha : PT X a tA) (hb : PW X (.BoolOp .And (b :: rest) pos) tB') : PW X (.BoolOp .And (a :: b :: rest) pos) (tAnd tA tB') := by
  refine .mk ?_
  intro wh pins s σ H Q I h
  refine isTrue_and (thn (ha pins s σ H _ I h) fun c s1 ⟨H1, I1, q1⟩ => ?_)
  cases c with
  | true => exact hb wh pins s1 σ H1 Q I1 q1
  | false => exact ⟨H1, I1, q1⟩
theorem pw_or (ha : PT X a tA) (hb : PW X (.BoolOp .Or (b :: rest) pos) tB') : PW X (.BoolOp .Or (a :: b :: rest) pos) (tOr tA tB') := by
  refine .mk ?_
  intro wh pins s σ H Q I h
  refine isTrue_or (thn (ha pins s σ H _ I h) fun c s1 ⟨H1, I1, q1⟩ => ?_)
  cases c with
  | true => exact ⟨H1, I1, q1⟩
  | false => exact hb wh pins s1 σ H1 Q I1 q1
theorem pt_not (ha : PT X a tA) : PT X (.UnaryOp .Not a pos) (tNot tA) := by
  refine .mk ?_
  intro pins s σ H Q I h
  exact isTrue_not (ha pins s σ H (fun c H1 => Q (!c) H1) I h)
/-- .. as values (bools) -/
def tAndV (ta tb : TE) : TE := fun σ H Q => ta σ H fun x H1 => ∃ c, x = .bl c ∧ if c = true then tb σ H1 Q else Q (.bl false) H1
def tOrV (ta tb : TE) : TE := fun σ H Q => ta σ H fun x H1 => ∃ c, x = .bl c ∧ if c = true then Q (.bl true) H1 else tb σ H1 Q
def tNotV (ta : TE) : TE := fun σ H Q => ta σ H fun x H1 => ∃ c, x = .bl c ∧ Q (.bl (!c)) H1
theorem pe_one {op} {t : TE} (h : PE X a t) : PE X (.BoolOp op [a] pos) t := .mk fun pins s σ H Q I hw => BoolOp_one (h pins s σ H Q I hw)
theorem pe_and (ha : PE X a ta) (hb : PE X (.BoolOp .And (b :: rest) pos) tb) : PE X (.BoolOp .And (a :: b :: rest) pos) (tAndV ta tb) := by
  refine .mk ?_
  intro pins s σ H Q I h
  refine BoolOp_and (thn (ha pins s σ H _ I h) fun v s1 ⟨x, H1, I1, r1, q1⟩ => ?_)
  obtain ⟨c, rfl, q1⟩ := q1
  cases r1
  refine wpAny_truthy_bool ?_
  cases c with
  | true => exact hb pins s1 σ H1 Q I1 q1
  | false => exact ⟨.bl false, H1, I1, rfl, q1⟩
theorem pe_or (ha : PE X a ta) (hb : PE X (.BoolOp .Or (b :: rest) pos) tb) : PE X (.BoolOp .Or (a :: b :: rest) pos) (tOrV ta tb) := by
  refine .mk ?_
  intro pins s σ H Q I h
  refine BoolOp_or (thn (ha pins s σ H _ I h) fun v s1 ⟨x, H1, I1, r1, q1⟩ => ?_)
  obtain ⟨c, rfl, q1⟩ := q1
  cases r1
  refine wpAny_truthy_bool ?_
  cases c with
  | false => exact hb pins s1 σ H1 Q I1 q1
  | true => exact ⟨.bl true, H1, I1, rfl, q1⟩
theorem pe_not (ha : PE X a ta) : PE X (.UnaryOp .Not a pos) (tNotV ta) := by
  refine .mk ?_
  intro pins s σ H Q I h
  refine UnaryOp_ (thn (ha pins s σ H _ I h) fun v s1 ⟨x, H1, I1, r1, q1⟩ => ?_)
  obtain ⟨c, rfl, q1⟩ := q1
  cases r1
  exact not_of (wpAny_truthy_bool ⟨.bl (!c), H1, I1, rfl, q1⟩)
/-- a if t else b -/
def tIf (t : TT) (ta tb : TE) : TE := fun σ H Q => t σ H fun c H1 => if c = true then ta σ H1 Q else tb σ H1 Q
theorem pe_ifExp {c : Expr} (hc : PT X c tA) (ha : PE X a ta) (hb : PE X b tb) : PE X (.IfExp c a b pos) (tIf tA ta tb) := by
  refine .mk ?_
  intro pins s σ H Q I h
  refine wpAny_IfExp (thn (hc pins s σ H _ I h) fun d s1 ⟨H1, I1, q1⟩ => ?_)
  cases d with
  | true => exact ha pins s1 σ H1 Q I1 q1
  | false => exact hb pins s1 σ H1 Q I1 q1
end
end L2

namespace L2
open PySem PySem.Spec PyProof.Rows

/-! ### a list, a tuple that is read: tracked, frozen, or an object of the module -/
def SqL (K : PySem.W.Frag) (H : Hp) (a : Addr) (xs : List V) : Prop :=
  Rd H a (.lst xs) ∨
    ∃ (o : Obj) (its : Array Value) (n : Nat), K.lookup a = some o ∧ o.cls = .type "list" ∧ o.dict = none ∧ o.data = .seq its n ∧ its.size ≤ sizeLine ∧ Vals xs its.toList
def SqT (K : PySem.W.Frag) (H : Hp) (a : Addr) (xs : List V) : Prop :=
  Rd H a (.tup xs) ∨
    ∃ (o : Obj) (its : Array Value) (n : Nat), K.lookup a = some o ∧ o.cls = .type "tuple" ∧ o.data = .seq its n ∧ its.size ≤ sizeLine ∧ Vals xs its.toList
def absV : Value → Option V
  | .none => some .non
  | .bool b => some (.bl b)
  | .int i _ => some (.int i)
  | .str x _ => some (.str x)
  | .bytes b _ => some (.byt b)
  | .float b _ => some (.flt b)
  | .ref a => some (.ref a)
  | .type n => some (.ty n)
  | _ => none
theorem RelV.abs {x : V} {u : Value} (r : RelV x u) : absV u = some x := by
  cases x with
  | non => cases r; rfl
  | bl _ => cases r; rfl
  | int _ => obtain ⟨t, rfl⟩ := r; rfl
  | str _ => obtain ⟨t, rfl⟩ := r; rfl
  | byt _ => obtain ⟨t, rfl⟩ := r; rfl
  | flt _ => obtain ⟨t, rfl⟩ := r; rfl
  | ref _ => cases r; rfl
  | ty _ => cases r; rfl
theorem RelV.inj {x y : V} {u : Value} (r : RelV x u) (q : RelV y u) : x = y := Option.some.inj (r.abs.symm.trans q.abs)
theorem Vals.inj : ∀ {xs ys : List V} {us : List Value}, Vals xs us → Vals ys us → xs = ys
  | _, _, _, .nil, .nil => rfl
  | _, _, _, .cons r t, .cons r' t' => by rw [r.inj r', Vals.inj t t']
section
variable {X : Cx} {pins : List (Addr × Obj)} {σ : St} {H : Hp} {s : Shared} {a : Addr} {xs ys : List V}
theorem SqL.of {K : PySem.W.Frag} (h : H a = some (.lst xs)) : SqL K H a xs := .inl (.inl h)
theorem SqT.of {K : PySem.W.Frag} (h : H a = some (.tup xs)) : SqT K H a xs := .inl (.inl h)
theorem Inv.list (I : Inv X pins σ H s) (h : SqL X.K H a xs) : ∃ its : List Value, Vals xs its ∧ PlainL s.heap a its.toArray ∧ xs.length ≤ sizeLine := by
  rcases h with h | ⟨o, its, n, hk, hc, hd, hs, hz, r⟩
  · obtain ⟨z, its, n, r, e⟩ := h.ok I.hok
    exact ⟨its, r, ⟨_, n, e, rfl, rfl, rfl⟩, z⟩
  · refine ⟨its.toList, r, ⟨o, n, I.kIn a o hk, hc, hd, by simpa using hs⟩, ?_⟩
    have e := r.length
    simp only [Array.length_toList] at e
    omega
theorem Inv.tuple (I : Inv X pins σ H s) (h : SqT X.K H a xs) : ∃ its : List Value, Vals xs its ∧ IsTup s.heap a its.toArray ∧ xs.length ≤ sizeLine := by
  rcases h with h | ⟨o, its, n, hk, hc, hs, hz, r⟩
  · obtain ⟨z, its, r, p⟩ := h.ok I.hok
    exact ⟨its, r, p, z⟩
  · refine ⟨its.toList, r, ⟨o, I.kIn a o hk, hc, n, by simpa using hs⟩, ?_⟩
    have e := r.length
    simp only [Array.length_toList] at e
    omega
theorem Inv.list_inj (I : Inv X pins σ H s) (h : SqL X.K H a xs) (h' : SqL X.K H a ys) : xs = ys := by
  obtain ⟨its, r, ⟨o, n, e, _, _, d⟩, _⟩ := I.list h
  obtain ⟨its', r', ⟨o', n', e', _, _, d'⟩, _⟩ := I.list h'
  rw [e] at e'; cases e'
  rw [d] at d'
  injection d' with d1 _
  have : its = its' := by simpa using congrArg Array.toList d1
  subst this
  exact r.inj r'
theorem Inv.tuple_inj (I : Inv X pins σ H s) (h : SqT X.K H a xs) (h' : SqT X.K H a ys) : xs = ys := by
  obtain ⟨its, r, ⟨o, e, _, n, d⟩, _⟩ := I.tuple h
  obtain ⟨its', r', ⟨o', e', _, n', d'⟩, _⟩ := I.tuple h'
  rw [e] at e'; cases e'
  rw [d] at d'
  injection d' with d1 _
  have : its = its' := by simpa using congrArg Array.toList d1
  subst this
  exact r.inj r'
end

/-! ### another wish about exceptions -/
abbrev Cx.wish (X : Cx) (E : Value → Shared → Prop) : Cx := { X with xe := E }
/-- no exception leaves -/
abbrev Cx.nox (X : Cx) : Cx := X.wish fun _ _ => False
theorem Cx.Ok.wish {X : Cx} (ok : X.Ok) (E : Value → Shared → Prop) : (X.wish E).Ok :=
  ⟨ok.mod, ok.kind, ok.glob, ok.blt, ok.above, ok.inj, ok.has, ok.cab, ok.hd, ok.frames, ok.stk, ok.exf, ok.bs, ok.bsz, ok.noex, ok.exfs, ok.funs, ok.frf⟩
theorem Cx.Ok.unwish {X : Cx} {E : Value → Shared → Prop} (ok : (X.wish E).Ok) : X.Ok :=
  ⟨ok.mod, ok.kind, ok.glob, ok.blt, ok.above, ok.inj, ok.has, ok.cab, ok.hd, ok.frames, ok.stk, ok.exf, ok.bs, ok.bsz, ok.noex, ok.exfs, ok.funs, ok.frf⟩
section
variable {X : Cx} {pins : List (Addr × Obj)} {σ : St} {H : Hp} {s : Shared} {E : Value → Shared → Prop}
theorem Inv.wish (I : Inv X pins σ H s) (E : Value → Shared → Prop) : Inv (X.wish E) pins σ H s := ⟨I.ok.wish E, I.os, I.bare, I.base, I.loc, I.cell, I.free, I.freeC, I.pin, I.hok, I.len⟩
theorem Inv.unwish (I : Inv (X.wish E) pins σ H s) : Inv X pins σ H s := ⟨I.ok.unwish, I.os, I.bare, I.base, I.loc, I.cell, I.free, I.freeC, I.pin, I.hok, I.len⟩
theorem SP.unwish {D : Ends} {f : Flow} {s' : Shared} (h : SP (X.wish E) pins D f s') : SP X pins D f s' := by
  cases f with
  | next => obtain ⟨σ', H', I, q⟩ := h; exact ⟨σ', H', I.unwish, q⟩
  | brk => obtain ⟨σ', H', I, q⟩ := h; exact ⟨σ', H', I.unwish, q⟩
  | cont => obtain ⟨σ', H', I, q⟩ := h; exact ⟨σ', H', I.unwish, q⟩
  | ret u => obtain ⟨v, σ', H', I, r, q⟩ := h; exact ⟨v, σ', H', I.unwish, r, q⟩
theorem PE.nox {e : Expr} {t : TE} (h : PE X.nox e t) : PE X e t := .mk fun pins s σ H Q I hw =>
  wpAny_mono (h pins s σ H Q (I.wish _) hw) (fun _ _ ⟨v, H', I', r, q⟩ => ⟨v, H', I'.unwish, r, q⟩) fun _ _ z => False.elim z
theorem PT.nox {e : Expr} {t : TT} (h : PT X.nox e t) : PT X e t := .mk fun pins s σ H Q I hw =>
  wpAny_mono (h pins s σ H Q (I.wish _) hw) (fun _ _ ⟨H', I', q⟩ => ⟨H', I'.unwish, q⟩) fun _ _ z => False.elim z
theorem PSs.nox {st : List Stmt} {t : TS} (h : PSs X.nox st t) : PSs X st t := .mk fun pins s σ H D I hw =>
  wpAny_mono (h pins s σ H D (I.wish _) hw) (fun _ _ q => q.unwish) fun _ _ z => False.elim z
end

/-! ### blocks and small statements -/
section
variable {X : Cx} {st : Stmt} {rest : List Stmt} {t u : TS} {e : Expr} {te : TE} {pos : Pos}
def tNext : TS := fun D σ H => D.nx σ H
def tSeq (t u : TS) : TS := fun D σ H => t { D with nx := u D } σ H
theorem pss_nil : PSs X [] tNext := .mk fun _ _ σ H _ I h => wpAny_execs_nil ⟨σ, H, I, h⟩
theorem pss_cons (h1 : PS X st t) (h2 : PSs X rest u) : PSs X (st :: rest) (tSeq t u) := by
  refine .mk ?_
  intro pins s σ H D I h
  refine wpAny_execs_cons (thn (h1 pins s σ H { D with nx := u D } I h) fun f s1 q => ?_)
  cases f with
  | next =>
    obtain ⟨σ', H', I', q⟩ := q
    exact h2 pins s1 σ' H' D I' q
  | ret v => exact q
  | brk => exact q
  | cont => exact q
theorem pss_one (h1 : PS X st t) : PSs X [st] t := by
  refine .mk ?_
  intro pins s σ H D I h
  refine wpAny_execs_cons (thn (h1 pins s σ H D I h) fun f s1 q => ?_)
  cases f with
  | next => exact wpAny_execs_nil q
  | ret v => exact q
  | brk => exact q
  | cont => exact q
def tBreak : TS := fun D σ H => D.bk σ H
def tCont : TS := fun D σ H => D.ct σ H
theorem ps_pass : PS X (.Pass pos) tNext := .mk fun _ _ σ H _ I h => wpAny_Pass ⟨σ, H, I, h⟩
theorem ps_break : PS X (.Break pos) tBreak := .mk fun _ _ σ H _ I h => wpAny_Break ⟨σ, H, I, h⟩
theorem ps_continue : PS X (.Continue pos) tCont := .mk fun _ _ σ H _ I h => wpAny_Continue ⟨σ, H, I, h⟩
/-- in a def's body nothing is shown -/
theorem Inv.quiet {pins : List (Addr × Obj)} {σ : St} {H : Hp} {s : Shared} (I : Inv X pins σ H s) : interactive X.env = false := by simp [interactive, I.ok.kind]
/-- a docstring -/
theorem ps_doc {x j pos pos'} : PS X (.Expr (.Constant (.str x) j pos) pos') tNext := .mk fun _ s σ H _ I h => wpAny_Expr (Calls.Constant_str (show SP X _ _ .next { s with toks := s.toks + 1 } from ⟨σ, H, I.tok _, h⟩)) I.quiet
/-- an expression whose value is dropped -/
def tDrop (te : TE) : TS := fun D σ H => te σ H fun _ H1 => D.nx σ H1
theorem ps_expr (he : PE X e te) (hs : swapsWith e none pos.line X.env = pure false := by rfl) : PS X (.Expr e pos) (tDrop te) := by
  refine .mk ?_
  intro pins s σ H D I h
  exact wpAny_Expr_any (thn (he pins s σ H _ I h) fun v s1 ⟨x, H1, I1, r1, q1⟩ => ⟨σ, H1, I1, q1⟩) I.quiet hs
def tRet (te : TE) : TS := fun D σ H => te σ H D.rt
theorem ps_ret (he : PE X e te) : PS X (.Return (some e) pos) (tRet te) := by
  refine .mk ?_
  intro pins s σ H D I h
  exact wpAny_Return_some (thn (he pins s σ H _ I h) fun v s1 ⟨x, H1, I1, r1, q1⟩ => ⟨x, σ, H1, I1, r1, q1⟩)
def tRetN : TS := fun D _ H => D.rt .non H
theorem ps_retN : PS X (.Return none pos) tRetN := .mk fun _ _ σ H _ I h => wpAny_Return_none ⟨.non, σ, H, I, rfl, h⟩
def tIfS (c : TT) (t u : TS) : TS := fun D σ H => c σ H fun b H1 => if b = true then t D σ H1 else u D σ H1
theorem ps_if {c : Expr} {a b : List Stmt} {tc : TT} (hc : PT X c tc) (ha : PSs X a t) (hb : PSs X b u) : PS X (.If c a b pos) (tIfS tc t u) := by
  refine .mk ?_
  intro pins s σ H D I h
  refine wpAny_If (thn (hc pins s σ H _ I h) fun d s1 ⟨H1, I1, q1⟩ => ?_)
  cases d with
  | true => exact ha pins s1 σ H1 D I1 q1
  | false => exact hb pins s1 σ H1 D I1 q1
/-- code that the proof never comes to -/
def tNever : TS := fun _ _ _ => False
theorem ps_never : PS X st tNever := .mk fun _ _ _ _ _ _ h => h.elim
theorem pss_never {sts : List Stmt} : PSs X sts tNever := .mk fun _ _ _ _ _ _ h => h.elim
end

/-! ### targets -/
abbrev TG := V → St → Hp → (St → Hp → Prop) → Prop
abbrev TGs := List V → St → Hp → (St → Hp → Prop) → Prop
structure PG (X : Cx) (target : Expr) (t : TG) : Prop where
  run : ∀ (pins : List (Addr × Obj)) (s : Shared) (σ : St) (H : Hp) (v : V) (u : Value) (Q : St → Hp → Prop), Inv X pins σ H s → RelV v u → t v σ H Q →
    wpAny (model X.prog X.w) X.A (assign target X.env u) (fun _ s' => ∃ σ' H', Inv X pins σ' H' s' ∧ Q σ' H') X.xe s
instance {X : Cx} {target : Expr} {t : TG} : CoeFun (PG X target t) fun _ => ∀ (pins : List (Addr × Obj)) (s : Shared) (σ : St) (H : Hp) (v : V) (u : Value) (Q : St → Hp → Prop), Inv X pins σ H s → RelV v u → t v σ H Q → wpAny (model X.prog X.w) X.A (assign target X.env u) (fun _ s' => ∃ σ' H', Inv X pins σ' H' s' ∧ Q σ' H') X.xe s := ⟨PG.run⟩
/-- several targets, one after another -/
structure PGs (X : Cx) (ts : List Expr) (t : TGs) : Prop where
  run : ∀ (pins : List (Addr × Obj)) (s : Shared) (σ : St) (H : Hp) (vs : List V) (us : List Value) (Q : St → Hp → Prop), Inv X pins σ H s → Vals vs us → t vs σ H Q →
    wpAny (model X.prog X.w) X.A (assignInOrder ((assignEach ts X.env).map (·.2)) us) (fun _ s' => ∃ σ' H', Inv X pins σ' H' s' ∧ Q σ' H') X.xe s
instance {X : Cx} {ts : List Expr} {t : TGs} : CoeFun (PGs X ts t) fun _ => ∀ (pins : List (Addr × Obj)) (s : Shared) (σ : St) (H : Hp) (vs : List V) (us : List Value) (Q : St → Hp → Prop), Inv X pins σ H s → Vals vs us → t vs σ H Q → wpAny (model X.prog X.w) X.A (assignInOrder ((assignEach ts X.env).map (·.2)) us) (fun _ s' => ∃ σ' H', Inv X pins σ' H' s' ∧ Q σ' H') X.xe s := ⟨PGs.run⟩
/-- o[i] = v, by values -/
abbrev TSet := V → V → V → Hp → (Hp → Prop) → Prop
def PSet (X : Cx) (t : TSet) : Prop :=
  ∀ (pins : List (Addr × Obj)) (s : Shared) (σ : St) (H : Hp) (o i v : V) (ov iv u : Value) (Q : Hp → Prop), Inv X pins σ H s → RelV o ov → RelV i iv → RelV v u → t o i v H Q →
    wpAny (model X.prog X.w) X.A (setItem ov iv u) (fun _ s' => ∃ H', Inv X pins σ H' s' ∧ Q H') X.xe s
/-- a op= b, by values -/
abbrev TIp := V → V → Hp → VK → Prop
def PIp (X : Cx) (op : Operator) (t : TIp) : Prop :=
  ∀ (pins : List (Addr × Obj)) (s : Shared) (σ : St) (H : Hp) (x y : V) (v u : Value) (Q : VK), Inv X pins σ H s → RelV x v → RelV y u → t x y H Q →
    wpAny (model X.prog X.w) X.A (inplaceOp op v u) (EP X pins σ Q) X.xe s
section
variable {X : Cx} {pos : Pos}
def gName (i : Nat) : TG := fun v σ H Q => Q (σ.set i (some v)) H
theorem pg_name {i : Nat} {x : Str} (hN : X.N.Nodup) (hi : X.N[i]? = some x) (hx : Loc X.env.scope x) (hf : X.fn x = true ∨ X.env.scope.names.lookup x = some .local := by first | exact .inl rfl | exact .inr rfl | assumption) : PG X (.Name x pos) (gName i) := by
  refine .mk ?_
  intro pins s σ H v u Q I r h
  exact wpAny_assign_Name (store_ok I hN hi hx r (fun s' I' => ⟨_, H, I', h⟩) hf)
def gNil : TGs := fun vs σ H Q => vs = [] ∧ Q σ H
def gCons (t : TG) (u : TGs) : TGs := fun vs σ H Q => ∃ v r, vs = v :: r ∧ t v σ H fun σ' H' => u r σ' H' Q
theorem pgs_nil : PGs X [] gNil := by
  refine .mk ?_
  intro pins s σ H vs us Q I r h
  obtain ⟨e, h⟩ := h
  subst e
  cases r
  exact assignInOrder_nil ⟨σ, H, I, h⟩
theorem pgs_cons {e : Expr} {es : List Expr} {t : TG} {u : TGs} (h1 : PG X e t) (h2 : PGs X es u)
    (hs : (assignEach (e :: es) X.env).map (·.2) = assign e X.env :: (assignEach es X.env).map (·.2) := by rfl) : PGs X (e :: es) (gCons t u) := by
  refine .mk ?_
  intro pins s σ H vs us Q I r h
  obtain ⟨v, vr, e1, h⟩ := h
  subst e1
  cases r with
  | cons r rr =>
    rw [hs]
    refine assignInOrder_cons (thn (h1 pins s σ H _ _ _ I r h) fun _ s1 ⟨σ1, H1, I1, q1⟩ => ?_)
    exact h2 pins s1 σ1 H1 _ _ Q I1 rr q1
/-- (a, b, ..) = a tuple of that length -/
def gTup (K : PySem.W.Frag) (n : Nat) (t : TGs) : TG := fun v σ H Q => ∃ a xs, v = .ref a ∧ SqT K H a xs ∧ xs.length = n ∧ t xs σ H Q
theorem pg_tup {es : List Expr} {k : Nat} {t : TGs} {n : Nat} (hc : X.calm = true) (h : PGs X es t)
    (hn : (assignEach es X.env).length = n := by rfl) (hst : (assignEach es X.env).findIdx? (·.1) = none := by rfl) : PG X (.Tuple es k pos) (gTup X.K n t) := by
  refine .mk ?_
  intro pins s σ H v u Q I r hw
  obtain ⟨a, xs, e1, hq, hl, hw⟩ := hw
  subst e1
  cases r
  obtain ⟨its, rv, ht, hz⟩ := I.tuple hq
  refine assign_Tuple_tuple (I.ok.hd hc) ht (by simp [hn, ← hl, rv.length]) hst fun h' hx => ?_
  have I1 : Inv X pins σ H { s with heap := h' } := I.kept (t' := s.toks) fun b o e => hx b o (Nat.ne_of_lt (Heap.lt_size e)) e
  exact h pins _ σ H xs _ Q I1 (by simpa using rv) hw
/-- o[i] = .. -/
def gSub (to ti : TE) (t : TSet) : TG := fun v σ H Q => to σ H fun o H1 => ti σ H1 fun i H2 => t o i v H2 fun H3 => Q σ H3
theorem pg_sub {o i : Expr} {to ti : TE} {t : TSet} (ho : PE X o to) (hi : PE X i ti) (hs : PSet X t)
    (ha : ∀ v, assign (.Subscript o i pos) X.env v = (do
      let ov ← holding [v] (eval o X.env)
      let iv ← holding [v, ov] (eval i X.env)
      standAt pos
      holding [v, ov, iv] (setItem ov iv v)
      release [v, ov, iv] []) := by intro _; rfl) : PG X (.Subscript o i pos) (gSub to ti t) := by
  refine .mk ?_
  intro pins s σ H v u Q I r h
  rw [ha]
  refine wpAny_bind (wpAny_holding (thn (ho pins s σ H _ I h) fun ov s1 ⟨x, H1, I1, r1, q1⟩ => ?_))
  refine wpAny_bind (wpAny_holding (thn (hi pins s1 σ H1 _ I1 q1) fun iv s2 ⟨y, H2, I2, r2, q2⟩ => ?_))
  refine wpAny_bind (wpAny_standAt (wpAny_bind (wpAny_holding (thn (hs pins s2 σ H2 x y v ov iv u _ I2 r1 r2 r q2) fun _ s3 ⟨H3, I3, q3⟩ => ?_))))
  exact wpAny_release ⟨σ, H3, I3, q3⟩
/-- target = value -/
def tAsg (te : TE) (g : TG) : TS := fun D σ H => te σ H fun x H1 => g x σ H1 D.nx
theorem ps_asg {tg e : Expr} {te : TE} {g : TG} (he : PE X e te) (hg : PG X tg g) (hs : swapsWithSole [tg] e pos.line X.env = pure false := by rfl) (hw : swappedStores [tg] e X.env = pure none := by rfl)
    (h1 : (assignEach [tg] X.env).map (·.2) = [assign tg X.env] := by rfl) : PS X (.Assign [tg] e pos) (tAsg te g) := by
  refine .mk ?_
  intro pins s σ H D I h
  refine wpAny_Assign_stores (thn (he pins s σ H _ I h) fun v s1 ⟨x, H1, I1, r1, q1⟩ => ?_) hs hw
  rw [h1]
  exact thn (hg pins s1 σ H1 x v _ I1 r1 q1) fun _ s2 q => q
/-- name = value -/
theorem ps_set {i : Nat} {x : Str} {e : Expr} {te : TE} {pos' : Pos} (hN : X.N.Nodup) (hi : X.N[i]? = some x) (hx : Loc X.env.scope x) (he : PE X e te) (hs : swapsWith e (some (.Name x pos')) pos.line X.env = pure false := by rfl) (hf : X.fn x = true ∨ X.env.scope.names.lookup x = some .local := by first | exact .inl rfl | exact .inr rfl | assumption) :
    PS X (.Assign [.Name x pos'] e pos) (tAsg te (gName i)) := by
  refine .mk ?_
  intro pins s σ H D I h
  refine wpAny_Assign_Name (thn (he pins s σ H _ I h) fun v s1 ⟨y, H1, I1, r1, q1⟩ => ?_) hs
  exact store_ok I1 hN hi hx r1 (fun s2 I2 => ⟨_, H1, I2, q1⟩) hf
/-- a, b = x, y with plain local names: stored from the right; the pair itself is not tracked (the opening rows as in PyProof/Rows/TupAssign.lean:23) -/
def tPar (i j : Nat) (ta : TA) : TS := fun D σ H => ta σ H fun vs H1 => ∃ v w, vs = [v, w] ∧ D.nx ((σ.set i (some v)).set j (some w)) H1
theorem ps_par {i j : Nat} {x y : Str} {a b : Expr} {ta : TA} {px py pt : Pos} {kt k2 pt2} (hc : X.calm = true) (hN : X.N.Nodup) (hi : X.N[i]? = some x) (hj : X.N[j]? = some y) (hij : i ≠ j)
    (hx : X.env.scope.names.lookup x = some .local) (hy : X.env.scope.names.lookup y = some .local) (ha : PA X [a, b] ta)
    (hw : swappedStores [.Tuple [.Name x px, .Name y py] kt pt] (.Tuple [a, b] k2 pt2) X.env = pure (some [x, y]))
    (hs : swapsWithSole [.Tuple [.Name x px, .Name y py] kt pt] (.Tuple [a, b] k2 pt2) pos.line X.env = pure false := by rfl) :
    PS X (.Assign [.Tuple [.Name x px, .Name y py] kt pt] (.Tuple [a, b] k2 pt2) pos) (tPar i j ta) := by
  refine .mk ?_
  intro pins s σ H D I h
  rw [exec_Assign_arm]
  refine wpAny_bind (wpAny_standAt ?_)
  rw [hs]
  refine wpAny_bind (wpAny_pure ?_)
  rw [if_neg (by decide)]
  refine wpAny_bind (Tuple_ (thn (ha _ pins s σ H _ I h) fun us s1 ⟨vs, H1, I1, r1, q1⟩ => ?_))
  obtain ⟨v, w, e1, q1⟩ := q1
  subst e1
  obtain ⟨u1, u2, rfl, rv, rw'⟩ : ∃ u1 u2, us = [u1, u2] ∧ RelV v u1 ∧ RelV w u2 := by
    cases r1 with
    | cons p q =>
      cases q with
      | cons p' q' =>
        cases q'
        exact ⟨_, _, rfl, p, p'⟩
  refine wpAny_newObj_type ?_ (by show 2 ≤ sizeLine; decide)
  have I2 : Inv X pins σ H1 { s1 with heap := s1.heap.push { cls := .type "tuple", data := .seq [u1, u2].toArray } } := I1.kept (t' := s1.toks) fun b o e => Heap.get?_push_of_some _ e
  rw [hw]
  refine wpAny_bind (wpAny_pure ?_)
  show wpAny (model X.prog X.w) X.A (do rule "assign.swapped-stores"; let items ← unpackItems (.ref s1.heap.objs.size) 2 none; assignInOrder [fun v => bindName X.env y v, fun v => bindName X.env x v] items.reverse; pure Flow.next) _ _ _
  refine wpAny_bind (wpAny_rule (wpAny_bind (unpackItems_tuple (items := #[u1, u2]) (I.ok.hd hc) (IsTup.new s1.heap _) fun h' hx' => ?_)))
  have I3 := I2.kept (h' := h') (t' := s1.toks) fun b o e => hx' b o (Nat.ne_of_lt (Heap.lt_size e)) e
  show wpAny _ _ (assignInOrder [fun v => bindName X.env y v, fun v => bindName X.env x v] [u2, u1] >>= fun _ => pure Flow.next) _ _ _
  refine wpAny_bind (assignInOrder_cons (wpAny_bindName (store_ok I3 hN hj (.inl hy) rw' (fun s2 I4 => ?_) (.inr hy))))
  refine assignInOrder_cons (wpAny_bindName (store_ok I4 hN hi (.inl hx) rv (fun s3 I5 => assignInOrder_nil (wpAny_pure ?_)) (.inr hx)))
  rw [List.set_comm _ _ (Ne.symm hij)] at I5
  exact ⟨_, H1, I5, q1⟩
/-- name op= e -/
def tAug (i : Nat) (te : TE) (ti : TIp) : TS := fun D σ H => ∃ x, σ[i]? = some (some x) ∧ te σ H fun y H1 => ti x y H1 fun z H2 => D.nx (σ.set i (some z)) H2
theorem ps_aug {i : Nat} {x : Str} {e : Expr} {te : TE} {op : Operator} {ti : TIp} {pos' : Pos} (hN : X.N.Nodup) (hi : X.N[i]? = some x) (hx : Loc X.env.scope x) (he : PE X e te) (ho : PIp X op ti) (hf : X.fn x = true ∨ X.env.scope.names.lookup x = some .local := by first | exact .inl rfl | exact .inr rfl | assumption) :
    PS X (.AugAssign (.Name x pos') op e pos) (tAug i te ti) := by
  refine .mk ?_
  intro pins s σ H D I h
  obtain ⟨v, e1, h⟩ := h
  obtain ⟨m, hn, hl⟩ := I.loc
  have vis : Vis X.env.scope x := by rcases hx with k | k; exact .inl k; exact .inr (.inl k)
  obtain ⟨u, r, l⟩ := hl i x v hi e1 vis
  refine wpAny_AugAssign_Name ?_
  have go : wpAny (model X.prog X.w) X.A (eval e X.env) (fun w s₂ => wpAny (model X.prog X.w) X.A (inplaceOp op u w) (fun r s₃ => wpAny (model X.prog X.w) X.A (storeName X.env x r) (fun _ => SP X pins D .next) X.xe s₃) X.xe s₂) X.xe s := by
    refine thn (he pins s σ H _ I h) fun w s1 ⟨y, H1, I1, r1, q1⟩ => ?_
    refine thn (ho pins s1 σ H1 v y u w _ I1 r r1 q1) fun z s2 ⟨zv, H2, I2, r2, q2⟩ => ?_
    exact store_ok I2 hN hi hx r2 (fun s3 I3 => ⟨_, H2, I3, q2⟩) hf
  rcases l with ⟨hk, hm⟩ | ⟨hk, c, hc, hcell⟩
  · exact wpAny_loadName_local I.ok.kind hk hn hm go
  · rcases hk with hk | hk
    · exact wpAny_loadName_cell I.ok.kind hk hc hcell go
    · rcases hx with k | k
      · have : X.env.scope.names.lookup x = some .free := hk
        rw [k] at this; cases this
      · have : X.env.scope.names.lookup x = some .free := hk
        rw [k] at this; cases this
/-- o[i] op= e -/
def tAugS (to ti te : TE) (tget : V → V → Hp → VK → Prop) (tip : TIp) (tset : TSet) : TS := fun D σ H => to σ H fun o H1 => ti σ H1 fun i H2 => tget o i H2 fun x H3 => te σ H3 fun y H4 => tip x y H4 fun z H5 => tset o i z H5 fun H6 => D.nx σ H6
/-- o[i], by values -/
def PGet (X : Cx) (t : V → V → Hp → VK → Prop) : Prop :=
  ∀ (pins : List (Addr × Obj)) (s : Shared) (σ : St) (H : Hp) (o i : V) (ov iv : Value) (Q : VK), Inv X pins σ H s → RelV o ov → RelV i iv → t o i H Q →
    wpAny (model X.prog X.w) X.A (getItem ov iv) (EP X pins σ Q) X.xe s
theorem ps_augS {o i e : Expr} {to ti te : TE} {tget : V → V → Hp → VK → Prop} {tip : TIp} {tset : TSet} {op : Operator} {tpos : Pos} (ho : PE X o to) (hi : PE X i ti) (hg : PGet X tget) (he : PE X e te) (hp : PIp X op tip) (hs : PSet X tset)
    (ha : ∀ ov iv new, augStore i ov iv new = (do holding [new, ov, iv] (setItem ov iv new); release [new, ov, iv] []; pure .next) := by intros; rfl) : PS X (.AugAssign (.Subscript o i tpos) op e pos) (tAugS to ti te tget tip tset) := by
  refine .mk ?_
  intro pins s σ H D I h
  refine wpAny_AugAssign_SubscriptAny (thn (ho pins s σ H _ I h) fun ov s1 ⟨x1, H1, I1, r1, q1⟩ => ?_) ha
  refine thn (hi pins s1 σ H1 _ I1 q1) fun iv s2 ⟨x2, H2, I2, r2, q2⟩ => ?_
  refine thn (hg pins s2 σ H2 x1 x2 ov iv _ I2 r1 r2 q2) fun old s3 ⟨x3, H3, I3, r3, q3⟩ => ?_
  refine thn (he pins s3 σ H3 _ I3 q3) fun v s4 ⟨x4, H4, I4, r4, q4⟩ => ?_
  refine thn (hp pins s4 σ H4 x3 x4 old v _ I4 r3 r4 q4) fun new s5 ⟨x5, H5, I5, r5, q5⟩ => ?_
  exact thn (hs pins s5 σ H5 x1 x2 x5 ov iv new _ I5 r1 r2 r5 q5) fun _ s6 ⟨H6, I6, q6⟩ => ⟨σ, H6, I6, q6⟩
/-- ints -/
def ipI (f : Int → Int → Int) : TIp := fun x y H Q => ∃ i j, x = .int i ∧ y = .int j ∧ Q (.int (f i j)) H
theorem ip_add : PIp X .Add (ipI fun i j => i + j) := by
  intro pins s σ H x y v u Q I r1 r2 h
  obtain ⟨i, j, e1, e2, q⟩ := h
  subst e1; subst e2
  obtain ⟨t, rfl⟩ := r1
  obtain ⟨t', rfl⟩ := r2
  exact iadd_int ⟨.int _, H, I.tok _, ⟨_, rfl⟩, q⟩
theorem ip_sub : PIp X .Sub (ipI fun i j => i - j) := by
  intro pins s σ H x y v u Q I r1 r2 h
  obtain ⟨i, j, e1, e2, q⟩ := h
  subst e1; subst e2
  obtain ⟨t, rfl⟩ := r1
  obtain ⟨t', rfl⟩ := r2
  exact isub_int ⟨.int _, H, I.tok _, ⟨_, rfl⟩, q⟩
end

/-! ### while -/
section
variable {X : Cx} {pos : Pos}
/-- the invariant W with its measure -/
def tWhile (c : TT) (tb : TS) : TS := fun D σ H => ∃ W : Nat → St → Hp → Prop, (∃ m, W m σ H) ∧ ∀ m σ H, W m σ H →
  c σ H fun b H1 => if b = true then ∃ N : St → Hp → Prop, (∀ σ' H', N σ' H' → ∃ m', m' < m ∧ W m' σ' H') ∧ tb { D with nx := N, ct := N, bk := D.nx } σ H1 else D.nx σ H1
theorem ps_while {c : Expr} {body : List Stmt} {tc : TT} {tb : TS} (hp : PassesOwn (model X.prog X.w) X.A X.env X.xe) (hc : PT X c tc) (hb : PSs X body tb) : PS X (.While c body [] pos) (tWhile tc tb) := by
  refine .mk ?_
  intro pins s σ H D I h
  obtain ⟨W, ⟨m0, w0⟩, turn⟩ := h
  refine wpAny_While (codeAny_whileLoop (fun n s' => ∃ σ' H', Inv X pins σ' H' s' ∧ W n σ' H') ?_ m0 ⟨σ, H, I, w0⟩)
  rintro n s1 ⟨σ1, H1, I1, w1⟩
  refine wpAny_passesOwn hp (thn (hc pins s1 σ1 H1 _ I1 (turn n σ1 H1 w1)) fun b s2 ⟨H2, I2, q2⟩ => ?_)
  cases b with
  | true =>
    obtain ⟨N, hN, q2⟩ := q2
    rw [if_pos rfl]
    refine wpAny_passesOwn hp (thn (hb pins s2 σ1 H2 _ I2 q2) fun f s3 q3 => ?_)
    cases f with
    | next =>
      obtain ⟨σ3, H3, I3, n3⟩ := q3
      obtain ⟨m', hm, w3⟩ := hN σ3 H3 n3
      exact ⟨m', hm, σ3, H3, I3, w3⟩
    | cont =>
      obtain ⟨σ3, H3, I3, n3⟩ := q3
      obtain ⟨m', hm, w3⟩ := hN σ3 H3 n3
      exact ⟨m', hm, σ3, H3, I3, w3⟩
    | brk => exact q3
    | ret v => exact q3
  | false =>
    rw [if_neg Bool.false_ne_true]
    exact wpAny_execs_nil ⟨σ1, H2, I2, q2⟩
end

/-! ### what a loop or a comprehension walks -/
/-- at turn i: it yields x (the heap may grow), or it stops -/
structure It where
  go : Nat → Hp → Prop
  yld : Nat → Hp → V → Hp → Prop
  stop : Nat → Hp → Prop
/-- the iterator's own objects may turn: they are not the frame's, not pinned, younger than the entry (or a comprehension's own) -/
def FpOk (X : Cx) (pins : List (Addr × Obj)) (H : Hp) (b : Addr) : Prop :=
  H b = none ∧ b ≠ X.env.locals ∧ b ∉ X.fs ∧ (b ∈ X.ex ∨ X.s₀.heap.objs.size ≤ b) ∧ (∀ x c, X.env.cells.lookup x = some c → c ≠ b) ∧ ∀ p ∈ X.pn ++ pins, p.1 ≠ b
theorem Inv.fpOk {X : Cx} {pins : List (Addr × Obj)} {σ : St} {H H' : Hp} {s : Shared} {b : Addr} (I : Inv X pins σ H s) (hb : s.heap.objs.size ≤ b) (hn : H' b = none) : FpOk X pins H' b := by
  refine ⟨hn, Nat.ne_of_gt (Nat.lt_of_lt_of_le I.lt hb), I.nofs hb, .inr (Nat.le_trans I.sz hb), fun x c e z => ?_, fun p hp z => ?_⟩
  · obtain ⟨v, q⟩ := I.cell x c e
    exact absurd (Nat.lt_of_lt_of_le q.lt (by rw [z]; exact hb)) (Nat.lt_irrefl _)
  · exact absurd (Nat.lt_of_lt_of_le (Heap.lt_size (I.pin p hp).1) (by rw [z]; exact hb)) (Nat.lt_irrefl _)
structure Turn (P : Program) (w : World) (K : PySem.W.Frag) (tg : Expr) (J : It) (fp : List Addr) (it : Addr) (tn : Nat → Heap → Prop) : Prop where
  mem : it ∈ fp
  obj : ∀ i h, tn i h → ∀ b ∈ fp, ∃ o, h.get? b = some o ∧ ∀ v, o.data ≠ .cell v
  keep : ∀ i h h', tn i h → (∀ b ∈ fp, ∀ o, h.get? b = some o → h'.get? b = some o) → tn i h'
  item : ∀ (X : Cx), X.prog = P → X.w = w → X.K = K → X.calm = true → ∀ (i : Nat) (pins : List (Addr × Obj)) (s : Shared) (σ : St) (H : Hp) (E : Value → Shared → Prop), Inv X pins σ H s → (∀ b ∈ fp, FpOk X pins H b) → tn i s.heap → J.go i H →
    wpAny (model P w) X.A (pyNext (.ref it)) (fun r s1 => ∃ u, r = some u ∧
      wpAny (model P w) X.A (letOwnedTupleGo tg (.ref it) u) (fun _ s2 => ∃ x H', Inv X pins σ H' s2 ∧ RelV x u ∧ J.yld i H x H' ∧ tn (i + 1) s2.heap ∧ ∀ b ∈ fp, H' b = none) E s1) E s
  done : ∀ (X : Cx), X.prog = P → X.w = w → X.K = K → X.calm = true → ∀ (i : Nat) (pins : List (Addr × Obj)) (s : Shared) (σ : St) (H : Hp) (E : Value → Shared → Prop), Inv X pins σ H s → (∀ b ∈ fp, FpOk X pins H b) → tn i s.heap → J.stop i H →
    wpAny (model P w) X.A (pyNext (.ref it)) (fun r s1 => r = none ∧ Inv X pins σ H s1) E s
  self : ∀ (A : Around) (i : Nat) (s : Shared) (Q : Value → Shared → Prop) (E : Value → Shared → Prop), tn i s.heap → Q (.ref it) s → wpAny (model P w) A (pyIter (.ref it)) Q E s
abbrev TI := St → Hp → (It → Hp → Prop) → Prop
/-- an iterator has come -/
def PIE (X : Cx) (pins : List (Addr × Obj)) (σ : St) (tg : Expr) (R : It → Hp → Prop) (itv : Value) (s2 : Shared) : Prop :=
  ∃ (it : Addr) (fp : List Addr) (tn : Nat → Heap → Prop) (J : It) (H' : Hp), itv = .ref it ∧ Inv X pins σ H' s2 ∧ Turn X.prog X.w X.K tg J fp it tn ∧ tn 0 s2.heap ∧ (∀ b ∈ fp, FpOk X pins H' b) ∧ R J H'
structure PI (X : Cx) (tg iter : Expr) (wi : TI) : Prop where
  run : ∀ (pins : List (Addr × Obj)) (s : Shared) (σ : St) (H : Hp) (R : It → Hp → Prop), Inv X pins σ H s → wi σ H R →
    wpAny (model X.prog X.w) X.A (eval iter X.env) (fun v s1 => wpAny (model X.prog X.w) X.A (pyIter v) (PIE X pins σ tg R) X.xe s1) X.xe s
instance {X : Cx} {tg iter : Expr} {wi : TI} : CoeFun (PI X tg iter wi) fun _ => ∀ (pins : List (Addr × Obj)) (s : Shared) (σ : St) (H : Hp) (R : It → Hp → Prop), Inv X pins σ H s → wi σ H R → wpAny (model X.prog X.w) X.A (eval iter X.env) (fun v s1 => wpAny (model X.prog X.w) X.A (pyIter v) (PIE X pins σ tg R) X.xe s1) X.xe s := ⟨PI.run⟩

/-- the step ahead of the store is nothing for an iterator that keeps no tuple -/
theorem go_of {M : Model} {A : Around} {E : Value → Shared → Prop} {s : Shared} {tg : Expr} {it : Addr} {u : Value} {o : Obj} {n : String} {vs : Array Value} {Q : Unit → Shared → Prop} (ho : s.heap.get? it = some o) (hc : o.cls = .type n) (hd : o.data = .fields vs)
    (hn : ["enumerate", "zip", "dict_itemiterator", "dict_reverseitemiterator", "odict_iterator", "itertools.zip_longest", "itertools.pairwise"].contains n = false) (hQ : Q () s) : wpAny M A (letOwnedTupleGo tg (.ref it) u) Q E s := by
  unfold letOwnedTupleGo
  cases tg <;> first
    | exact wpAny_pure hQ
    | (cases u <;> first
        | exact wpAny_pure hQ
        | (refine wpAny_bind (wpAny_load ho ?_)
           rw [hc, hd]
           show wpAny M A (if (["enumerate", "zip", "dict_itemiterator", "dict_reverseitemiterator", "odict_iterator", "itertools.zip_longest", "itertools.pairwise"].contains n && vs[0]? == some (rawInt _)) = true then _ else _) Q E s
           rw [if_neg (by intro h; rw [hn, Bool.false_and] at h; cases h)]
           exact wpAny_pure hQ))

/-- the list at a, as it stands at each turn (a loop may append to it) -/
def Itl (K : PySem.W.Frag) (a : Addr) : It :=
  ⟨fun i H => ∃ xs x, SqL K H a xs ∧ xs[i]? = some x, fun i H x H' => H' = H ∧ ∀ xs, SqL K H a xs → xs[i]? = some x, fun i H => ∃ xs, SqL K H a xs ∧ xs.length ≤ i⟩
def Itt (K : PySem.W.Frag) (a : Addr) : It :=
  ⟨fun i H => ∃ xs x, SqT K H a xs ∧ xs[i]? = some x, fun i H x H' => H' = H ∧ ∀ xs, SqT K H a xs → xs[i]? = some x, fun i H => ∃ xs, SqT K H a xs ∧ xs.length ≤ i⟩
/-- lo, lo + 1, .. (n of them) -/
def Itr (lo : Int) (n : Nat) : It := ⟨fun i _ => i < n, fun i H x H' => H' = H ∧ x = .int (lo + i), fun i _ => n ≤ i⟩
theorem turn_list {P : Program} {w : World} {K : PySem.W.Frag} {tg : Expr} (a it : Addr) : Turn P w K tg (Itl K a) [it] it (fun i h => h.IsListIter it a i) where
  mem := by simp
  obj := fun i h st b hb => by
    have e : b = it := by simpa using hb
    subst e
    obtain ⟨o, e, c, d⟩ := st
    exact ⟨o, e, fun v z => by rw [d] at z; cases z⟩
  keep := fun i h h' st k => st.at fun o e => k it (by simp) o e
  item := by
    intro X hP hw hK hc i pins s σ H E I hf st hg
    subst hP hw hK
    obtain ⟨xs, x, hq, hx⟩ := hg
    obtain ⟨its, rv, p, hz⟩ := I.list hq
    obtain ⟨u, hu, ru⟩ := rv.get hx
    obtain ⟨f0, f1, f2, f3, f4, f5⟩ := hf it (by simp)
    refine wpAny_pyNext_list_item st p.isList (x := u) (by simpa using hu) fun h' st' sb => ?_
    have I1 : Inv X pins σ H { s with heap := h' } := I.turned (t' := s.toks) (fun b o hb e => (sb.2 b hb).trans e) f0 f1 f3 f4 f5
    obtain ⟨o, e, c, d⟩ := id st'
    exact ⟨u, rfl, go_of (s := { s with heap := h' }) e c d (by decide) ⟨x, H, I1, ru, ⟨rfl, fun ys hy => by rw [I.list_inj hy hq]; exact hx⟩, st', fun b hb => (hf b hb).1⟩⟩
  done := by
    intro X hP hw hK hc i pins s σ H E I hf st hg
    subst hP hw hK
    obtain ⟨xs, hq, hx⟩ := hg
    obtain ⟨its, rv, p, hz⟩ := I.list hq
    obtain ⟨f0, f1, f2, f3, f4, f5⟩ := hf it (by simp)
    have hl := rv.length
    exact wpAny_pyNext_list_end (I.ok.hd hc) st p.isList (by simp; omega) fun h' eb => ⟨rfl, I.turned (t' := s.toks) (fun b o hb e => eb b o hb e) f0 f1 f3 f4 f5⟩
  self := fun _ _ _ _ _ st h => wpAny_pyIter_listiter st h
theorem turn_tuple {P : Program} {w : World} {K : PySem.W.Frag} {tg : Expr} (a it : Addr) : Turn P w K tg (Itt K a) [it] it (fun i h => h.IsTupleIter it a i) where
  mem := by simp
  obj := fun i h st b hb => by
    have e : b = it := by simpa using hb
    subst e
    obtain ⟨o, e, c, d⟩ := st
    exact ⟨o, e, fun v z => by rw [d] at z; cases z⟩
  keep := fun i h h' st k => st.at fun o e => k it (by simp) o e
  item := by
    intro X hP hw hK hc i pins s σ H E I hf st hg
    subst hP hw hK
    obtain ⟨xs, x, hq, hx⟩ := hg
    obtain ⟨its, rv, p, hz⟩ := I.tuple hq
    obtain ⟨u, hu, ru⟩ := rv.get hx
    obtain ⟨f0, f1, f2, f3, f4, f5⟩ := hf it (by simp)
    refine wpAny_pyNext_tuple_item st (show s.heap.IsTuple a its.toArray from p) (x := u) (by simpa using hu) fun h' st' sb => ?_
    have I1 : Inv X pins σ H { s with heap := h' } := I.turned (t' := s.toks) (fun b o hb e => (sb.2 b hb).trans e) f0 f1 f3 f4 f5
    obtain ⟨o, e, c, d⟩ := id st'
    exact ⟨u, rfl, go_of (s := { s with heap := h' }) e c d (by decide) ⟨x, H, I1, ru, ⟨rfl, fun ys hy => by rw [I.tuple_inj hy hq]; exact hx⟩, st', fun b hb => (hf b hb).1⟩⟩
  done := by
    intro X hP hw hK hc i pins s σ H E I hf st hg
    subst hP hw hK
    obtain ⟨xs, hq, hx⟩ := hg
    obtain ⟨its, rv, p, hz⟩ := I.tuple hq
    obtain ⟨f0, f1, f2, f3, f4, f5⟩ := hf it (by simp)
    have hl := rv.length
    exact wpAny_pyNext_tuple_end (I.ok.hd hc) st (show s.heap.IsTuple a its.toArray from p) (by simp; omega) fun h' eb => ⟨rfl, I.turned (t' := s.toks) (fun b o hb e => eb b o hb e) f0 f1 f3 f4 f5⟩
  self := fun _ _ _ _ _ st h => wpAny_pyIter_tupleiter st h
theorem turn_range {P : Program} {w : World} {K : PySem.W.Frag} {tg : Expr} (it : Addr) (lo : Int) (n : Nat) : Turn P w K tg (Itr lo n) [it] it (fun i h => IsRangeIter h it (lo + (i : Nat) * 1) ((n : Int) - (i : Nat)) 1) where
  mem := by simp
  obj := fun i h st b hb => by
    have e : b = it := by simpa using hb
    subst e
    exact ⟨_, st, fun v z => by
      have z' : Data.fields _ = Data.cell v := z
      cases z'⟩
  keep := fun i h h' st k => k it (by simp) _ st
  item := by
    intro X hP hw hK hc i pins s σ H E I hf st hg
    subst hP hw hK
    obtain ⟨f0, f1, f2, f3, f4, f5⟩ := hf it (by simp)
    have W := Walks.range (prog := X.prog) (w := X.w) (I.ok.hd hc) it lo 1 n
    refine W.item i s _ _ hg st fun v h' tk hv st' kk => ?_
    obtain ⟨t, rfl⟩ := hv
    have I1 : Inv X pins σ H { s with heap := h', toks := tk } := I.turned (fun b o hb e => kk b o (by simpa using hb) e) f0 f1 f3 f4 f5
    refine ⟨_, rfl, go_of (s := { s with heap := h', toks := tk }) (n := "range_iterator") st' rfl rfl (by decide) ⟨.int (lo + i), H, I1, ⟨t, ?_⟩, ⟨rfl, rfl⟩, st', fun b hb => (hf b hb).1⟩⟩
    rw [Int.mul_one]
  done := by
    intro X hP hw hK hc i pins s σ H E I hf st hg
    subst hP hw hK
    obtain ⟨f0, f1, f2, f3, f4, f5⟩ := hf it (by simp)
    exact wpAny_pyNext_range_end (I.ok.hd hc) st (by have : n ≤ i := hg; omega) fun h' eb => ⟨rfl, I.turned (t' := s.toks) (fun b o hb e => eb b o hb e) f0 f1 f3 f4 f5⟩
  self := fun _ _ _ _ _ st h => wpAny_pyIter_rangeiter st h
end L2

namespace L2
open PySem PySem.Spec PyProof.Rows
section
variable {X : Cx} {tg : Expr}
def iList (K : PySem.W.Frag) (tl : TE) : TI := fun σ H R => tl σ H fun x H1 => ∃ a, x = .ref a ∧ (∃ xs, SqL K H1 a xs) ∧ R (Itl K a) H1
def iTup (K : PySem.W.Frag) (tl : TE) : TI := fun σ H R => tl σ H fun x H1 => ∃ a, x = .ref a ∧ (∃ xs, SqT K H1 a xs) ∧ R (Itt K a) H1
theorem pi_list {l : Expr} {tl : TE} (hl : PE X l tl) : PI X tg l (iList X.K tl) := by
  refine .mk ?_
  intro pins s σ H R I h
  refine thn (hl pins s σ H _ I h) fun v s1 ⟨x, H1, I1, r1, q1⟩ => ?_
  obtain ⟨a, e, ⟨xs, hq⟩, q⟩ := q1
  subst e
  cases r1
  obtain ⟨its, rv, p, hz⟩ := I1.list hq
  refine wpAny_pyIter_list p.isList ?_
  refine ⟨s1.heap.objs.size, [s1.heap.objs.size], _, _, H1, rfl, I1.kept (t' := s1.toks) fun b o e => Heap.get?_push_of_some _ e, turn_list a _, ⟨_, Heap.get?_push_size _ rfl, rfl, rfl⟩, fun b hb => ?_, q⟩
  have e : b = s1.heap.objs.size := by simpa using hb
  subst e
  exact I1.fpOk (Nat.le_refl _) (I1.hok.fresh (Nat.le_refl _))
theorem pi_tup {l : Expr} {tl : TE} (hl : PE X l tl) : PI X tg l (iTup X.K tl) := by
  refine .mk ?_
  intro pins s σ H R I h
  refine thn (hl pins s σ H _ I h) fun v s1 ⟨x, H1, I1, r1, q1⟩ => ?_
  obtain ⟨a, e, ⟨xs, hq⟩, q⟩ := q1
  subst e
  cases r1
  obtain ⟨its, rv, p, hz⟩ := I1.tuple hq
  refine wpAny_pyIter_tuple (show s1.heap.IsTuple a its.toArray from p) ?_
  refine ⟨s1.heap.objs.size, [s1.heap.objs.size], _, _, H1, rfl, I1.kept (t' := s1.toks) fun b o e => Heap.get?_push_of_some _ e, turn_tuple a _, ⟨_, Heap.get?_push_size _ rfl, rfl, rfl⟩, fun b hb => ?_, q⟩
  have e : b = s1.heap.objs.size := by simpa using hb
  subst e
  exact I1.fpOk (Nat.le_refl _) (I1.hok.fresh (Nat.le_refl _))
/-- a range object just made, walked -/
theorem range_it {pins : List (Addr × Obj)} {σ : St} {H : Hp} {s : Shared} {R : It → Hp → Prop} {E : Value → Shared → Prop} {lo hi : Int} {t u v : Tok} {tk : Nat} (I : Inv X pins σ H s) (h1 : -(2 ^ 62) ≤ lo) (h2 : lo < 2 ^ 62) (h3 : -(2 ^ 62) ≤ hi) (h4 : hi < 2 ^ 62)
    (q : R (Itr lo (hi - lo).toNat) H) : wpAny (model X.prog X.w) X.A (pyIter (.ref s.heap.objs.size)) (PIE X pins σ tg R) E { s with heap := s.heap.push { cls := .type "range", data := .fields #[.int lo t, .int hi u, .int 1 v] }, toks := tk } := by
  refine wpAny_pyIter_range (IsRange.new ..) (small_one h1 h2 h3 h4) ?_
  have I1 : Inv X pins σ H { s with heap := s.heap.push { cls := .type "range", data := .fields #[.int lo t, .int hi u, .int 1 v] }, toks := tk } := I.kept fun b o e => Heap.get?_push_of_some _ e
  refine ⟨(s.heap.push { cls := .type "range", data := .fields #[.int lo t, .int hi u, .int 1 v] }).objs.size, [(s.heap.push { cls := .type "range", data := .fields #[.int lo t, .int hi u, .int 1 v] }).objs.size], _, _, H, rfl,
    I1.kept (t' := tk) fun b o e => Heap.get?_push_of_some _ e, turn_range _ lo (hi - lo).toNat, ?_, fun b hb => ?_, q⟩
  · have e1 : lo + ((0 : Nat) : Int) * 1 = lo := by simp
    have e2 : (((hi - lo).toNat : Nat) : Int) - ((0 : Nat) : Int) = Builtin.Range.rangeSize lo hi 1 := by rw [rangeSize_one]; split <;> omega
    show IsRangeIter _ _ (lo + ((0 : Nat) : Int) * 1) ((((hi - lo).toNat : Nat) : Int) - ((0 : Nat) : Int)) 1
    rw [e1, e2]
    exact Heap.get?_push_size _ rfl
  · have e : b = (s.heap.push { cls := .type "range", data := .fields #[.int lo t, .int hi u, .int 1 v] }).objs.size := by simpa using hb
    subst e
    exact I1.fpOk (Nat.le_refl _) (I1.hok.fresh (Nat.le_refl _))
def iRng1 (ta : TA) : TI := fun σ H R => ta σ H fun vs H1 => ∃ j : Int, vs = [.int j] ∧ -(2 ^ 62) ≤ j ∧ j < 2 ^ 62 ∧ R (Itr 0 j.toNat) H1
def iRng2 (ta : TA) : TI := fun σ H R => ta σ H fun vs H1 => ∃ i j : Int, vs = [.int i, .int j] ∧ (-(2 ^ 62) ≤ i ∧ i < 2 ^ 62 ∧ -(2 ^ 62) ≤ j ∧ j < 2 ^ 62) ∧ R (Itr i (j - i).toNat) H1
theorem pi_range1 {a : Expr} {ta : TA} {p pos : Pos} (hg : Gl X "range") (hm : X.mg "range" = none) (ha : PA X [a] ta) (hs : starEach [a] X.env = [(false, eval a X.env)] := by rfl) : PI X tg (.Call (.Name "range" p) [a] [] pos) (iRng1 ta) := by
  refine .mk ?_
  intro pins s σ H R I h
  refine Call_ (ld_blt I hg hm boot_range (PyProof.Rows.callWith_type1 (thn (ha pos pins s σ H _ I h) fun us s1 ⟨vs, H1, I1, r1, q1⟩ => ?_) hs rfl))
  obtain ⟨j, e, q1, q2, q⟩ := q1
  subst e
  cases r1 with
  | cons r rr =>
    cases rr
    obtain ⟨t, rfl⟩ := r
    exact call_range_1 (range_it I1 (by omega) (by omega) q1 q2 (by simpa using q))
theorem pi_range2 {a b : Expr} {ta : TA} {p pos : Pos} (hg : Gl X "range") (hm : X.mg "range" = none) (ha : PA X [a, b] ta) (hs : starEach [a, b] X.env = [(false, eval a X.env), (false, eval b X.env)] := by rfl) (hs2 : starEach [b] X.env = [(false, eval b X.env)] := by rfl) :
    PI X tg (.Call (.Name "range" p) [a, b] [] pos) (iRng2 ta) := by
  refine .mk ?_
  intro pins s σ H R I h
  refine Call_ (ld_blt I hg hm boot_range (PyProof.Rows.callWith_type1 (thn (ha pos pins s σ H _ I h) fun us s1 ⟨vs, H1, I1, r1, q1⟩ => ?_) (by rw [hs, hs2]) (by rw [hs2]; rfl)))
  obtain ⟨i, j, e, ⟨q1, q2, q3, q4⟩, q⟩ := q1
  subst e
  cases r1 with
  | cons r rr =>
    cases rr with
    | cons r' rr =>
      cases rr
      obtain ⟨t, rfl⟩ := r
      obtain ⟨t', rfl⟩ := r'
      exact call_range_2 (range_it I1 q1 q2 q3 q4 q)

/-! ### for -/
/-- W: the invariant by the turn and a measure; N: what the body is to reach -/
def tFor (wi : TI) (g : TG) (tb : TS) : TS := fun D σ H => wi σ H fun J H1 => ∃ W : Nat → Nat → St → Hp → Prop, (∃ m, W 0 m σ H1) ∧ ∀ i m σ H, W i m σ H →
  (J.stop i H ∧ D.nx σ H) ∨ (J.go i H ∧ ∃ N : St → Hp → Prop, (∀ σ' H', N σ' H' → ∃ m', m' < m ∧ W (i + 1) m' σ' H') ∧ ∀ x H', J.yld i H x H' → g x σ H' fun σ2 H2 => tb { D with nx := N, ct := N, bk := D.nx } σ2 H2)
/-- the records at fp as they stand -/
def pinsAt (fp : List Addr) (h : Heap) : List (Addr × Obj) := fp.filterMap fun b => (h.get? b).map fun o => (b, o)
theorem mem_pinsAt {fp : List Addr} {h : Heap} {b : Addr} {o : Obj} (hb : b ∈ fp) (e : h.get? b = some o) : (b, o) ∈ pinsAt fp h := List.mem_filterMap.mpr ⟨b, hb, by rw [e]; rfl⟩
theorem of_pinsAt {fp : List Addr} {h : Heap} {p : Addr × Obj} (hp : p ∈ pinsAt fp h) : p.1 ∈ fp ∧ h.get? p.1 = some p.2 := by
  obtain ⟨b, hb, e⟩ := List.mem_filterMap.mp hp
  cases q : h.get? b with
  | none => rw [q] at e; cases e
  | some o =>
    rw [q] at e
    have e' : (b, o) = p := Option.some.inj e
    subst e'
    exact ⟨hb, q⟩
theorem Inv.pinned {pins : List (Addr × Obj)} {σ : St} {H : Hp} {s : Shared} {fp : List Addr} (I : Inv X pins σ H s) (hf : ∀ b ∈ fp, FpOk X pins H b) (ho : ∀ b ∈ fp, ∃ o, s.heap.get? b = some o ∧ ∀ v, o.data ≠ .cell v) : Inv X (pins ++ pinsAt fp s.heap) σ H s :=
  I.pins_of fun p hp => (List.mem_append.mp hp).elim (fun z => I.pin p (List.mem_append_right _ z)) fun z => by
    obtain ⟨hb, e⟩ := of_pinsAt z
    obtain ⟨f0, f1, f2, _⟩ := hf p.1 hb
    obtain ⟨o, e', d⟩ := ho p.1 hb
    rw [e] at e'; cases e'
    exact ⟨e, f0, f1, f2, d⟩
theorem Inv.unpinned {pins pl : List (Addr × Obj)} {σ : St} {H : Hp} {s : Shared} (I : Inv X (pins ++ pl) σ H s) : Inv X pins σ H s := I.pins_of fun p hp => I.pin p (List.mem_append_right _ (List.mem_append_left _ hp))
theorem ps_for {iter : Expr} {body : List Stmt} {wi : TI} {g : TG} {tb : TS} {pos : Pos} (hp : PassesOwn (model X.prog X.w) X.A X.env X.xe) (hc : X.calm = true) (hi : PI X tg iter wi) (hg : PG X tg g) (hb : PSs X body tb)
    (hs : ∀ x, foldedSetIterable iter X.env x = pure x := by intro _; rfl) : PS X (.For tg iter body [] pos) (tFor wi g tb) := by
  refine .mk ?_
  intro pins s σ H D I h
  refine wpAny_For (thn (hi pins s σ H _ I h) fun v s1 h1 => thn h1 fun itv s2 h2 => ?_) hs
  obtain ⟨it, fp, tn, J, H2, e, I2, T, st2, f2, W, ⟨m0, w0⟩, turn⟩ := h2
  subst e
  -- what stays true of the iterator's objects through the loop
  have stat : ∀ {H' : Hp}, (∀ b ∈ fp, H' b = none) → ∀ b ∈ fp, FpOk X pins H' b := fun hn b hb => ⟨hn b hb, (f2 b hb).2⟩
  refine codeAny_forLoop_any (fun n s' => ∃ i σ' H', Inv X pins σ' H' s' ∧ tn i s'.heap ∧ (∀ b ∈ fp, H' b = none) ∧ W i n σ' H') ?_ m0 ⟨0, σ, H2, I2, st2, fun b hb => (f2 b hb).1, w0⟩
  rintro n s3 ⟨i, σ3, H3, I3, st3, fr3, w3⟩
  rcases turn i n σ3 H3 w3 with ⟨stop, qn⟩ | ⟨go, N, hN, step⟩
  · refine wpAny_passesOwn hp (thn (T.done X rfl rfl rfl hc i pins s3 σ3 H3 X.xe I3 (stat fr3) st3 stop) fun r s4 ⟨hr, I4⟩ => ?_)
    subst hr
    exact wpAny_execs_nil ⟨σ3, H3, I4, qn⟩
  · refine wpAny_passesOwn hp (thn (T.item X rfl rfl rfl hc i pins s3 σ3 H3 X.xe I3 (stat fr3) st3 go) fun r s4 ⟨u, hr, h4⟩ => ?_)
    subst hr
    refine wpAny_passesOwn hp (thn h4 fun _ s5 ⟨x, H5, I5, r5, y5, st5, fr5⟩ => ?_)
    have I5' := I5.pinned (stat fr5) (T.obj _ _ st5)
    refine wpAny_passesOwn hp (thn (hg _ s5 σ3 H5 x u _ I5' r5 (step x H5 y5)) fun _ s6 ⟨σ6, H6, I6, q6⟩ => ?_)
    refine wpAny_passesOwn hp (thn (hb _ s6 σ6 H6 _ I6 q6) fun f s7 q7 => ?_)
    have again : ∀ {σ7 : St} {H7 : Hp}, Inv X (pins ++ pinsAt fp s5.heap) σ7 H7 s7 → N σ7 H7 → ∃ m, m < n ∧ ∃ i σ' H', Inv X pins σ' H' s7 ∧ tn i s7.heap ∧ (∀ b ∈ fp, H' b = none) ∧ W i m σ' H' := fun {σ7 H7} I7 n7 => by
      obtain ⟨m', hm, w7⟩ := hN σ7 H7 n7
      refine ⟨m', hm, i + 1, σ7, H7, I7.unpinned, T.keep _ _ _ st5 fun b hb o e => (I7.pin (b, o) (List.mem_append_right _ (List.mem_append_right _ (mem_pinsAt hb e)))).1, fun b hb => ?_, w7⟩
      obtain ⟨o, e, d⟩ := T.obj _ _ st5 b hb
      exact (I7.pin (b, o) (List.mem_append_right _ (List.mem_append_right _ (mem_pinsAt hb e)))).2.1
    cases f with
    | next => obtain ⟨σ7, H7, I7, n7⟩ := q7; exact again I7 n7
    | cont => obtain ⟨σ7, H7, I7, n7⟩ := q7; exact again I7 n7
    | brk => obtain ⟨σ7, H7, I7, q7⟩ := q7; exact ⟨σ7, H7, I7.unpinned, q7⟩
    | ret v => obtain ⟨x7, σ7, H7, I7, r7, q7⟩ := q7; exact ⟨x7, σ7, H7, I7.unpinned, r7, q7⟩
end

/-! ### the forms one uses -/
/-- over a list that the body leaves as it is -/
theorem for_list {K : PySem.W.Frag} {a : Addr} {xs : List V} {g : TG} {tb : TS} {D : Ends} {σ : St} {H : Hp} (Pv : Nat → St → Hp → Prop) (h0 : Pv 0 σ H) (hl : ∀ i σ H, i ≤ xs.length → Pv i σ H → SqL K H a xs)
    (hs : ∀ i x σ H, xs[i]? = some x → Pv i σ H → g x σ H fun σ2 H2 => tb { D with nx := Pv (i + 1), ct := Pv (i + 1), bk := D.nx } σ2 H2) (hd : ∀ σ H, Pv xs.length σ H → D.nx σ H) :
    ∃ W : Nat → Nat → St → Hp → Prop, (∃ m, W 0 m σ H) ∧ ∀ i m σ H, W i m σ H →
      ((Itl K a).stop i H ∧ D.nx σ H) ∨ ((Itl K a).go i H ∧ ∃ N : St → Hp → Prop, (∀ σ' H', N σ' H' → ∃ m', m' < m ∧ W (i + 1) m' σ' H') ∧ ∀ x H', (Itl K a).yld i H x H' → g x σ H' fun σ2 H2 => tb { D with nx := N, ct := N, bk := D.nx } σ2 H2) := by
  refine ⟨fun i m σ H => m = xs.length - i ∧ i ≤ xs.length ∧ Pv i σ H, ⟨xs.length, by simp, Nat.zero_le _, h0⟩, ?_⟩
  rintro i m σ H ⟨rfl, hi, p⟩
  have q := hl i σ H hi p
  by_cases hlt : i < xs.length
  · refine .inr ⟨⟨xs, xs[i], q, by simp [hlt]⟩, Pv (i + 1), fun σ' H' p' => ⟨xs.length - (i + 1), by omega, rfl, hlt, p'⟩, fun x H' y => ?_⟩
    obtain ⟨e, y⟩ := y
    subst e
    exact hs i x σ _ (y xs q) p
  · have e : i = xs.length := by omega
    subst e
    exact .inl ⟨⟨xs, q, Nat.le_refl _⟩, hd σ H p⟩
theorem for_tup {K : PySem.W.Frag} {a : Addr} {xs : List V} {g : TG} {tb : TS} {D : Ends} {σ : St} {H : Hp} (Pv : Nat → St → Hp → Prop) (h0 : Pv 0 σ H) (hl : ∀ i σ H, i ≤ xs.length → Pv i σ H → SqT K H a xs)
    (hs : ∀ i x σ H, xs[i]? = some x → Pv i σ H → g x σ H fun σ2 H2 => tb { D with nx := Pv (i + 1), ct := Pv (i + 1), bk := D.nx } σ2 H2) (hd : ∀ σ H, Pv xs.length σ H → D.nx σ H) :
    ∃ W : Nat → Nat → St → Hp → Prop, (∃ m, W 0 m σ H) ∧ ∀ i m σ H, W i m σ H →
      ((Itt K a).stop i H ∧ D.nx σ H) ∨ ((Itt K a).go i H ∧ ∃ N : St → Hp → Prop, (∀ σ' H', N σ' H' → ∃ m', m' < m ∧ W (i + 1) m' σ' H') ∧ ∀ x H', (Itt K a).yld i H x H' → g x σ H' fun σ2 H2 => tb { D with nx := N, ct := N, bk := D.nx } σ2 H2) := by
  refine ⟨fun i m σ H => m = xs.length - i ∧ i ≤ xs.length ∧ Pv i σ H, ⟨xs.length, by simp, Nat.zero_le _, h0⟩, ?_⟩
  rintro i m σ H ⟨rfl, hi, p⟩
  have q := hl i σ H hi p
  by_cases hlt : i < xs.length
  · refine .inr ⟨⟨xs, xs[i], q, by simp [hlt]⟩, Pv (i + 1), fun σ' H' p' => ⟨xs.length - (i + 1), by omega, rfl, hlt, p'⟩, fun x H' y => ?_⟩
    obtain ⟨e, y⟩ := y
    subst e
    exact hs i x σ _ (y xs q) p
  · have e : i = xs.length := by omega
    subst e
    exact .inl ⟨⟨xs, q, Nat.le_refl _⟩, hd σ H p⟩
theorem for_range {lo : Int} {n : Nat} {g : TG} {tb : TS} {D : Ends} {σ : St} {H : Hp} (Pv : Nat → St → Hp → Prop) (h0 : Pv 0 σ H)
    (hs : ∀ i σ H, i < n → Pv i σ H → g (.int (lo + i)) σ H fun σ2 H2 => tb { D with nx := Pv (i + 1), ct := Pv (i + 1), bk := D.nx } σ2 H2) (hd : ∀ σ H, Pv n σ H → D.nx σ H) :
    ∃ W : Nat → Nat → St → Hp → Prop, (∃ m, W 0 m σ H) ∧ ∀ i m σ H, W i m σ H →
      ((Itr lo n).stop i H ∧ D.nx σ H) ∨ ((Itr lo n).go i H ∧ ∃ N : St → Hp → Prop, (∀ σ' H', N σ' H' → ∃ m', m' < m ∧ W (i + 1) m' σ' H') ∧ ∀ x H', (Itr lo n).yld i H x H' → g x σ H' fun σ2 H2 => tb { D with nx := N, ct := N, bk := D.nx } σ2 H2) := by
  refine ⟨fun i m σ H => m = n - i ∧ i ≤ n ∧ Pv i σ H, ⟨n, by simp, Nat.zero_le _, h0⟩, ?_⟩
  rintro i m σ H ⟨rfl, hi, p⟩
  by_cases hlt : i < n
  · refine .inr ⟨hlt, Pv (i + 1), fun σ' H' p' => ⟨n - (i + 1), by omega, rfl, hlt, p'⟩, fun x H' y => ?_⟩
    obtain ⟨e, y⟩ := y
    subst e y
    exact hs i σ _ hlt p
  · have e : i = n := by omega
    subst e
    exact .inl ⟨Nat.le_refl _, hd σ H p⟩
/-- while, by a word and a measure of the state -/
theorem while_by {c : TT} {tb : TS} {D : Ends} {σ : St} {H : Hp} (Pv : St → Hp → Prop) (μ : St → Hp → Nat) (h0 : Pv σ H)
    (hs : ∀ σ H, Pv σ H → c σ H fun b H1 => if b = true then tb { D with nx := fun σ' H' => Pv σ' H' ∧ μ σ' H' < μ σ H, ct := fun σ' H' => Pv σ' H' ∧ μ σ' H' < μ σ H, bk := D.nx } σ H1 else D.nx σ H1)
    (mono : ∀ σ H Q Q', (∀ b H1, Q b H1 → Q' b H1) → c σ H Q → c σ H Q') : tWhile c tb D σ H := by
  refine ⟨fun m σ H => m = μ σ H ∧ Pv σ H, ⟨_, rfl, h0⟩, ?_⟩
  rintro m σ H ⟨rfl, p⟩
  refine mono σ H _ _ (fun b H1 q => ?_) (hs σ H p)
  cases b with
  | true => exact ⟨_, fun σ' H' ⟨p', l⟩ => ⟨_, l, rfl, p'⟩, q⟩
  | false => exact q
end L2

namespace L2
open PySem PySem.Spec PyProof.Rows

abbrev R2 := V → V → Hp → VK → Prop
/-- a two-place operation on values: f is binaryOp op, inplaceOp op or compareOp op -/
def OpR (X : Cx) (f : Value → Value → Sem Value) (r : R2) : Prop :=
  ∀ (pins : List (Addr × Obj)) (s : Shared) (σ : St) (H : Hp) (x y : V) (v u : Value) (Q : VK), Inv X pins σ H s → RelV x v → RelV y u → r x y H Q →
    wpAny (model X.prog X.w) X.A (f v u) (EP X pins σ Q) X.xe s
/-- a one-place operation -/
def UnR (X : Cx) (f : Value → Sem Value) (r : V → Hp → VK → Prop) : Prop :=
  ∀ (pins : List (Addr × Obj)) (s : Shared) (σ : St) (H : Hp) (x : V) (v : Value) (Q : VK), Inv X pins σ H s → RelV x v → r x H Q →
    wpAny (model X.prog X.w) X.A (f v) (EP X pins σ Q) X.xe s
/-- a call of a value that is known (a builtin, a type) with values -/
def CallR (X : Cx) (f : Value) (r : List V → Hp → VK → Prop) : Prop :=
  ∀ (pins : List (Addr × Obj)) (s : Shared) (σ : St) (H : Hp) (xs : List V) (us : List Value) (Q : VK), Inv X pins σ H s → Vals xs us → r xs H Q →
    wpAny (model X.prog X.w) X.A (call f us) (EP X pins σ Q) X.xe s
/-- a value's truth -/
def TruR (X : Cx) (r : V → Hp → (Bool → Hp → Prop) → Prop) : Prop :=
  ∀ (pins : List (Addr × Obj)) (s : Shared) (σ : St) (H : Hp) (x : V) (v : Value) (Q : Bool → Hp → Prop), Inv X pins σ H s → RelV x v → r x H Q →
    wpAny (model X.prog X.w) X.A (truthy v) (TP X pins σ Q) X.xe s

def tOp (r : R2) (ta tb : TE) : TE := fun σ H Q => ta σ H fun x H1 => tb σ H1 fun y H2 => r x y H2 Q
def tUn (r : V → Hp → VK → Prop) (ta : TE) : TE := fun σ H Q => ta σ H fun x H1 => r x H1 Q
/-- ints in, under C, and a value out -/
def rI (C : Int → Int → Prop) (g : Int → Int → V) : R2 := fun x y H Q => ∃ i j, x = .int i ∧ y = .int j ∧ C i j ∧ Q (g i j) H
def rI0 (g : Int → Int → V) : R2 := fun x y H Q => ∃ i j, x = .int i ∧ y = .int j ∧ Q (g i j) H
def rU (g : Int → V) : V → Hp → VK → Prop := fun x H Q => ∃ i, x = .int i ∧ Q (g i) H

section
variable {X : Cx} {a b c : Expr} {ta tb tc : TE} {pos : Pos}

theorem binT (ha : PE X a ta) (hb : PE X b tb) {pins : List (Addr × Obj)} {s : Shared} {σ : St} {H : Hp} {R : V → V → Hp → Prop} (I : Inv X pins σ H s)
    (h : ta σ H fun x H1 => tb σ H1 fun y H2 => R x y H2) {Q : Value → Shared → Prop} {f : Value → Value → Sem Value}
    (hf : ∀ v u s2 x y H2, Inv X pins σ H2 s2 → RelV x v → RelV y u → R x y H2 → wpAny (model X.prog X.w) X.A (f v u) Q X.xe s2) :
    wpAny (model X.prog X.w) X.A (eval a X.env) (fun v s₁ => wpAny (model X.prog X.w) X.A (eval b X.env) (fun u s₂ => wpAny (model X.prog X.w) X.A (f v u) Q X.xe s₂) X.xe s₁) X.xe s := by
  refine thn (ha pins s σ H _ I h) fun v s1 ⟨x, H1, I1, r1, q1⟩ => ?_
  refine thn (hb pins s1 σ H1 _ I1 q1) fun u s2 ⟨y, H2, I2, r2, q2⟩ => ?_
  exact hf v u s2 x y H2 I2 r1 r2 q2

theorem pe_op {op : Operator} {r : R2} (ho : OpR X (binaryOp op) r) (ha : PE X a ta) (hb : PE X b tb) : PE X (.BinOp a op b pos) (tOp r ta tb) := by
  refine .mk ?_
  intro pins s σ H Q I h
  exact wpAny_BinOp (binT ha hb I h fun v u s2 x y H2 I2 rx ry q => ho pins s2 σ H2 x y v u Q I2 rx ry q)
theorem pe_un {op : UnaryOp} {r : V → Hp → VK → Prop} (ho : UnR X (unaryOp op) r) (ha : PE X a ta) : PE X (.UnaryOp op a pos) (tUn r ta) := by
  refine .mk ?_
  intro pins s σ H Q I h
  exact UnaryOp_ (thn (ha pins s σ H _ I h) fun v s1 ⟨x, H1, I1, r1, q1⟩ => ho pins s1 σ H1 x v Q I1 r1 q1)
/-- a op= e at a name: the name's slot i -/
theorem augR {op : Operator} {r : R2} (ho : OpR X (inplaceOp op) r) {pins : List (Addr × Obj)} {s : Shared} {σ : St} {H : Hp} {x y : V} {v u : Value} {Q : VK} (I : Inv X pins σ H s)
    (rx : RelV x v) (ry : RelV y u) (q : r x y H Q) : wpAny (model X.prog X.w) X.A (inplaceOp op v u) (EP X pins σ Q) X.xe s := ho pins s σ H x y v u Q I rx ry q

/-! ### ints -/
theorem opI {f : Value → Value → Sem Value} {C : Int → Int → Prop} {g : Int → Int → Int}
    (rule : ∀ (i j : Int) (t u : Tok) (s : Shared) (Q : Value → Shared → Prop) (E : Value → Shared → Prop), C i j → Q (.int (g i j) s.toks) { s with toks := s.toks + 1 } → wpAny (model X.prog X.w) X.A (f (.int i t) (.int j u)) Q E s) :
    OpR X f (rI C fun i j => .int (g i j)) := by
  intro pins s σ H x y v u Q I rx ry h
  obtain ⟨i, j, rfl, rfl, hc, q⟩ := h
  obtain ⟨t, rfl⟩ := rx
  obtain ⟨t', rfl⟩ := ry
  exact rule i j t t' s _ _ hc ⟨.int (g i j), H, I.tok _, ⟨_, rfl⟩, q⟩
theorem opI0 {f : Value → Value → Sem Value} {g : Int → Int → Int}
    (rule : ∀ (i j : Int) (t u : Tok) (s : Shared) (Q : Value → Shared → Prop) (E : Value → Shared → Prop), Q (.int (g i j) s.toks) { s with toks := s.toks + 1 } → wpAny (model X.prog X.w) X.A (f (.int i t) (.int j u)) Q E s) :
    OpR X f (rI0 fun i j => .int (g i j)) := by
  intro pins s σ H x y v u Q I rx ry h
  obtain ⟨i, j, rfl, rfl, q⟩ := h
  obtain ⟨t, rfl⟩ := rx
  obtain ⟨t', rfl⟩ := ry
  exact rule i j t t' s _ _ ⟨.int (g i j), H, I.tok _, ⟨_, rfl⟩, q⟩
theorem opB0 {f : Value → Value → Sem Value} {g : Int → Int → Bool}
    (rule : ∀ (i j : Int) (t u : Tok) (s : Shared) (Q : Value → Shared → Prop) (E : Value → Shared → Prop), Q (.bool (g i j)) s → wpAny (model X.prog X.w) X.A (f (.int i t) (.int j u)) Q E s) :
    OpR X f (rI0 fun i j => .bl (g i j)) := by
  intro pins s σ H x y v u Q I rx ry h
  obtain ⟨i, j, rfl, rfl, q⟩ := h
  obtain ⟨t, rfl⟩ := rx
  obtain ⟨t', rfl⟩ := ry
  exact rule i j t t' s _ _ ⟨.bl (g i j), H, I, rfl, q⟩

def CDiv (i j : Int) : Prop := 0 < j ∧ j < 1073741824
def CDivN (i j : Int) : Prop := j ≠ 0 ∧ j.natAbs < 1073741824
def CPow (i j : Int) : Prop := 0 ≤ j ∧ j ≤ 1000000 ∧ i.natAbs < 2 ^ 64
def CMul (i j : Int) : Prop := (-(2 ^ 64) < i ∧ i < 2 ^ 64) ∨ (-(2 ^ 64) < j ∧ j < 2 ^ 64)
theorem CMul.ok {i j : Int} (h : CMul i j) : IntMulOk i j := by
  rcases h with ⟨h1, h2⟩ | ⟨h1, h2⟩
  · exact .of_left (intBits_le_64 h1 h2)
  · exact .of_right (intBits_le_64 h1 h2)
theorem two_pow_nn (k : Nat) : (0 : Int) ≤ 2 ^ k := by
  rw [two_pow_cast]
  exact Int.natCast_nonneg _

theorem op_add : OpR X (binaryOp .Add) (rI0 fun i j => .int (i + j)) := opI0 fun _ _ _ _ _ _ _ q => add_int q
theorem op_sub : OpR X (binaryOp .Sub) (rI0 fun i j => .int (i - j)) := opI0 fun _ _ _ _ _ _ _ q => sub_int q
theorem op_mul : OpR X (binaryOp .Mult) (rI CMul fun i j => .int (i * j)) := opI fun _ _ _ _ _ _ _ hc q => mul_int q hc.ok
/-- // by a positive divisor -/
theorem op_fdiv : OpR X (binaryOp .FloorDiv) (rI CDiv fun i j => .int (i / j)) := opI fun i j _ _ _ _ _ hc q => by
  have h1 : (0 : Int) < j := hc.1
  have h2 : j < 1073741824 := hc.2
  exact floordiv_int (by omega) (by rw [Int.fdiv_eq_ediv_of_nonneg i (by omega)]; exact q) (.inl (PyProof.noPylong_small (by omega)))
theorem op_fdivN : OpR X (binaryOp .FloorDiv) (rI CDivN fun i j => .int (i.fdiv j)) := opI fun _ _ _ _ _ _ _ hc q => floordiv_int hc.1 q (.inl (PyProof.noPylong_small hc.2))
/-- % by a positive divisor of any size -/
theorem op_mod : OpR X (binaryOp .Mod) (rI (fun _ j => 0 < j) fun i j => .int (i % j)) := opI fun i j _ _ _ _ _ hc q => by
  have h1 : (0 : Int) < j := hc
  exact mod_int' (by omega) (by rw [Int.fmod_eq_emod_of_nonneg i (by omega)]; exact q)
theorem op_modN : OpR X (binaryOp .Mod) (rI (fun _ j => j ≠ 0) fun i j => .int (i.fmod j)) := opI fun _ _ _ _ _ _ _ hc q => mod_int' hc q
theorem op_pow : OpR X (binaryOp .Pow) (rI CPow fun i j => .int (i ^ j.toNat)) := opI fun _ _ _ _ _ _ _ hc q => pow_int_small hc.1 hc.2.1 hc.2.2 q
theorem op_shl : OpR X (binaryOp .LShift) (rI CPow fun i j => .int (i * 2 ^ j.toNat)) := opI fun _ _ _ _ _ _ _ hc q => lshift_int_small hc.1 hc.2.1 hc.2.2 q
theorem op_shr : OpR X (binaryOp .RShift) (rI (fun _ j => 0 ≤ j) fun i j => .int (i / 2 ^ j.toNat)) := opI fun i j _ _ _ _ _ hc q =>
  rshift_int hc (by rw [Int.fdiv_eq_ediv_of_nonneg i (two_pow_nn _)]; exact q)
theorem op_and : OpR X (binaryOp .BitAnd) (rI0 fun i j => .int (Builtin.bitAnd i j)) := opI0 fun _ _ _ _ _ _ _ q => and_int q
theorem op_or : OpR X (binaryOp .BitOr) (rI0 fun i j => .int (Builtin.bitOr i j)) := opI0 fun _ _ _ _ _ _ _ q => or_int q
theorem op_xor : OpR X (binaryOp .BitXor) (rI0 fun i j => .int (Builtin.bitXor i j)) := opI0 fun _ _ _ _ _ _ _ q => xor_int q

theorem iop_add : OpR X (inplaceOp .Add) (rI0 fun i j => .int (i + j)) := opI0 fun _ _ _ _ _ _ _ q => iadd_int q
theorem iop_sub : OpR X (inplaceOp .Sub) (rI0 fun i j => .int (i - j)) := opI0 fun _ _ _ _ _ _ _ q => isub_int q
theorem iop_mul : OpR X (inplaceOp .Mult) (rI CMul fun i j => .int (i * j)) := opI fun _ _ _ _ _ _ _ hc q => imul_int q hc.ok
theorem iop_fdiv : OpR X (inplaceOp .FloorDiv) (rI CDiv fun i j => .int (i / j)) := opI fun i j _ _ _ _ _ hc q => by
  have h1 : (0 : Int) < j := hc.1
  have h2 : j < 1073741824 := hc.2
  exact ifloordiv_int (by omega) (by rw [Int.fdiv_eq_ediv_of_nonneg i (by omega)]; exact q) (.inl (PyProof.noPylong_small (by omega)))
theorem iop_mod : OpR X (inplaceOp .Mod) (rI (fun _ j => 0 < j) fun i j => .int (i % j)) := opI fun i j _ _ _ _ _ hc q => by
  have h1 : (0 : Int) < j := hc
  exact imod_int (by omega) (by rw [Int.fmod_eq_emod_of_nonneg i (by omega)]; exact q)
theorem iop_shl : OpR X (inplaceOp .LShift) (rI CPow fun i j => .int (i * 2 ^ j.toNat)) := opI fun _ _ _ _ _ _ _ hc q => ilshift_int_small hc.1 hc.2.1 hc.2.2 q
theorem iop_shr : OpR X (inplaceOp .RShift) (rI (fun _ j => 0 ≤ j) fun i j => .int (i / 2 ^ j.toNat)) := opI fun i j _ _ _ _ _ hc q =>
  irshift_int hc (by rw [Int.fdiv_eq_ediv_of_nonneg i (two_pow_nn _)]; exact q)
theorem iop_and : OpR X (inplaceOp .BitAnd) (rI0 fun i j => .int (Builtin.bitAnd i j)) := opI0 fun _ _ _ _ _ _ _ q => iand_int q
theorem iop_or : OpR X (inplaceOp .BitOr) (rI0 fun i j => .int (Builtin.bitOr i j)) := opI0 fun _ _ _ _ _ _ _ q => ior_int q
theorem iop_xor : OpR X (inplaceOp .BitXor) (rI0 fun i j => .int (Builtin.bitXor i j)) := opI0 fun _ _ _ _ _ _ _ q => ixor_int q

theorem unI {f : Value → Sem Value} {g : Int → Int}
    (rule : ∀ (i : Int) (t : Tok) (s : Shared) (Q : Value → Shared → Prop) (E : Value → Shared → Prop), Q (.int (g i) s.toks) { s with toks := s.toks + 1 } → wpAny (model X.prog X.w) X.A (f (.int i t)) Q E s) :
    UnR X f (rU fun i => .int (g i)) := by
  intro pins s σ H x v Q I rx h
  obtain ⟨i, rfl, q⟩ := h
  obtain ⟨t, rfl⟩ := rx
  exact rule i t s _ _ ⟨.int (g i), H, I.tok _, ⟨_, rfl⟩, q⟩
theorem un_neg : UnR X (unaryOp .USub) (rU fun i => .int (-i)) := unI fun _ _ _ _ _ q => neg_int q
theorem un_inv : UnR X (unaryOp .Invert) (rU fun i => .int (Builtin.bitNot i)) := unI fun _ _ _ _ _ q => invert_int q

/-! ### bools among ints: n += (a < b) -/
theorem op_add_ib : OpR X (binaryOp .Add) (fun x y H Q => ∃ i k, x = .int i ∧ y = .bl k ∧ Q (.int (i + b2i k)) H) := by
  intro pins s σ H x y v u Q I rx ry h
  obtain ⟨i, k, rfl, rfl, q⟩ := h
  obtain ⟨t, rfl⟩ := rx
  cases ry
  exact add_int_bool ⟨.int (i + b2i k), H, I.tok _, ⟨_, rfl⟩, q⟩
end

/-! ### comparisons -/
/-- the scalars that == tells apart as data does -/
def scal : V → V → Bool
  | .non, .non => true | .non, .int _ => true | .int _, .non => true | .non, .bl _ => true | .bl _, .non => true | .non, .str _ => true | .str _, .non => true
  | .int _, .int _ => true | .bl _, .bl _ => true | .str _, .str _ => true | .byt _, .byt _ => true
  | .int _, .str _ => true | .str _, .int _ => true | .bl _, .str _ => true | .str _, .bl _ => true
  | _, _ => false
def rEq : R2 := fun x y H Q => scal x y = true ∧ Q (.bl (decide (x = y))) H
def rNe : R2 := fun x y H Q => scal x y = true ∧ Q (.bl (!decide (x = y))) H

theorem dec_int {i j : Int} : decide (V.int i = V.int j) = (i == j) := by
  rw [Bool.eq_iff_iff]
  simp
theorem dec_bl {i j : Bool} : decide (V.bl i = V.bl j) = (i == j) := by
  rw [Bool.eq_iff_iff]
  simp
theorem dec_str {i j : Str} : decide (V.str i = V.str j) = (i == j) := by
  rw [Bool.eq_iff_iff]
  simp
theorem dec_byt {i j : Array UInt8} : decide (V.byt i = V.byt j) = (i.toList == j.toList) := by
  rw [Bool.eq_iff_iff]
  cases i
  cases j
  simp

section
variable {X : Cx} {a b c : Expr} {ta tb tc : TE} {pos : Pos}
theorem fin_bl {pins : List (Addr × Obj)} {σ : St} {H : Hp} {s : Shared} {Q : VK} {k k' : Bool} (I : Inv X pins σ H s) (q : Q (.bl k) H) (e : k = k') : EP X pins σ Q (.bool k') s := by
  subst e
  exact ⟨.bl k, H, I, rfl, q⟩
theorem op_eq : OpR X (compareOp .Eq) rEq := by
  intro pins s σ H x y v u Q I rx ry h
  obtain ⟨hs, q⟩ := h
  cases x with
  | non =>
    cases rx
    cases y with
    | non => cases ry; exact PySem.EqNone.eq_none_none (fin_bl I q (by simp))
    | bl j => cases ry; exact PySem.EqNone.eq_none_bool (fin_bl I q (by simp))
    | int j => obtain ⟨t', rfl⟩ := ry; exact PySem.EqNone.eq_none_int (fin_bl I q (by simp))
    | str j => obtain ⟨t', rfl⟩ := ry; exact PySem.EqNone.eq_none_str (fin_bl I q (by simp))
    | _ => exact absurd (show false = true from hs) Bool.false_ne_true
  | bl i =>
    cases rx
    cases y with
    | non => cases ry; exact PySem.EqNone.eq_bool_none (fin_bl I q (by simp))
    | bl j => cases ry; exact eq_bool (fin_bl I q dec_bl)
    | str j => obtain ⟨t', rfl⟩ := ry; exact PySem.EqMixed.eq_bool_str (fin_bl I q (by simp))
    | _ => exact absurd (show false = true from hs) Bool.false_ne_true
  | int i =>
    obtain ⟨t, rfl⟩ := rx
    cases y with
    | non => cases ry; exact PySem.EqNone.eq_int_none (fin_bl I q (by simp))
    | int j => obtain ⟨t', rfl⟩ := ry; exact eq_int (fin_bl I q dec_int)
    | str j => obtain ⟨t', rfl⟩ := ry; exact PySem.EqMixed.eq_int_str (fin_bl I q (by simp))
    | _ => exact absurd (show false = true from hs) Bool.false_ne_true
  | str i =>
    obtain ⟨t, rfl⟩ := rx
    cases y with
    | non => cases ry; exact PySem.EqNone.eq_str_none (fin_bl I q (by simp))
    | bl j => cases ry; exact PySem.EqMixed.eq_str_bool (fin_bl I q (by simp))
    | int j => obtain ⟨t', rfl⟩ := ry; exact PySem.EqMixed.eq_str_int (fin_bl I q (by simp))
    | str j => obtain ⟨t', rfl⟩ := ry; exact eq_str (fin_bl I q dec_str)
    | _ => exact absurd (show false = true from hs) Bool.false_ne_true
  | byt i =>
    obtain ⟨t, rfl⟩ := rx
    cases y with
    | byt j => obtain ⟨t', rfl⟩ := ry; exact PySem.W.eq_bytes (fin_bl I q dec_byt)
    | _ => exact absurd (show false = true from hs) Bool.false_ne_true
  | _ => cases y <;> exact absurd (show false = true from hs) Bool.false_ne_true
theorem op_ne : OpR X (compareOp .NotEq) rNe := by
  intro pins s σ H x y v u Q I rx ry h
  obtain ⟨hs, q⟩ := h
  cases x with
  | non =>
    cases rx
    cases y with
    | non => cases ry; exact PySem.EqNone.ne_none_none (fin_bl I q (by simp))
    | bl j => cases ry; exact PySem.EqNone.ne_none_bool (fin_bl I q (by simp))
    | int j => obtain ⟨t', rfl⟩ := ry; exact PySem.EqNone.ne_none_int (fin_bl I q (by simp))
    | str j => obtain ⟨t', rfl⟩ := ry; exact PySem.EqNone.ne_none_str (fin_bl I q (by simp))
    | _ => exact absurd (show false = true from hs) Bool.false_ne_true
  | bl i =>
    cases rx
    cases y with
    | non => cases ry; exact PySem.EqNone.ne_bool_none (fin_bl I q (by simp))
    | bl j => cases ry; exact ne_bool (fin_bl I q (congrArg not dec_bl))
    | str j => obtain ⟨t', rfl⟩ := ry; exact PySem.EqMixed.ne_bool_str (fin_bl I q (by simp))
    | _ => exact absurd (show false = true from hs) Bool.false_ne_true
  | int i =>
    obtain ⟨t, rfl⟩ := rx
    cases y with
    | non => cases ry; exact PySem.EqNone.ne_int_none (fin_bl I q (by simp))
    | int j => obtain ⟨t', rfl⟩ := ry; exact ne_int (fin_bl I q (congrArg not dec_int))
    | str j => obtain ⟨t', rfl⟩ := ry; exact PySem.EqMixed.ne_int_str (fin_bl I q (by simp))
    | _ => exact absurd (show false = true from hs) Bool.false_ne_true
  | str i =>
    obtain ⟨t, rfl⟩ := rx
    cases y with
    | non => cases ry; exact PySem.EqNone.ne_str_none (fin_bl I q (by simp))
    | bl j => cases ry; exact PySem.EqMixed.ne_str_bool (fin_bl I q (by simp))
    | int j => obtain ⟨t', rfl⟩ := ry; exact PySem.EqMixed.ne_str_int (fin_bl I q (by simp))
    | str j => obtain ⟨t', rfl⟩ := ry; exact ne_str (fin_bl I q (congrArg not dec_str))
    | _ => exact absurd (show false = true from hs) Bool.false_ne_true
  | byt i =>
    obtain ⟨t, rfl⟩ := rx
    cases y with
    | byt j => obtain ⟨t', rfl⟩ := ry; exact PySem.W.ne_bytes (fin_bl I q (congrArg not dec_byt))
    | _ => exact absurd (show false = true from hs) Bool.false_ne_true
  | _ => cases y <;> exact absurd (show false = true from hs) Bool.false_ne_true

theorem op_lt : OpR X (compareOp .Lt) (rI0 fun i j => .bl (decide (i < j))) := opB0 fun _ _ _ _ _ _ _ q => lt_int q
theorem op_le : OpR X (compareOp .LtE) (rI0 fun i j => .bl (decide (i ≤ j))) := opB0 fun _ _ _ _ _ _ _ q => le_int q
theorem op_gt : OpR X (compareOp .Gt) (rI0 fun i j => .bl (decide (j < i))) := opB0 fun _ _ _ _ _ _ _ q => gt_int q
theorem op_ge : OpR X (compareOp .GtE) (rI0 fun i j => .bl (decide (j ≤ i))) := opB0 fun _ _ _ _ _ _ _ q => ge_int q
theorem op_lt_str : OpR X (compareOp .Lt) (fun x y H Q => ∃ i j, x = .str i ∧ y = .str j ∧ Q (.bl (decide (i.cps.toList < j.cps.toList))) H) := by
  intro pins s σ H x y v u Q I rx ry h
  obtain ⟨i, j, rfl, rfl, q⟩ := h
  obtain ⟨t, rfl⟩ := rx
  obtain ⟨t', rfl⟩ := ry
  exact lt_str (fin_bl I q rfl)
/-- the one string within the other -/
theorem op_in_str : OpR X (compareOp .In) (fun x y H Q => ∃ i j, x = .str i ∧ y = .str j ∧ Q (.bl (!(Builtin.Str.occurrences j i 0 j.length 1).isEmpty)) H) := by
  intro pins s σ H x y v u Q I rx ry h
  obtain ⟨i, j, rfl, rfl, q⟩ := h
  obtain ⟨t, rfl⟩ := rx
  obtain ⟨t', rfl⟩ := ry
  exact in_str (fin_bl I q rfl)

/-- is None, is not None: the right side a value none -/
theorem op_isN : OpR X (compareOp .Is) (fun x y H Q => y = .non ∧ Q (.bl (decide (x = .non))) H) := by
  intro pins s σ H x y v u Q I rx ry h
  obtain ⟨rfl, q⟩ := h
  cases ry
  refine is_none_gen (fin_bl I q ?_)
  cases x <;> first
    | (cases rx; rfl)
    | (obtain ⟨t, rfl⟩ := rx; rfl)
theorem op_notN : OpR X (compareOp .IsNot) (fun x y H Q => y = .non ∧ Q (.bl (!decide (x = .non))) H) := by
  intro pins s σ H x y v u Q I rx ry h
  obtain ⟨rfl, q⟩ := h
  cases ry
  refine isnot_none_gen (fin_bl I q ?_)
  cases x <;> first
    | (cases rx; rfl)
    | (obtain ⟨t, rfl⟩ := rx; rfl)

theorem op_notin_str : OpR X (compareOp .NotIn) (fun x y H Q => ∃ i j, x = .str i ∧ y = .str j ∧ Q (.bl (!(!(Builtin.Str.occurrences j i 0 j.length 1).isEmpty))) H) := by
  intro pins s σ H x y v u Q I rx ry h
  obtain ⟨i, j, rfl, rfl, q⟩ := h
  obtain ⟨t, rfl⟩ := rx
  obtain ⟨t', rfl⟩ := ry
  exact notIn_str (fin_bl I q rfl)
/-- is, is not of two objects that are tracked lists or instances -/
def isObj : HO → Bool
  | .lst _ => true
  | .ins _ _ _ => true
  | _ => false
theorem obj_there {pins : List (Addr × Obj)} {s : Shared} {σ : St} {H : Hp} {a : Addr} {o : HO} (I : Inv X pins σ H s) (h : H a = some o) (p : isObj o = true) : ∃ ob, s.heap.get? a = some ob ∧ ob.cls ≠ .type "tuple" := by
  cases o with
  | lst xs =>
    obtain ⟨_, its, n, _, e⟩ : xs.length ≤ sizeLine ∧ ∃ (its : List Value) (n : Nat), Vals xs its ∧ s.heap.get? a = some { cls := .type "list", data := .seq its.toArray n } := I.hok a _ h
    exact ⟨_, e, (by show Value.type "list" ≠ .type "tuple"; decide +kernel)⟩
  | ins C dx fs =>
    have x := I.hok a _ h
    obtain ⟨_, _, _, e, _⟩ := x
    exact ⟨_, e, (by show Value.ref C ≠ .type "tuple"; exact fun z => by cases z)⟩
  | _ => exact absurd (show false = true from p) Bool.false_ne_true
theorem op_is_ref : OpR X (compareOp .Is) (fun x y H Q => ∃ a b oa ob, x = .ref a ∧ y = .ref b ∧ H a = some oa ∧ isObj oa = true ∧ H b = some ob ∧ isObj ob = true ∧ Q (.bl (decide (a = b))) H) := by
  intro pins s σ H x y v u Q I rx ry h
  obtain ⟨a, b, oa, ob, rfl, rfl, ha, pa, hb, pb, q⟩ := h
  cases rx
  cases ry
  obtain ⟨o1, e1, n1⟩ := obj_there I ha pa
  obtain ⟨o2, e2, _⟩ := obj_there I hb pb
  by_cases z : a = b
  · subst z
    exact wpAny_is_ref_self (fin_bl I q (by simp))
  · exact wpAny_is_ref_other z e1 e2 n1 (fin_bl I q (by simp [z]))
theorem op_isnot_ref : OpR X (compareOp .IsNot) (fun x y H Q => ∃ a b oa ob, x = .ref a ∧ y = .ref b ∧ H a = some oa ∧ isObj oa = true ∧ H b = some ob ∧ isObj ob = true ∧ Q (.bl (!decide (a = b))) H) := by
  intro pins s σ H x y v u Q I rx ry h
  obtain ⟨a, b, oa, ob, rfl, rfl, ha, pa, hb, pb, q⟩ := h
  cases rx
  cases ry
  obtain ⟨o1, e1, n1⟩ := obj_there I ha pa
  obtain ⟨o2, e2, _⟩ := obj_there I hb pb
  by_cases z : a = b
  · subst z
    exact wpAny_isNot_ref_self (fin_bl I q (by simp))
  · exact wpAny_isNot_ref_other z e1 e2 n1 (fin_bl I q (by simp [z]))

/-- two rules for one operation: by cases -/
theorem OpR.or {f : Value → Value → Sem Value} {r r' : R2} (h : OpR X f r) (h' : OpR X f r') : OpR X f (fun x y H Q => r x y H Q ∨ r' x y H Q) := by
  intro pins s σ H x y v u Q I rx ry q
  rcases q with q | q
  · exact h pins s σ H x y v u Q I rx ry q
  · exact h' pins s σ H x y v u Q I rx ry q

theorem nomark (b : Expr) {op : CmpOp} (h : op ≠ .In := by decide) (h2 : op ≠ .NotIn := by decide) : behindInMarks op b = false := by
  have e1 : (op == CmpOp.In) = false := by cases op <;> first | rfl | exact absurd rfl h
  have e2 : (op == CmpOp.NotIn) = false := by cases op <;> first | rfl | exact absurd rfl h2
  cases b <;> simp [behindInMarks, e1, e2]
/-- a comparison as a value; hm: nomark b, or (for in, not in) by with_unfolding_all rfl -/
theorem pe_cmpR {op : CmpOp} {r : R2} (ho : OpR X (compareOp op) r) (ha : PE X a ta) (hb : PE X b tb) (hm : behindInMarks op b = false) : PE X (.Compare a [op] [b] pos) (tOp r ta tb) := by
  refine .mk ?_
  intro pins s σ H Q I h
  exact wpAny_Compare1 (binT ha hb I h fun v u s2 x y H2 I2 rx ry q => ho pins s2 σ H2 x y v u Q I2 rx ry q) hm
/-- a reading of a value as a test -/
def tTest (t : TE) : TT := fun σ H Q => t σ H fun x H' => ∃ k, x = .bl k ∧ Q k H'
theorem pt_cmpR {op : CmpOp} {r : R2} (ho : OpR X (compareOp op) r) (ha : PE X a ta) (hb : PE X b tb) (hm : behindInMarks op b = false) : PT X (.Compare a [op] [b] pos) (tTest (tOp r ta tb)) := by
  refine .mk ?_
  intro pins s σ H Q I h
  refine wpAny_isTrue_Compare1 (thn (ha pins s σ H _ I h) fun v s1 ⟨x, H1, I1, r1, q1⟩ => thn (hb pins s1 σ H1 _ I1 q1) fun u s2 ⟨y, H2, I2, r2, q2⟩ =>
    thn (ho pins s2 σ H2 x y v u _ I2 r1 r2 q2) fun c s3 ⟨z, H3, I3, r3, k, e, q3⟩ => ?_) hm
  subst e
  cases r3
  exact wpAny_truthy_bool ⟨H3, I3, q3⟩
/-- a op1 b op2 c -/
def tChain (r r' : R2) (ta tb tc : TE) : TE := fun σ H Q => ta σ H fun x H1 => tb σ H1 fun y H2 => r x y H2 fun z H3 => ∃ k, z = .bl k ∧
  (if k = true then tc σ H3 fun w' H4 => r' y w' H4 Q else Q (.bl false) H3)
theorem pe_chain {op op' : CmpOp} {r r' : R2} (ho : OpR X (compareOp op) r) (ho' : OpR X (compareOp op') r') (ha : PE X a ta) (hb : PE X b tb) (hc : PE X c tc)
    (hm : lastMarks [op, op'] [b, c] = false := by with_unfolding_all rfl) : PE X (.Compare a [op, op'] [b, c] pos) (tChain r r' ta tb tc) := by
  refine .mk ?_
  intro pins s σ H Q I h
  refine Compare_chain (thn (ha pins s σ H _ I h) fun v s1 ⟨x, H1, I1, r1, q1⟩ => chain_link (thn (hb pins s1 σ H1 _ I1 q1) fun u s2 ⟨y, H2, I2, r2, q2⟩ =>
    thn (ho pins s2 σ H2 x y v u _ I2 r1 r2 q2) fun d s3 ⟨z, H3, I3, r3, k, e, q3⟩ => ?_)) hm
  subst e
  cases r3
  refine wpAny_truthy_bool ?_
  cases k with
  | false => exact ite_ff ⟨.bl false, H3, I3, rfl, q3⟩
  | true => exact ite_tt (chain_last (thn (hc pins s3 σ H3 _ I3 q3) fun w' s4 ⟨z', H4, I4, r4, q4⟩ => ho' pins s4 σ H4 y z' u w' Q I4 r2 r4 q4))
theorem pt_chain {op op' : CmpOp} {r r' : R2} (ho : OpR X (compareOp op) r) (ho' : OpR X (compareOp op') r') (ha : PE X a ta) (hb : PE X b tb) (hc : PE X c tc)
    (hm : lastMarks [op, op'] [b, c] = false := by with_unfolding_all rfl) : PT X (.Compare a [op, op'] [b, c] pos) (tTest (tChain r r' ta tb tc)) := by
  refine .mk ?_
  intro pins s σ H Q I h
  refine isTrue_chain (thn (ha pins s σ H _ I h) fun v s1 ⟨x, H1, I1, r1, q1⟩ => test_link (thn (hb pins s1 σ H1 _ I1 q1) fun u s2 ⟨y, H2, I2, r2, q2⟩ =>
    thn (ho pins s2 σ H2 x y v u _ I2 r1 r2 q2) fun d s3 ⟨z, H3, I3, r3, k, e, q3⟩ => ?_)) hm
  subst e
  cases r3
  refine wpAny_truthy_bool ?_
  cases k with
  | false =>
    obtain ⟨k', e', q'⟩ := q3
    cases e'
    exact ite_ff ⟨H3, I3, q'⟩
  | true =>
    refine ite_tt (test_last (thn (hc pins s3 σ H3 _ I3 q3) fun w' s4 ⟨z', H4, I4, r4, q4⟩ => thn (ho' pins s4 σ H4 y z' u w' _ I4 r2 r4 q4) fun d' s5 ⟨z2, H5, I5, r5, k2, e2, q5⟩ => ?_))
    subst e2
    cases r5
    exact wpAny_truthy_bool ⟨H5, I5, q5⟩

/-! ### truth -/
/-- a value's truth by the abstract heap -/
def TruV (K : PySem.W.Frag) (x : V) (H : Hp) (k : Bool) : Prop :=
  match x with
  | .non => k = false
  | .bl b => k = b
  | .int i => k = (i != 0)
  | .str y => y.length ≤ sizeLine ∧ k = ((y.length : Int) != 0)
  | .byt y => y.size ≤ sizeLine ∧ k = ((y.size : Int) != 0)
  | .ref p => (∃ xs, SqL K H p xs ∧ k = !xs.isEmpty) ∨ (∃ xs, SqT K H p xs ∧ k = !xs.isEmpty) ∨ ∃ kvs, H p = some (.dK kvs) ∧ k = !kvs.isEmpty
  | _ => False
theorem isEmpty_kv {κ : Type} {kvs : List (κ × V)} {vs : List (κ × Value)} (r : KV kvs vs) : (!vs.isEmpty) = !kvs.isEmpty := by
  cases r <;> rfl
theorem isEmpty_of {xs : List V} {its : List Value} (r : Vals xs its) : (!its.toArray.isEmpty) = !xs.isEmpty := by
  cases r <;> simp
theorem line63 : (sizeLine : Nat) < 2 ^ 63 := by rw [sizeLine_eq]; decide
theorem tru_ok : TruR X (fun x H Q => ∃ k, TruV X.K x H k ∧ Q k H) := by
  intro pins s σ H x v Q I rx h
  obtain ⟨k, e, q⟩ := h
  have hl := line63
  have hs : sizeLine = 16777216 := sizeLine_eq
  cases x with
  | non =>
    cases rx
    have e' : k = false := e
    subst e'
    exact truthy_none ⟨H, I, q⟩
  | bl b =>
    cases rx
    have e' : k = b := e
    subst e'
    exact wpAny_truthy_bool ⟨H, I, q⟩
  | int i =>
    obtain ⟨t, rfl⟩ := rx
    have e' : k = (i != 0) := e
    subst e'
    exact PySem.P.truthy_int ⟨H, I, q⟩
  | str y =>
    obtain ⟨t, rfl⟩ := rx
    obtain ⟨hy, e'⟩ : y.length ≤ sizeLine ∧ k = ((y.length : Int) != 0) := e
    subst e'
    exact PySem.P.truthy_str (by omega) ⟨H, I.tok _, q⟩
  | byt y =>
    obtain ⟨t, rfl⟩ := rx
    obtain ⟨hy, e'⟩ : y.size ≤ sizeLine ∧ k = ((y.size : Int) != 0) := e
    subst e'
    exact PySem.W.truthy_bytes (by omega) ⟨H, I.tok _, q⟩
  | ref p =>
    cases rx
    have e' : (∃ xs, SqL X.K H p xs ∧ k = !xs.isEmpty) ∨ (∃ xs, SqT X.K H p xs ∧ k = !xs.isEmpty) ∨ ∃ kvs, H p = some (.dK kvs) ∧ k = !kvs.isEmpty := e
    rcases e' with ⟨xs, hx, e'⟩ | ⟨xs, hx, e'⟩ | ⟨kvs, hx, e'⟩
    · subst e'
      obtain ⟨its, r, pl, hz⟩ := I.list hx
      have hlen := r.length
      exact wpAny_truthy_list pl.isList (by simp only [List.size_toArray]; omega) ⟨H, I.tok _, by rw [isEmpty_of r]; exact q⟩
    · subst e'
      obtain ⟨its, r, pl, hz⟩ := I.tuple hx
      have hlen := r.length
      exact truthy_tuple pl (by simp only [List.size_toArray]; omega) ⟨H, I.tok _, by rw [isEmpty_of r]; exact q⟩
    · subst e'
      obtain ⟨hz, hS, vs, r, m⟩ : kvs.length ≤ sizeLine ∧ (p == sysModules) = false ∧ ∃ vs, KV kvs vs ∧ s.heap.DictOf (mixKind X.prog X.w) p vs := I.hok p _ hx
      have hlen : kvs.length = vs.length := Paired.length r
      exact wpAny_truthy_dict hS m (by omega) ⟨H, I.tok _, by rw [isEmpty_kv r]; exact q⟩
  | _ => exact (show False from e).elim
/-- any expression whose test is its value's truth (a name, a call, a subscript, a field ..: he by fun _ => rfl) -/
theorem pt_truth (ha : PE X a ta) (he : ∀ whole, isTrue a X.env whole = (do let v ← whole; standAt a.pos; holding [v] (truthy v))) :
    PT X a (fun σ H Q => ta σ H fun x H' => ∃ k, TruV X.K x H' k ∧ Q k H') := by
  refine .mk ?_
  intro pins s σ H Q I h
  exact isTrue_plain (thn (ha pins s σ H _ I h) fun v s1 ⟨x, H1, I1, r1, q1⟩ => tru_ok pins s1 σ H1 x v Q I1 r1 q1) (he _)

/-! ### strs and bytes -/
theorem pe_byt {x : List UInt8} {k : Nat} : PE X (.Constant (.bytes x) k pos) (fun _ H Q => Q (.byt x.toArray) H) := .mk fun _ _ _ H _ I h => PySem.W.Constant_bytes ⟨.byt x.toArray, H, I.tok _, ⟨_, rfl⟩, h⟩
theorem op_add_str : OpR X (binaryOp .Add) (fun x y H Q => ∃ i j, x = .str i ∧ y = .str j ∧ i.length + j.length ≤ sizeLine ∧ Q (.str (i ++ j)) H) := by
  intro pins s σ H x y v u Q I rx ry h
  obtain ⟨i, j, rfl, rfl, hz, q⟩ := h
  obtain ⟨t, rfl⟩ := rx
  obtain ⟨t', rfl⟩ := ry
  exact add_str (fun t' tk => ⟨.str (i ++ j), H, I.tok _, ⟨_, rfl⟩, q⟩) hz
theorem iop_add_str : OpR X (inplaceOp .Add) (fun x y H Q => ∃ i j, x = .str i ∧ y = .str j ∧ i.length + j.length ≤ sizeLine ∧ Q (.str (i ++ j)) H) := by
  intro pins s σ H x y v u Q I rx ry h
  obtain ⟨i, j, rfl, rfl, hz, q⟩ := h
  obtain ⟨t, rfl⟩ := rx
  obtain ⟨t', rfl⟩ := ry
  exact iadd_str (fun t' tk => ⟨.str (i ++ j), H, I.tok _, ⟨_, rfl⟩, q⟩) hz
theorem op_add_byt : OpR X (binaryOp .Add) (fun x y H Q => ∃ i j, x = .byt i ∧ y = .byt j ∧ i.size + j.size ≤ 16777216 ∧ Q (.byt (i ++ j)) H) := by
  intro pins s σ H x y v u Q I rx ry h
  obtain ⟨i, j, rfl, rfl, hz, q⟩ := h
  obtain ⟨t, rfl⟩ := rx
  obtain ⟨t', rfl⟩ := ry
  exact PySem.W.KBy.add_bytes hz (fun t' tk => ⟨.byt (i ++ j), H, I.tok _, ⟨_, rfl⟩, q⟩)

def PlainIxT (b : Expr) : Prop := ∀ o i, subscripted b false o i = operate [o, i] (getItem o i)
/-- s[i], 0 ≤ i < len -/
theorem pe_item_str (ha : PE X a ta) (hb : PE X b tb) (hs : PlainIxT b) :
    PE X (.Subscript a b pos) (tOp (fun x y H Q => ∃ z i c, x = .str z ∧ y = .int i ∧ 0 ≤ i ∧ i < 2 ^ 63 ∧ i < z.length ∧ z.cps[i.toNat]? = some c ∧ Q (.str ⟨#[c]⟩) H) ta tb) := by
  refine .mk ?_
  intro pins s σ H Q I h
  refine Subscript_ (binT ha hb I h fun v u s2 x y H2 I2 rx ry q => ?_)
  obtain ⟨z, i, c, rfl, rfl, h0, h63, h1, hc, q⟩ := q
  obtain ⟨t, rfl⟩ := rx
  obtain ⟨t', rfl⟩ := ry
  have e : seqIndex? i z.length = some i.toNat := PySem.StrLaws.seqIndex_nonneg h0 h1
  exact tail_any (typeIs_str s2 z t) slot_str_getitem.lookup (getItem_str (c := c) (by
    have e1 : decide (i < -(2 ^ 63 : Int)) = false := decide_eq_false (by omega)
    have e2 : decide (i ≥ 2 ^ 63) = false := decide_eq_false (by omega)
    rw [e1, e2] <;> rfl) (by rw [e]; exact hc) ⟨.str ⟨#[c]⟩, H2, I2.tok _, ⟨_, rfl⟩, q⟩) (hs _ _)
/-- b[i], 0 ≤ i < len -/
theorem pe_item_byt (ha : PE X a ta) (hb : PE X b tb) (hs : PlainIxT b) :
    PE X (.Subscript a b pos) (tOp (fun x y H Q => ∃ (z : List UInt8) (i : Int), x = .byt z.toArray ∧ y = .int i ∧ z.length ≤ sizeLine ∧ 0 ≤ i ∧ i < z.length ∧ Q (.int ((z.getD i.toNat 0).toNat : Nat)) H) ta tb) := by
  refine .mk ?_
  intro pins s σ H Q I h
  refine Subscript_ (binT ha hb I h fun v u s2 x y H2 I2 rx ry q => ?_)
  obtain ⟨z, i, rfl, rfl, hz, h0, h1, q⟩ := q
  obtain ⟨t, rfl⟩ := rx
  obtain ⟨t', rfl⟩ := ry
  have hl : sizeLine = 16777216 := sizeLine_eq
  exact tail_any (PySem.W.typeIs_bytes s2 z.toArray t) PySem.W.FB.slot_bytes_getitem.lookup (PySem.W.getItem_bytes (by omega) h0 h1 ⟨.int ((z.getD i.toNat 0).toNat : Nat), H2, I2.tok _, ⟨_, rfl⟩, q⟩) (hs _ _)

/-! ### scalar builtins, by CallR -/
theorem vals1 {x : V} {us : List Value} (r : Vals [x] us) : ∃ u, us = [u] ∧ RelV x u := by
  cases r with
  | cons r1 r2 => cases r2; exact ⟨_, rfl, r1⟩
theorem vals2 {x y : V} {us : List Value} (r : Vals [x, y] us) : ∃ u w', us = [u, w'] ∧ RelV x u ∧ RelV y w' := by
  cases r with
  | cons r1 r2 =>
    cases r2 with
    | cons r3 r4 => cases r4; exact ⟨_, _, rfl, r1, r3⟩
theorem call_abs : CallR X (.builtin "abs") (fun xs H Q => ∃ i, xs = [.int i] ∧ Q (.int (if i < 0 then -i else i)) H) := by
  intro pins s σ H xs us Q I r h
  obtain ⟨i, rfl, q⟩ := h
  obtain ⟨u, rfl, t, rfl⟩ := vals1 r
  exact call_abs_int fun u tk => ⟨.int (if i < 0 then -i else i), H, I.tok _, ⟨_, rfl⟩, q⟩
theorem call_max2 (hc : X.calm = true) : CallR X (.builtin "max") (fun xs H Q => ∃ i j, xs = [.int i, .int j] ∧ Q (.int (if j > i then j else i)) H) := by
  intro pins s σ H xs us Q I r h
  obtain ⟨i, j, rfl, q⟩ := h
  obtain ⟨u, w', rfl, ⟨t, rfl⟩, ⟨t', rfl⟩⟩ := vals2 r
  refine max_two_ints (I.ok.hd hc) fun h' tk k => ⟨_, H, I.kept k, ?_, q⟩
  by_cases hj : j > i
  · rw [if_pos hj, if_pos hj]; exact ⟨_, rfl⟩
  · rw [if_neg hj, if_neg hj]; exact ⟨_, rfl⟩
theorem call_min2 (hc : X.calm = true) : CallR X (.builtin "min") (fun xs H Q => ∃ i j, xs = [.int i, .int j] ∧ Q (.int (if j < i then j else i)) H) := by
  intro pins s σ H xs us Q I r h
  obtain ⟨i, j, rfl, q⟩ := h
  obtain ⟨u, w', rfl, ⟨t, rfl⟩, ⟨t', rfl⟩⟩ := vals2 r
  refine min_two_ints (I.ok.hd hc) fun h' tk k => ⟨_, H, I.kept k, ?_, q⟩
  by_cases hj : j < i
  · rw [if_pos hj, if_pos hj]; exact ⟨_, rfl⟩
  · rw [if_neg hj, if_neg hj]; exact ⟨_, rfl⟩
theorem call_int1 : CallR X (.type "int") (fun xs H Q => (∃ i, xs = [.int i] ∧ Q (.int i) H) ∨ ∃ k, xs = [.bl k] ∧ Q (.int (if k then 1 else 0)) H) := by
  intro pins s σ H xs us Q I r h
  rcases h with ⟨i, rfl, q⟩ | ⟨k, rfl, q⟩
  · obtain ⟨u, rfl, t, rfl⟩ := vals1 r
    exact call_int_int ⟨.int i, H, I, ⟨_, rfl⟩, q⟩
  · obtain ⟨u, rfl, r1⟩ := vals1 r
    cases r1
    exact call_int_bool ⟨.int (if k then 1 else 0), H, I.tok _, ⟨_, rfl⟩, q⟩
theorem call_bool1 : CallR X (.type "bool") (fun xs H Q => (∃ i, xs = [.int i] ∧ Q (.bl (i != 0)) H) ∨ ∃ k, xs = [.bl k] ∧ Q (.bl k) H) := by
  intro pins s σ H xs us Q I r h
  rcases h with ⟨i, rfl, q⟩ | ⟨k, rfl, q⟩
  · obtain ⟨u, rfl, t, rfl⟩ := vals1 r
    exact call_bool_int ⟨.bl (i != 0), H, I, rfl, q⟩
  · obtain ⟨u, rfl, r1⟩ := vals1 r
    cases r1
    exact call_bool_bool ⟨.bl k, H, I, rfl, q⟩
theorem call_str_int : CallR X (.type "str") (fun xs H Q => ∃ i, xs = [.int i] ∧ i.natAbs.log2 < 1920 ∧ Q (.str (toString i)) H) := by
  intro pins s σ H xs us Q I r h
  obtain ⟨i, rfl, hz, q⟩ := h
  obtain ⟨u, rfl, t, rfl⟩ := vals1 r
  exact PySem.P.str_of_int hz ⟨.str _, H, I.tok _, ⟨_, rfl⟩, q⟩
theorem call_ord : CallR X (.builtin "ord") (fun xs H Q => ∃ x, xs = [.str x] ∧ x.length = 1 ∧ Q (.int (x.cps.getD 0 0 : Nat)) H) := by
  intro pins s σ H xs us Q I r h
  obtain ⟨x, rfl, hz, q⟩ := h
  obtain ⟨u, rfl, t, rfl⟩ := vals1 r
  exact ord_of_one hz ⟨.int _, H, I.tok _, ⟨_, rfl⟩, q⟩
theorem call_chr : CallR X (.builtin "chr") (fun xs H Q => ∃ i, xs = [.int i] ∧ 0 ≤ i ∧ i ≤ 1114111 ∧ Q (.str ⟨#[i.toNat]⟩) H) := by
  intro pins s σ H xs us Q I r h
  obtain ⟨i, rfl, h0, h1, q⟩ := h
  obtain ⟨u, rfl, t, rfl⟩ := vals1 r
  exact chr_of_range h0 h1 ⟨.str _, H, I.tok _, ⟨_, rfl⟩, q⟩
/-- len of a str, a bytes, a list, a tuple -/
def LenV (K : PySem.W.Frag) (x : V) (H : Hp) (n : Nat) : Prop :=
  match x with
  | .str y => y.length ≤ sizeLine ∧ n = y.length
  | .byt y => y.size ≤ sizeLine ∧ n = y.size
  | .ref p => (∃ xs, SqL K H p xs ∧ n = xs.length) ∨ ∃ xs, SqT K H p xs ∧ n = xs.length
  | _ => False
theorem call_len : CallR X (.builtin "len") (fun xs H Q => ∃ x n, xs = [x] ∧ LenV X.K x H n ∧ Q (.int n) H) := by
  intro pins s σ H xs us Q I r h
  obtain ⟨x, n, rfl, e, q⟩ := h
  obtain ⟨u, rfl, rx⟩ := vals1 r
  have hl := line63
  have hs : sizeLine = 16777216 := sizeLine_eq
  cases x with
  | str y =>
    obtain ⟨t, rfl⟩ := rx
    obtain ⟨hy, e'⟩ : y.length ≤ sizeLine ∧ n = y.length := e
    subst e'
    exact len_str (by omega) ⟨.int _, H, I.tok _, ⟨_, rfl⟩, q⟩
  | byt y =>
    obtain ⟨t, rfl⟩ := rx
    obtain ⟨hy, e'⟩ : y.size ≤ sizeLine ∧ n = y.size := e
    subst e'
    exact PySem.W.len_bytes (by omega) ⟨.int _, H, I.tok _, ⟨_, rfl⟩, q⟩
  | ref p =>
    cases rx
    have e' : (∃ xs, SqL X.K H p xs ∧ n = xs.length) ∨ ∃ xs, SqT X.K H p xs ∧ n = xs.length := e
    rcases e' with ⟨xs, hx, e'⟩ | ⟨xs, hx, e'⟩
    · subst e'
      obtain ⟨its, r', pl, hz⟩ := I.list hx
      have hlen := r'.length
      exact Calls.call_len_list pl.isList (by simp only [List.size_toArray]; omega) ⟨.int xs.length, H, I.tok _, ⟨_, by simp only [List.size_toArray]; rw [hlen]⟩, q⟩
    · subst e'
      obtain ⟨its, r', pl, hz⟩ := I.tuple hx
      have hlen := r'.length
      exact len_tuple pl (by simp only [List.size_toArray]; omega) ⟨.int xs.length, H, I.tok _, ⟨_, by simp only [List.size_toArray]; rw [hlen]⟩, q⟩
  | _ => exact (show False from e).elim
/-- divmod: a new tuple -/
theorem call_divmod : CallR X (.builtin "divmod") (fun xs H Q => ∃ i j, xs = [.int i, .int j] ∧ CDiv i j ∧ ∀ p, H p = none → Q (.ref p) (upd H p (.tup [.int (i / j), .int (i % j)]))) := by
  intro pins s σ H xs us Q I r h
  obtain ⟨i, j, rfl, ⟨h1, h2⟩, q⟩ := h
  obtain ⟨u, w', rfl, ⟨t, rfl⟩, ⟨t', rfl⟩⟩ := vals2 r
  refine divmod_int (by omega) ?_ (.inl (PyProof.noPylong_small (by omega)))
  rw [Int.fdiv_eq_ediv_of_nonneg i (by omega), Int.fmod_eq_emod_of_nonneg i (by omega)]
  have hn : H s.heap.objs.size = none := I.hok.fresh (Nat.le_refl _)
  refine ⟨.ref s.heap.objs.size, _, ?_, rfl, q _ hn⟩
  refine I.laid (fun b o e => Heap.get?_push_of_some _ e) (Nat.le_refl _) ⟨by simp only [List.length_cons, List.length_nil]; rw [sizeLine_eq]; decide, [.int (i / j) s.toks, .int (i % j) (s.toks + 1)], .cons ⟨_, rfl⟩ (.cons ⟨_, rfl⟩ .nil), ?_⟩
  exact ⟨_, Heap.get?_push_size s.heap rfl, rfl, 0, rfl⟩
end
end L2

namespace L2
open PySem PySem.Spec PyProof.Rows

/-! ### an instance, its attributes a map -/
structure ObjM (h : Heap) (x dx C : Addr) (mA : Str → Option Value) : Prop where
  obj : h.get? x = some (PySem.W.instObj C dx)
  ns : h.Ns1 dx mA
  ne : dx ≠ x

theorem lookIn_ns {h : Heap} {dx : Addr} {mA : Str → Option Value} (n : h.Ns1 dx mA) : ∃ od, h.get? dx = some od ∧ ∀ name, PySem.W.lookIn name od = some (mA name) := by
  obtain ⟨o, es, ep, ho, hd, hk, _, hm⟩ := n
  refine ⟨o, ho, fun name => ?_⟩
  have e := hm name
  unfold nsFind findBy at e
  rw [← Array.find?_toList] at e
  unfold PySem.W.lookIn
  rw [hd]
  dsimp only
  split
  · rename_i y q
    rw [q] at e
    exact congrArg some e
  · rename_i q
    rw [q] at e
    have a : es.toList.any (·.refKey) = false := by
      rw [List.any_eq_false]
      intro y hy
      obtain ⟨z, t, hkey⟩ := hk y (Array.mem_toList_iff.mp hy)
      simp [DictEntry.refKey, hkey]
    have a' : ¬ es.toList.any (·.refKey) = true := by rw [a]; exact Bool.false_ne_true
    rw [if_neg a']
    exact congrArg some e

theorem ObjM.look {h : Heap} {x dx C : Addr} {mA : Str → Option Value} (I : ObjM h x dx C mA) : ∃ od, PySem.W.InstAt h x (PySem.W.instObj C dx) C (some od) ∧ ∀ name, PySem.W.lookIn name od = some (mA name) :=
  let ⟨od, ho, hl⟩ := lookIn_ns I.ns
  ⟨od, ⟨I.obj, rfl, rfl, ho⟩, hl⟩

section
variable {prog : Program} {w : World} {A : Around} {E : Value → Shared → Prop} {s : Shared} {K : PySem.W.Frag} {x dx C f : Addr} {mA : Str → Option Value} {name : Str} {v : Value}

theorem get_map {expr : Bool} {Q : Value → Shared → Prop} (X : K.In s.heap) (I : ObjM s.heap x dx C mA) (hg : PySem.W.plainGet K C name = true) (hh : PySem.W.hasDictIn K C = true)
    (ha : PySem.W.findIn K (.ref C) name = some none) (hv : mA name = some v) (hv' : PySem.W.handedIn v = true) (h : Q v { s with toks := s.toks + 1 }) :
    wpAny (model prog w) A (getAttr (.ref x) name expr) Q E s := by
  obtain ⟨od, J, hl⟩ := I.look
  exact PySem.W.get_value X J (PySem.W.plainGet_of hg).1 (PySem.W.findObj_own hh ha rfl (by rw [hl, hv])) hv' h

theorem get_const {expr : Bool} {a : Value} {Q : Value → Shared → Prop} (X : K.In s.heap) (I : ObjM s.heap x dx C mA) (hg : PySem.W.plainGet K C name = true) (hh : PySem.W.hasDictIn K C = true)
    (ha : PySem.W.findIn K (.ref C) name = some (some a)) (hn : PySem.W.specialIn K a "__get__" = some none) (hc : PySem.W.copiedNames.contains name = false) (hv : mA name = none) (hv' : PySem.W.handedIn a = true)
    (h : Q a { s with toks := s.toks + 1 }) : wpAny (model prog w) A (getAttr (.ref x) name expr) Q E s := by
  obtain ⟨od, J, hl⟩ := I.look
  exact PySem.W.get_value X J (PySem.W.plainGet_of hg).1 (PySem.W.findObj_cls hh ha hn hv' hc (by rw [hl, hv])) hv' h

theorem get_meth {pl : Sem Bool} {Q : Value × List Value → Shared → Prop} (X : K.In s.heap) (I : ObjM s.heap x dx C mA) (hg : PySem.W.plainGet K C name = true)
    (hf : PySem.W.findIn K (.ref C) name = some (some (.ref f))) (ht : PySem.W.isFn K (.ref f) = true) (hv : mA name = none) (h : Q (.ref f, [.ref x]) s) :
    wpAny (model prog w) A (getMethod (.ref x) name pl) Q E s := by
  obtain ⟨od, J, hl⟩ := I.look
  exact PySem.W.method_fn X J (PySem.W.plainGet_of hg).1 (PySem.W.plainGet_of hg).2 hf (beq_iff_eq.mp ht) (by show (PySem.W.lookIn name od).map (·.isSome) = some false; rw [hl, hv]; rfl) h

theorem set_map {ns : List Str} {Q : Unit → Shared → Prop} (X : K.In s.heap) (I : ObjM s.heap x dx C mA)
    (hs : PySem.W.findIn K (.ref C) "__setattr__" = some (some (.builtin "object.__setattr__"))) (hp : PySem.W.plainOver K C = true) (ht : PySem.W.takerIn K C name = some none) (hh : PySem.W.hasDictIn K C = true)
    (hw : PySem.Within mA ns) (hsz : ns.length ≤ sizeLine)
    (h : ∀ h', ObjM h' x dx C (fun y => if y = name then some v else mA y) → Heap.SameBut dx s.heap h' → Q () { s with heap := h', toks := s.toks + 2 }) :
    wpAny (model prog w) A (setAttr (.ref x) name v) Q E s := by
  obtain ⟨od, J, hl⟩ := I.look
  refine PySem.W.set_plain X J hs (PySem.W.osa_open (s := { s with toks := s.toks + 1 }) (r := none) X J hp ht fun b => ?_)
  obtain ⟨cd, hc, hd'⟩ := PySem.W.any_some hh
  have hx : s.heap.get? x = some ⟨.ref C, some dx, .plain, #[]⟩ := I.obj
  refine wpAny_bind (wpAny_pure (wpAny_bind (wpAny_bind (wpAny_loadPart hx (wpAny_bind (PySem.W.Looks.here (s := { s with toks := s.toks + 1 }) (PySem.W.looks_clsIn X hc) ?_))))))
  rw [hd']
  refine wpAny_pure (a := some dx) (wpAny_bind (wpAny_pure (wpAny_bind ?_)))
  refine wpAny_nsSet1 (s := { s with toks := s.toks + 1 }) I.ns fun h' hn2 hs2 => ?_
  obtain ⟨oD, esD, epD, hoD, hdD, hcD⟩ := hn2.count (PySem.Within.cons name v hw)
  refine wpAny_bind (wpAny_lookBehind hoD (by rw [hdD]; exact pastItsLine_dict (Nat.le_trans hcD (by rw [List.length_cons]; omega))) ?_)
  exact wpAny_pure (h _ ⟨(hs2.2 _ (Ne.symm I.ne)).trans I.obj, hn2, I.ne⟩ hs2)

/-- C(..): the dict at the heap's end, the instance behind it; then its __init__ -/
theorem make_map {R : Result → Shared → Prop} {vs : List Value} {kw : List (Str × Value)} (X : K.In s.heap) (hm : PySem.W.makesIn K C = true)
    (hi : PySem.W.findIn K (.ref C) "__init__" = some (some (.ref f))) (hf : PySem.W.typeIn K (.ref f) = some (.type "function"))
    (h : codeAny (model prog w) (A.under (.builtin "type.__call__" ⟨.ref C :: vs, kw⟩)) (.call (.ref f) ⟨.ref (s.heap.objs.size + 1) :: vs, kw⟩) (PySem.W.InitBack (s.heap.objs.size + 1) R)
      { s with heap := (s.heap.push PySem.W.emptyDict).push (PySem.W.instObj C s.heap.objs.size) }) :
    codeAny (model prog w) A (.call (.ref C) ⟨vs, kw⟩) R s := by
  obtain ⟨hh, g, d, t, os⟩ := s
  exact PySem.W.make_core (PySem.W.makes_of X hm) (PySem.W.looks_findIn X hi) (fun self => PySem.W.bind_fn X self hf) (.inl rfl) h
/-- C() where there is no __init__ but object's -/
theorem make_map0 {R : Result → Shared → Prop} (X : K.In s.heap) (hm : PySem.W.makesIn K C = true)
    (hi : PySem.W.findIn K (.ref C) "__init__" = some (some (.builtin "object.__init__")))
    (hb : ∀ self, PySem.W.Looks (model prog w) s.heap (bindSpecial (.builtin "object.__init__") self) (.builtin "object.__init__", [self]))
    (h : codeAny (model prog w) (A.under (.builtin "type.__call__" ⟨[.ref C], []⟩)) (.call (.builtin "object.__init__") ⟨[.ref (s.heap.objs.size + 1)], []⟩) (PySem.W.InitBack (s.heap.objs.size + 1) R)
      { s with heap := (s.heap.push PySem.W.emptyDict).push (PySem.W.instObj C s.heap.objs.size) }) :
    codeAny (model prog w) A (.call (.ref C) ⟨[], []⟩) R s := by
  obtain ⟨hh, g, d, t, os⟩ := s
  exact PySem.W.make_core (PySem.W.makes_of X hm) (PySem.W.looks_findIn X hi) hb (.inr ⟨rfl, rfl⟩) h
end

/-! ### the attributes as a list of pairs -/
def putF (f : Str) (v : V) : List (Str × V) → List (Str × V)
  | [] => [(f, v)]
  | (g, x) :: r => if g = f then (g, v) :: r else (g, x) :: putF f v r
theorem lookup_putF (f g : Str) (v : V) : ∀ fs : List (Str × V), (putF f v fs).lookup g = if g = f then some v else fs.lookup g
  | [] => by
    show List.lookup g [(f, v)] = _
    by_cases h : g = f
    · have hb : (g == f) = true := beq_iff_eq.mpr h
      simp only [List.lookup, hb, if_pos h]
    · have hb : (g == f) = false := beq_eq_false_iff_ne.mpr h
      simp only [List.lookup, hb, if_neg h]
  | (k, x) :: r => by
    have ih := lookup_putF f g v r
    rw [show putF f v ((k, x) :: r) = (if k = f then (k, v) :: r else (k, x) :: putF f v r) from rfl]
    by_cases hk : k = f
    · rw [if_pos hk]
      by_cases h : g = k
      · have hb : (g == k) = true := beq_iff_eq.mpr h
        simp only [List.lookup, hb, if_pos (h.trans hk)]
      · have hb : (g == k) = false := beq_eq_false_iff_ne.mpr h
        simp only [List.lookup, hb, if_neg (fun e : g = f => h (e.trans hk.symm))]
    · rw [if_neg hk]
      by_cases h : g = k
      · have hb : (g == k) = true := beq_iff_eq.mpr h
        simp only [List.lookup, hb, if_neg (fun e : g = f => hk (h.symm.trans e))]
      · have hb : (g == k) = false := beq_eq_false_iff_ne.mpr h
        simp only [List.lookup, hb]
        exact ih
theorem keys_putF (f : Str) (v : V) : ∀ fs : List (Str × V), f ∈ (putF f v fs).map (·.1) ∧ ∀ g, g ∈ fs.map (·.1) → g ∈ (putF f v fs).map (·.1)
  | [] => ⟨by simp [putF], fun g h => by simp at h⟩
  | (k, x) :: r => by
    obtain ⟨i1, i2⟩ := keys_putF f v r
    rw [show putF f v ((k, x) :: r) = (if k = f then (k, v) :: r else (k, x) :: putF f v r) from rfl]
    by_cases hk : k = f
    · rw [if_pos hk]
      subst hk
      exact ⟨by simp, fun g h => by simpa using h⟩
    · rw [if_neg hk]
      refine ⟨?_, fun g h => ?_⟩
      · rw [List.map_cons]
        exact List.mem_cons_of_mem _ i1
      · rw [List.map_cons] at h ⊢
        rcases List.mem_cons.mp h with e | e
        · exact List.mem_cons.mpr (.inl e)
        · exact List.mem_cons_of_mem _ (i2 g e)
theorem length_putF (f : Str) (v : V) : ∀ fs : List (Str × V), (putF f v fs).length ≤ fs.length + 1
  | [] => by simp [putF]
  | (k, x) :: r => by
    have ih := length_putF f v r
    rw [show putF f v ((k, x) :: r) = (if k = f then (k, v) :: r else (k, x) :: putF f v r) from rfl]
    by_cases hk : k = f
    · rw [if_pos hk, List.length_cons, List.length_cons]; omega
    · rw [if_neg hk, List.length_cons, List.length_cons]; omega

theorem RelO.some_of {v : V} {o : Option Value} (r : RelO (some v) o) : ∃ u, o = some u ∧ RelV v u := by
  cases o with
  | none => exact (show False from r).elim
  | some u => exact ⟨u, rfl, r⟩
theorem RelO.none_of {o : Option Value} (r : RelO none o) : o = none := by
  cases o with
  | none => rfl
  | some u => exact (show False from r).elim
theorem handed_of {v : V} {u : Value} (r : RelV v u) : PySem.W.handedIn u = true := by
  cases v with
  | non => cases (show u = Value.none from r); rfl
  | bl b => cases (show u = Value.bool b from r); rfl
  | int i => obtain ⟨t, e⟩ := (show ∃ t, u = Value.int i t from r); cases e; rfl
  | str x => obtain ⟨t, e⟩ := (show ∃ t, u = Value.str x t from r); cases e; rfl
  | byt b => obtain ⟨t, e⟩ := (show ∃ t, u = Value.bytes b t from r); cases e; rfl
  | flt b => obtain ⟨t, e⟩ := (show ∃ t, u = Value.float b t from r); cases e; rfl
  | ref a => cases (show u = Value.ref a from r); rfl
  | ty n => cases (show u = Value.type n from r); rfl

section
variable {P : Program} {w : World} {H H' : Hp} {h h' : Heap} {a C dx : Addr} {fs fs' : List (Str × V)}
theorem ins_get (hok : HOk P w H h) (e : H a = some (.ins C dx fs)) : ∃ mA, ObjM h a dx C mA ∧ (∀ f, RelO (fs.lookup f) (mA f)) ∧ PySem.Within mA (fs.map (·.1)) ∧ fs.length ≤ 1000 ∧ H dx = some (.own a) := by
  obtain ⟨d, z, ne, ob, mA, n, r, q⟩ := (show ObjOk P w H h a (.ins C dx fs) from hok a _ e)
  exact ⟨mA, ⟨ob, n, ne⟩, r, q, z, d⟩
end

/-! ### what of the text a class must have -/
structure Cls (K : PySem.W.Frag) (C : Addr) : Prop where
  pg : PySem.W.plainGet K C Str.empty = true
  hd : PySem.W.hasDictIn K C = true
  po : PySem.W.plainOver K C = true
  sa : PySem.W.findIn K (.ref C) "__setattr__" = some (some (.builtin "object.__setattr__"))
theorem Cls.get {K : PySem.W.Frag} {C : Addr} (c : Cls K C) (f : Str) : PySem.W.plainGet K C f = true := c.pg
/-- no class of it has the name -/
def NoAttr (K : PySem.W.Frag) (C : Addr) (f : Str) : Prop := PySem.W.findIn K (.ref C) f = some none
theorem NoAttr.taker {K : PySem.W.Frag} {C : Addr} {f : Str} (n : NoAttr K C f) : PySem.W.takerIn K C f = some none := by
  unfold PySem.W.takerIn
  rw [show PySem.W.findIn K (.ref C) f = some none from n]
  rfl
/-- a constant of the class -/
structure Con (K : PySem.W.Frag) (C : Addr) (f : Str) (v : V) (u : Value) : Prop where
  at_ : PySem.W.findIn K (.ref C) f = some (some u)
  rel : RelV v u
  get : PySem.W.specialIn K u "__get__" = some none
  cp : PySem.W.copiedNames.contains f = false
/-- a method: a plain def of the class or of one above it -/
structure Meth (K : PySem.W.Frag) (C : Addr) (m : Str) (f : Addr) : Prop where
  at_ : PySem.W.findIn K (.ref C) m = some (some (.ref f))
  fn : PySem.W.isFn K (.ref f) = true
  kp : PySem.W.keepIn K (.ref f) = true

section
variable {X : Cx} {pins : List (Addr × Obj)} {σ : St} {H : Hp} {s : Shared} {a C dx : Addr} {fs : List (Str × V)} {f : Str} {v : V} {A : Around} {E : Value → Shared → Prop}

theorem getattr_ok {b : Bool} {Q : Value → Shared → Prop} (I : Inv X pins σ H s) (e : H a = some (.ins C dx fs)) (c : Cls X.K C) (n : NoAttr X.K C f) (l : fs.lookup f = some v)
    (h : ∀ u s', Inv X pins σ H s' → RelV v u → Q u s') : wpAny (model X.prog X.w) A (getAttr (.ref a) f b) Q E s := by
  obtain ⟨mA, O, r, _, _, _⟩ := ins_get I.hok e
  obtain ⟨u, hu, ru⟩ := RelO.some_of (v := v) (o := mA f) (by rw [← l]; exact r f)
  exact get_map I.kIn O (c.get f) c.hd n hu (handed_of ru) (h u _ (I.tok _) ru)

theorem getcon_ok {b : Bool} {u : Value} {Q : Value → Shared → Prop} (I : Inv X pins σ H s) (e : H a = some (.ins C dx fs)) (c : Cls X.K C) (k : Con X.K C f v u) (l : fs.lookup f = none)
    (h : ∀ s', Inv X pins σ H s' → Q u s') : wpAny (model X.prog X.w) A (getAttr (.ref a) f b) Q E s := by
  obtain ⟨mA, O, r, _, _, _⟩ := ins_get I.hok e
  have hn : mA f = none := RelO.none_of (by rw [← l]; exact r f)
  exact get_const I.kIn O (c.get f) c.hd k.at_ k.get k.cp hn (handed_of k.rel) (h _ (I.tok _))

theorem getmeth_ok {m : Str} {g : Addr} {pl : Sem Bool} {Q : Value × List Value → Shared → Prop} (I : Inv X pins σ H s) (e : H a = some (.ins C dx fs)) (c : Cls X.K C) (k : Meth X.K C m g) (l : fs.lookup m = none)
    (h : Q (.ref g, [.ref a]) s) : wpAny (model X.prog X.w) A (getMethod (.ref a) m pl) Q E s := by
  obtain ⟨mA, O, r, _, _, _⟩ := ins_get I.hok e
  have hn : mA m = none := RelO.none_of (by rw [← l]; exact r m)
  exact get_meth I.kIn O (c.get m) k.at_ k.fn hn h

theorem setattr_ok {y : V} {u : Value} {Q : Unit → Shared → Prop} (I : Inv X pins σ H s) (e : H a = some (.ins C dx fs)) (c : Cls X.K C) (n : NoAttr X.K C f) (hl : fs.length < 1000) (ry : RelV y u)
    (h : ∀ s', Inv X pins σ (upd H a (.ins C dx (putF f y fs))) s' → Q () s') : wpAny (model X.prog X.w) A (setAttr (.ref a) f u) Q E s := by
  obtain ⟨mA, O, r, wi, _, ho⟩ := ins_get I.hok e
  have hz : (fs.map (·.1)).length ≤ sizeLine := by rw [List.length_map, sizeLine_eq]; omega
  refine set_map I.kIn O c.sa c.po n.taker c.hd wi hz fun h' O' sb => h _ ?_
  have hd : ∃ o, h'.get? dx = some o := let ⟨o, _, _, e', _⟩ := O'.ns; ⟨o, e'⟩
  refine I.write (x := a) (e := dx) (by rw [e]; exact True.intro) (.inr ho) (fun b q hb z => (sb.2 b hb).trans z) hd ?_
  refine ⟨by rw [upd_ne O.ne]; exact ho, ?_, O.ne, O'.obj, _, O'.ns, fun g => ?_, fun g hg => ?_⟩
  · have := length_putF f y fs; omega
  · show RelO ((putF f y fs).lookup g) (if g = f then some u else mA g)
    rw [lookup_putF]
    by_cases q : g = f
    · rw [if_pos q, if_pos q]; exact ry
    · rw [if_neg q, if_neg q]; exact r g
  · by_cases q : g = f
    · rw [q]; exact (keys_putF f y fs).1
    · refine (keys_putF f y fs).2 g (wi g fun z => hg ?_)
      show (if g = f then some u else mA g) = none
      rw [if_neg q]; exact z

/-- a new instance, tracked, without attributes -/
theorem Inv.made (I : Inv X pins σ H s) : Inv X pins σ (upd (upd H s.heap.objs.size (.own (s.heap.objs.size + 1))) (s.heap.objs.size + 1) (.ins C s.heap.objs.size []))
    { s with heap := (s.heap.push PySem.W.emptyDict).push (PySem.W.instObj C s.heap.objs.size) } := by
  have e1 : (s.heap.push PySem.W.emptyDict).get? s.heap.objs.size = some PySem.W.emptyDict := Heap.get?_push_size s.heap rfl
  have e2 : ((s.heap.push PySem.W.emptyDict).push (PySem.W.instObj C s.heap.objs.size)).get? (s.heap.objs.size + 1) = some (PySem.W.instObj C s.heap.objs.size) := by
    have := Heap.get?_push_size (s.heap.push PySem.W.emptyDict) (o := PySem.W.instObj C s.heap.objs.size) rfl
    rwa [Heap.size_push] at this
  have e3 : (s.heap.push PySem.W.emptyDict).Ns s.heap.objs.size (fun _ => none) := ⟨PySem.W.emptyDict, #[], _, e1, rfl, (fun e he => absurd he (by simp)), fun _ => rfl⟩
  have I1 := I.laid (a := s.heap.objs.size) (o := .own (s.heap.objs.size + 1)) (h' := s.heap.push PySem.W.emptyDict) (t' := s.toks) (fun b u q => Heap.get?_push_of_some _ q) (Nat.le_refl _) ⟨_, e1⟩
  refine I1.laid (a := s.heap.objs.size + 1) (o := .ins C s.heap.objs.size []) (t' := s.toks) (fun b u q => Heap.get?_push_of_some _ q) (Nat.le_of_eq (Heap.size_push _ _)) ?_
  have ne : s.heap.objs.size ≠ s.heap.objs.size + 1 := Nat.ne_of_lt (Nat.lt_succ_self _)
  refine ⟨by rw [upd_ne ne, upd_same], Nat.zero_le _, ne, e2, fun _ => none, (Heap.Ns1.of_empty e3).at fun o q => Heap.get?_push_of_some _ q, fun _ => True.intro, fun y hy => absurd rfl hy⟩

/-- e.f where nothing but the object is asked: through attributeBase (super) and the last hold -/
theorem attr_of {prog : Program} {w : World} {env : Env} {e : Expr} {f : Str} {pos : Pos} {s : Shared} {Q : Value → Shared → Prop} (hb : attributeBase e f env (eval e env) = eval e env)
    (h : wpAny (model prog w) A (eval e env) (fun o s₁ => wpAny (model prog w) A (getAttr o f true) Q E s₁) E s) : wpAny (model prog w) A (eval (.Attribute e f pos) env) Q E s :=
  Attribute_any_ h (by rw [arm_eval_Attribute, hb])
end

/-! ### readings and rules -/
/-- e.f, an attribute of the instance -/
def tFld (K : PySem.W.Frag) (ta : TE) (f : Str) : TE := fun σ H Q => ta σ H fun x H1 => ∃ a C dx fs v, x = .ref a ∧ H1 a = some (.ins C dx fs) ∧ Cls K C ∧ NoAttr K C f ∧ fs.lookup f = some v ∧ Q v H1
/-- e.f, a constant of the class -/
def tCon (K : PySem.W.Frag) (ta : TE) (f : Str) : TE := fun σ H Q => ta σ H fun x H1 => ∃ a C dx fs v u, x = .ref a ∧ H1 a = some (.ins C dx fs) ∧ Cls K C ∧ Con K C f v u ∧ fs.lookup f = none ∧ Q v H1
/-- e.f = value -/
def sFld (K : PySem.W.Frag) (ta tv : TE) (f : Str) : TS := fun D σ H => tv σ H fun y H1 => ta σ H1 fun x H2 => ∃ a C dx fs, x = .ref a ∧ H2 a = some (.ins C dx fs) ∧ Cls K C ∧ NoAttr K C f ∧ fs.length < 1000 ∧
  D.nx σ (upd H2 a (.ins C dx (putF f y fs)))
/-- an augmented operator on two values -/
def InOp (X : Cx) (op : Operator) (rd : V → V → Hp → VK → Prop) : Prop :=
  ∀ (pins : List (Addr × Obj)) (s : Shared) (σ : St) (H : Hp) (x y : V) (u v : Value) (Q : VK), Inv X pins σ H s → RelV x u → RelV y v → rd x y H Q → wpAny (model X.prog X.w) X.A (inplaceOp op u v) (EP X pins σ Q) X.xe s
/-- e.f op= value -/
def sFldAug (K : PySem.W.Frag) (ta tv : TE) (rd : V → V → Hp → VK → Prop) (f : Str) : TS := fun D σ H => ta σ H fun x H1 => ∃ a C dx fs v, x = .ref a ∧ H1 a = some (.ins C dx fs) ∧ Cls K C ∧ NoAttr K C f ∧ fs.lookup f = some v ∧
  tv σ H1 fun y H2 => rd v y H2 fun z H3 => ∃ dx' fs', H3 a = some (.ins C dx' fs') ∧ fs'.length < 1000 ∧ D.nx σ (upd H3 a (.ins C dx' (putF f z fs')))

section
variable {X : Cx} {o e value : Expr} {f : Str} {pos pos' tpos : Pos} {ta tv : TE}
theorem pe_fld (he : PE X e ta) (hb : attributeBase e f X.env (eval e X.env) = eval e X.env) : PE X (.Attribute e f pos) (tFld X.K ta f) := by
  refine .mk ?_
  intro pins s σ H Q I h
  refine attr_of hb (thn (he pins s σ H _ I h) fun u s1 ⟨x, H1, I1, rx, a, C, dx, fs, v, ex, ea, c, n, l, q⟩ => ?_)
  subst ex
  obtain rfl : u = Value.ref a := rx
  exact getattr_ok I1 ea c n l fun u' s2 I2 ru => ⟨v, H1, I2, ru, q⟩
theorem pe_con (he : PE X e ta) (hb : attributeBase e f X.env (eval e X.env) = eval e X.env) : PE X (.Attribute e f pos) (tCon X.K ta f) := by
  refine .mk ?_
  intro pins s σ H Q I h
  refine attr_of hb (thn (he pins s σ H _ I h) fun u s1 ⟨x, H1, I1, rx, a, C, dx, fs, v, u0, ex, ea, c, k, l, q⟩ => ?_)
  subst ex
  obtain rfl : u = Value.ref a := rx
  exact getcon_ok I1 ea c k l fun s2 I2 => ⟨v, H1, I2, k.rel, q⟩
theorem ps_fld (ha : PE X o ta) (hv : PE X value tv) (hs : swapsWith value (some (.Attribute o f pos')) pos.line X.env = pure false) : PS X (.Assign [.Attribute o f pos'] value pos) (sFld X.K ta tv f) := by
  refine .mk ?_
  intro pins s σ H D I h
  refine plainObj_wpAny_Assign_Attribute (thn (hv pins s σ H _ I h) fun u s1 ⟨y, H1, I1, ry, q⟩ => thn (ha pins s1 σ H1 _ I1 q) fun ov s2 ⟨x, H2, I2, rx, a, C, dx, fs, ex, ea, c, n, l, q2⟩ => ?_) hs
  subst ex
  obtain rfl : ov = Value.ref a := rx
  exact setattr_ok I2 ea c n l ry fun s3 I3 => ⟨σ, _, I3, q2⟩
theorem ps_fldaug {op : Operator} {rd : V → V → Hp → VK → Prop} (ha : PE X o ta) (hv : PE X value tv) (hop : InOp X op rd) : PS X (.AugAssign (.Attribute o f tpos) op value pos) (sFldAug X.K ta tv rd f) := by
  refine .mk ?_
  intro pins s σ H D I h
  refine wpAny_AugAssign_AttributeAny (thn (ha pins s σ H _ I h) fun ov s1 ⟨x, H1, I1, rx, a, C, dx, fs, v, ex, ea, c, n, l, q⟩ => ?_)
  subst ex
  obtain rfl : ov = Value.ref a := rx
  refine getattr_ok I1 ea c n l fun u s2 I2 ru => thn (hv pins s2 σ H1 _ I2 q) fun w3 s3 ⟨y, H2, I3, ry, q3⟩ => thn (hop pins s3 σ H2 v y u w3 _ I3 ru ry q3) fun w4 s4 ⟨z, H3, I4, rz, dx', fs', ea', l', q4⟩ => ?_
  exact setattr_ok I4 ea' c n l' rz fun s5 I5 => ⟨σ, _, I5, q4⟩
def rAdd : V → V → Hp → VK → Prop := fun x y H Q => ∃ i j, x = .int i ∧ y = .int j ∧ Q (.int (i + j)) H
def rSub : V → V → Hp → VK → Prop := fun x y H Q => ∃ i j, x = .int i ∧ y = .int j ∧ Q (.int (i - j)) H
theorem in_add : InOp X .Add rAdd := by
  rintro pins s σ H x y u v Q I rx ry ⟨i, j, rfl, rfl, q⟩
  obtain ⟨t, rfl⟩ := (show ∃ t, u = Value.int i t from rx)
  obtain ⟨t', rfl⟩ := (show ∃ t', v = Value.int j t' from ry)
  exact PyProof.Rows.iadd_int ⟨.int (i + j), H, I.tok _, ⟨_, rfl⟩, q⟩
theorem in_sub : InOp X .Sub rSub := by
  rintro pins s σ H x y u v Q I rx ry ⟨i, j, rfl, rfl, q⟩
  obtain ⟨t, rfl⟩ := (show ∃ t, u = Value.int i t from rx)
  obtain ⟨t', rfl⟩ := (show ∃ t', v = Value.int j t' from ry)
  exact PyProof.Rows.isub_int ⟨.int (i - j), H, I.tok _, ⟨_, rfl⟩, q⟩

/-- what is between an instance and its method: the tree of a method call -/
theorem methcall_of {pl : Sem Bool} {m : Str} {apos : Pos} {args : List Expr} {pins : List (Addr × Obj)} {s : Shared} {σ : St} {H : Hp} {Q : Value → Shared → Prop} {te : TE} (he : PE X e te) (I : Inv X pins σ H s)
    (h : te σ H fun x H1 => ∃ a C dx fs g, x = .ref a ∧ H1 a = some (.ins C dx fs) ∧ Cls X.K C ∧ Meth X.K C m g ∧ fs.lookup m = none ∧
      ∀ s1, Inv X pins σ H1 s1 → wpAny (model X.prog X.w) X.A (callWith pos (.ref g) [.ref a] (backTo pos (starEach args X.env)) (backToKw pos (keywordEach [] X.env))) Q X.xe s1)
    (ht : eval (.Call (.Attribute e m apos) args [] pos) X.env = (do
      let ov ← eval e X.env
      standAt apos.atName
      let (f, first) ← holding [ov] (getMethod ov m pl)
      callWith pos f first (backTo pos (starEach args X.env)) (backToKw pos (keywordEach [] X.env)))) :
    wpAny (model X.prog X.w) X.A (eval (.Call (.Attribute e m apos) args [] pos) X.env) Q X.xe s := by
  refine PySem.W.methodCall_KW (pl := pl) (thn (he pins s σ H _ I h) fun u s1 ⟨x, H1, I1, rx, a, C, dx, fs, g, ex, ea, c, k, l, q⟩ => ?_) ht
  subst ex
  obtain rfl : u = Value.ref a := rx
  exact getmeth_ok I1 ea c k l (q s1 I1)
end

/-! ### isinstance -/
section
variable {X : Cx} {pins : List (Addr × Obj)} {σ : St} {H : Hp} {s : Shared} {A : Around} {E : Value → Shared → Prop} {Q : Value → Shared → Prop} {c : Value} {b : Bool}
/-- the type of a value, as the fragment's deciders take it; for an instance its class -/
inductive TyOf (K : PySem.W.Frag) (H : Hp) : V → Value → Prop where
  | non : TyOf K H .non (.type "NoneType")
  | bl (x : Bool) : TyOf K H (.bl x) (.type "bool")
  | int (i : Int) : TyOf K H (.int i) (.type "int")
  | str (x : Str) : TyOf K H (.str x) (.type "str")
  | flt (x : UInt64) : TyOf K H (.flt x) (.type "float")
  | lst {a : Addr} {xs : List V} (e : H a = some (.lst xs)) : TyOf K H (.ref a) (.type "list")
  | frz {a : Addr} {o : Obj} {xs : List V} (e : H a = some (.frz o (.lst xs))) : TyOf K H (.ref a) (.type "list")
  | tup {a : Addr} {xs : List V} (e : H a = some (.tup xs)) : TyOf K H (.ref a) (.type "tuple")
  | dK {a : Addr} {kvs : List (Key × V)} (e : H a = some (.dK kvs)) : TyOf K H (.ref a) (.type "dict")
  | dT {a : Addr} {kvs : List (List Key × V)} (e : H a = some (.dT kvs)) : TyOf K H (.ref a) (.type "dict")
  | ins {a C dx : Addr} {fs : List (Str × V)} (e : H a = some (.ins C dx fs)) (cl : Cls K C) (ha : PySem.W.findIn K (.ref C) "__class__" = some (some (.builtin "object.__class__")))
      (hn : PySem.W.specialIn K (.builtin "object.__class__") "__get__" = some (some (.builtin "getset_descriptor.__get__"))) (htk : PySem.W.takesIn K (.builtin "object.__class__") = some true)
      (hm : PySem.W.mroIn K C (.type "object") = some true) : TyOf K H (.ref a) (.ref C)
/-- isinstance(x, c) for one class c, a built-in or an own one: kitOne's answer -/
theorem isinst_ok {x : V} {u t : Value} (I : Inv X pins σ H s) (rx : RelV x u) (ty : TyOf X.K H x t) (e : PySem.W.kitOne X.K t c = some b) (h : ∀ tk, Q (.bool b) { s with toks := tk }) :
    wpAny (model X.prog X.w) A (call (.builtin "isinstance") [u, c]) Q E s := by
  cases ty with
  | non => cases (show u = Value.none from rx); exact PySem.W.kia_one PySem.W.kitx_none I.kIn True.intro e (fun z => nomatch z) h
  | bl y => cases (show u = Value.bool y from rx); exact PySem.W.kia_one PySem.W.kitx_bool I.kIn True.intro e (fun z => nomatch z) h
  | int i => obtain ⟨t, q⟩ := (show ∃ t, u = Value.int i t from rx); cases q; exact PySem.W.kia_one PySem.W.kitx_int I.kIn True.intro e (fun z => nomatch z) h
  | str y => obtain ⟨t, q⟩ := (show ∃ t, u = Value.str y t from rx); cases q; exact PySem.W.kia_one PySem.W.kitx_str I.kIn True.intro e (fun z => nomatch z) h
  | flt y => obtain ⟨t, q⟩ := (show ∃ t, u = Value.float y t from rx); cases q; exact PySem.W.kia_one PySem.W.kitx_float I.kIn True.intro e (fun z => nomatch z) h
  | @lst a xs ea =>
    cases (show u = Value.ref a from rx)
    obtain ⟨_, _, n, _, h1⟩ := (show ObjOk X.prog X.w H s.heap a (.lst xs) from I.hok a _ ea)
    exact PySem.W.kia_one PySem.W.kitx_list I.kIn ⟨_, h1, rfl⟩ e (fun z => nomatch z) h
  | @frz a ob xs ea =>
    cases (show u = Value.ref a from rx)
    obtain ⟨_, _, _, n, _, h1⟩ := (show ObjOk X.prog X.w H s.heap a (.frz ob (.lst xs)) from I.hok a _ ea)
    exact PySem.W.kia_one PySem.W.kitx_list I.kIn ⟨_, h1, rfl⟩ e (fun z => nomatch z) h
  | @tup a xs ea =>
    cases (show u = Value.ref a from rx)
    obtain ⟨_, _, _, p⟩ := (show ObjOk X.prog X.w H s.heap a (.tup xs) from I.hok a _ ea)
    obtain ⟨o, h1, h2, _⟩ := p
    exact PySem.W.kia_one PySem.W.kitx_tuple I.kIn ⟨o, h1, h2⟩ e (fun z => nomatch z) h
  | @dK a kvs ea =>
    cases (show u = Value.ref a from rx)
    obtain ⟨_, _, vs, _, p⟩ := (show ObjOk X.prog X.w H s.heap a (.dK kvs) from I.hok a _ ea)
    obtain ⟨o, es, ep, h1, h2, _⟩ := p
    exact PySem.W.kia_one PySem.W.kitx_dict I.kIn ⟨o, h1, h2.1⟩ e (fun z => nomatch z) h
  | @dT a kvs ea =>
    cases (show u = Value.ref a from rx)
    obtain ⟨_, _, xs, _, o, es, ep, h1, h2, _⟩ := (show ObjOk X.prog X.w H s.heap a (.dT kvs) from I.hok a _ ea)
    exact PySem.W.kia_one PySem.W.kitx_dict I.kIn ⟨o, h1, h2.1⟩ e (fun z => nomatch z) h
  | @ins a C dx fs ea cl ha hn htk hm =>
    cases (show u = Value.ref a from rx)
    obtain ⟨mA, O, _⟩ := ins_get I.hok ea
    obtain ⟨od, J, _⟩ := O.look
    exact PySem.W.kia_one (PySem.W.kitx_own (cl.get _) cl.hd ha hn htk hm) I.kIn J e (fun z => nomatch z) h
end
end L2

namespace L2
open PySem PySem.Spec PyProof.Rows

/-! ### room -/
structure Room (k : Nat) (A : Around) : Prop where
  hd : A.handled = none
  dp : A.depth + 3 * k + 5 < recursionLimit
  un : A.units + 16 * k + 200 < cLine
theorem Room.mono {j k : Nat} {A : Around} (r : Room k A) (h : j ≤ k) : Room j A := ⟨r.hd, by have := r.dp; omega, by have := r.un; omega⟩
theorem Room.deeper {k : Nat} {A : Around} (r : Room (k + 1) A) (env : Env) : Room k (A.deeper env) :=
  ⟨r.hd, by have := r.dp; show A.depth + 1 + 3 * k + 5 < _; omega, by have := r.un; show A.units + 3 + 16 * k + 200 < _; omega⟩
theorem Room.in1 {k : Nat} {A : Around} (r : Room (k + 1) A) : Room k A.in1 :=
  ⟨r.hd, by have := r.dp; show A.depth + 3 * k + 5 < _; omega, by have := r.un; show A.units + 1 + 16 * k + 200 < _; omega⟩
theorem make_depth {A : Around} {C : Addr} {us : List Value} {kw : List (Str × Value)} : (A.under (.builtin "type.__call__" ⟨.ref C :: us, kw⟩)).depth = A.depth + 1 := by
  first | rfl | simp [Around.under, Code.weight, Code.isCreation, Code.isGuard, Code.isCaller, Code.frames, Code.isFrame, guardIds]
theorem make_units {A : Around} {C : Addr} {us : List Value} {kw : List (Str × Value)} : (A.under (.builtin "type.__call__" ⟨.ref C :: us, kw⟩)).units = A.units + 1 := by
  first | rfl | simp [Around.under, Code.cUnits, Code.frames, Code.isFrame]
theorem Room.make {k : Nat} {A : Around} (r : Room (k + 1) A) (C : Addr) (us : List Value) (kw : List (Str × Value)) : Room k (A.under (.builtin "type.__call__" ⟨.ref C :: us, kw⟩)) :=
  ⟨r.hd, by have := r.dp; rw [make_depth]; omega, by have := r.un; rw [make_units]; omega⟩
theorem Room.depth {k : Nat} {A : Around} (r : Room k A) : A.depth < recursionLimit := by have := r.dp; omega
theorem Room.units {k : Nat} {A : Around} (r : Room k A) : A.units + 64 < cLine := by have := r.un; omega
theorem Room.units0 {k : Nat} {A : Around} (r : Room k A) : A.units < cLine := by have := r.un; omega

/-! ### argument lists and displays -/
def tNil : TA := fun _ H Q => Q [] H
def tCons (ta : TE) (tr : TA) : TA := fun σ H Q => ta σ H fun x H1 => tr σ H1 fun xs H2 => Q (x :: xs) H2
section
variable {X : Cx} {e : Expr} {es : List Expr} {te : TE} {t : TA} {pos : Pos}
theorem pa_nil : PA X [] tNil := .mk fun _ _ _ _ H Q I h => Calls.spliced_nil ⟨[], H, I, .nil, h⟩
theorem pa_cons (ha : PE X e te) (hr : PA X es t) (hs : starEach (e :: es) X.env = (false, eval e X.env) :: starEach es X.env := by rfl) : PA X (e :: es) (tCons te t) := by
  refine .mk ?_
  intro pos pins s σ H Q I h
  rw [hs]
  show wpAny _ _ (spliced ((false, eval e X.env) :: backTo pos (starEach es X.env))) _ _ s
  refine Calls.spliced_cons (thn (ha pins s σ H _ I h) fun u s1 ⟨x, H1, I1, r1, q1⟩ => ?_)
  exact thn (hr pos pins s1 σ H1 _ I1 q1) fun us s2 ⟨xs, H2, I2, r2, q2⟩ => ⟨x :: xs, H2, I2, .cons r1 r2, q2⟩

/-- a tuple, a list of written items -/
def tTup (t : TA) : TE := fun σ H Q => t σ H fun xs H1 => xs.length ≤ sizeLine ∧ ∀ p, H1 p = none → Q (.ref p) (upd H1 p (.tup xs))
def tLst (t : TA) : TE := fun σ H Q => t σ H fun xs H1 => xs.length ≤ sizeLine ∧ ∀ p, H1 p = none → Q (.ref p) (upd H1 p (.lst xs))
theorem pe_tup {x1} (h : PA X es t) : PE X (.Tuple es x1 pos) (tTup t) := by
  refine .mk ?_
  intro pins s σ H Q I hq
  refine wpAny_Tuple_spliced (thn (h pos pins s σ H _ I hq) fun us s1 ⟨xs, H1, I1, r, z, q⟩ => ⟨by rw [← r.length]; exact z, ?_⟩)
  have hf : H1 s1.heap.objs.size = none := I1.hok.fresh (Nat.le_refl _)
  refine ⟨.ref s1.heap.objs.size, upd H1 s1.heap.objs.size (.tup xs), I1.laid (t' := s1.toks) (fun b u e => Heap.get?_push_of_some _ e) (Nat.le_refl _) ?_, rfl, q _ hf⟩
  exact ⟨z, us, r, ⟨_, Heap.get?_push_size _ rfl, rfl, _, rfl⟩⟩
theorem pe_lst (h : PA X es t) : PE X (.List es pos) (tLst t) := by
  refine .mk ?_
  intro pins s σ H Q I hq
  refine wpAny_List_spliced (thn (h pos pins s σ H _ I hq) fun us s1 ⟨xs, H1, I1, r, z, q⟩ => ⟨by rw [← r.length]; exact z, ?_⟩)
  have hf : H1 s1.heap.objs.size = none := I1.hok.fresh (Nat.le_refl _)
  refine ⟨.ref s1.heap.objs.size, upd H1 s1.heap.objs.size (.lst xs), I1.laid (t' := s1.toks) (fun b u e => Heap.get?_push_of_some _ e) (Nat.le_refl _) ?_, rfl, q _ hf⟩
  exact ⟨z, us, 0, r, Heap.get?_push_size _ rfl⟩
end

/-! ### what a def promises -/
/-- a def's promise: the bound arguments in the parameters' order, the heap, the wanted end, the wanted exception -/
abbrev Sp := List V → Hp → VK → XK → Prop
/-- how an exception lies behind a call (file 08 gives it): the callers' frames, abstract heap and state ahead of the call, the wish, the exception, the state -/
abbrev CXT := List Env → Hp → Shared → XK → Value → Shared → Prop

/-- the state at a call -/
structure Env0 (P : Program) (w : World) (K : PySem.W.Frag) (mg : Str → Option Value) (base : Heap) (A : Around) (outer : List Env) (s : Shared) (H : Hp) : Prop where
  frames : A.frames = some outer
  mod : Mod K mg base
  bs : ∀ b o, base.get? b = some o → s.heap.get? b = some o ∧ H b = none
  bsz : base.objs.size ≤ s.heap.objs.size
  funs : s.heap.FunFrames base outer
  frf : ∀ b ∈ frs outer, H b = none
  hok : HOk P w H s.heap
  bare : AllBare s.gens
/-- a call's end -/
def CE (outer : List Env) (P : Program) (w : World) (H : Hp) (s : Shared) (Q : VK) (u : Value) (s' : Shared) : Prop :=
  ∃ v H', s'.os = s.os ∧ AllBare s'.gens ∧ Un (frs outer) [] H H' s.heap s'.heap ∧ HOk P w H' s'.heap ∧ RelV v u ∧ Q v H'
def CR (CX : CXT) (outer : List Env) (P : Program) (w : World) (H : Hp) (s : Shared) (Q : VK) (E : XK) (r : Result) (s' : Shared) : Prop :=
  match r with
  | .ok (.ret u) => CE outer P w H s Q u s'
  | .ok _ => False
  | .error e => CX outer H s E e s'
structure FnOk (P : Program) (w : World) (K : PySem.W.Frag) (mg : Str → Option Value) (base : Heap) (CX : CXT) (k : Nat) (f : Addr) (fd : FuncData) (ps : List Str) (sp : Sp) : Prop where
  len : ∀ vs H Q E, sp vs H Q E → vs.length = ps.length
  run : ∀ (A : Around) (outer : List Env) (s : Shared) (H : Hp) (args : Args) (us : List Value) (vs : List V) (Q : VK) (E : XK), Room k A → Env0 P w K mg base A outer s H → BindsTo s fd args (ps.zip us) → Vals vs us → sp vs H Q E →
    codeAny (model P w) A (.call (.ref f) args) (CR CX outer P w H s Q E) s
theorem FnOk.mono {P : Program} {w : World} {K : PySem.W.Frag} {mg : Str → Option Value} {base : Heap} {CX : CXT} {j k : Nat} {f : Addr} {fd : FuncData} {ps : List Str} {sp : Sp} (F : FnOk P w K mg base CX j f fd ps sp) (h : j ≤ k) :
    FnOk P w K mg base CX k f fd ps sp := ⟨F.len, fun A outer s H args us vs Q E hr => F.run A outer s H args us vs Q E (hr.mono h)⟩
/-- a weaker promise -/
theorem FnOk.imp {P : Program} {w : World} {K : PySem.W.Frag} {mg : Str → Option Value} {base : Heap} {CX : CXT} {k : Nat} {f : Addr} {fd : FuncData} {ps : List Str} {sp sp' : Sp} (F : FnOk P w K mg base CX k f fd ps sp)
    (h : ∀ vs H Q E, sp' vs H Q E → sp vs H Q E) : FnOk P w K mg base CX k f fd ps sp' :=
  ⟨fun vs H Q E q => F.len vs H Q E (h _ _ _ _ q), fun A outer s H args us vs Q E hr he hb hv hs => F.run A outer s H args us vs Q E hr he hb hv (h _ _ _ _ hs)⟩

theorem Env0.make {P : Program} {w : World} {K : PySem.W.Frag} {mg : Str → Option Value} {base : Heap} {A : Around} {outer : List Env} {s : Shared} {H : Hp} (e : Env0 P w K mg base A outer s H) (C : Addr) (us : List Value) (kw : List (Str × Value)) :
    Env0 P w K mg base (A.under (.builtin "type.__call__" ⟨.ref C :: us, kw⟩)) outer s H := ⟨by first | exact e.frames | (simpa [Around.under, Code.envs, Code.isFrame, pushEnvs] using e.frames), e.mod, e.bs, e.bsz, e.funs, e.frf, e.hok, e.bare⟩
theorem Env0.in1 {P : Program} {w : World} {K : PySem.W.Frag} {mg : Str → Option Value} {base : Heap} {A : Around} {outer : List Env} {s : Shared} {H : Hp} (e : Env0 P w K mg base A outer s H) :
    Env0 P w K mg base A.in1 outer s H := ⟨e.frames, e.mod, e.bs, e.bsz, e.funs, e.frf, e.hok, e.bare⟩

section
variable {X : Cx} {pins : List (Addr × Obj)} {σ : St} {H : Hp} {s s' : Shared}
/-- from a body: what a callee wants -/
theorem Inv.env0 (I : Inv X pins σ H s) : Env0 X.prog X.w X.K X.mg X.base X.A X.stack s H :=
  ⟨I.ok.frames, I.ok.mod, I.bs, Nat.le_trans I.ok.bsz I.sz, I.stack, I.stkFree, I.hok, I.bare⟩
/-- behind a call -/
theorem Inv.after {Q : VK} {u : Value} (I : Inv X pins σ H s) (h : CE X.stack X.prog X.w H s Q u s') : EP X pins σ Q u s' := by
  obtain ⟨v, H', os, bare, un, hok, r, q⟩ := h
  obtain ⟨hh, g, d, t, os'⟩ := s'
  obtain rfl : os' = s.os := os
  exact ⟨v, H', I.call (h' := hh) (g' := g) (d' := d) (t' := t) (ch := []) un hok bare (fun b z => absurd z (by simp)), r, q⟩
end

/-! ### calls -/
/-- f(..): the written arguments, then the defaults dvs; E: what is wanted of an exception -/
def tCall (sp : Sp) (dvs : List V) (E : XK) (t : TA) : TE := fun σ H Q => t σ H fun vs H1 => sp (vs ++ dvs) H1 Q E
/-- o.m(..) of an instance of the class at C -/
def tMeth (C : Addr) (m : Str) (sp : Sp) (dvs : List V) (E : XK) (ta : TE) (t : TA) : TE := fun σ H Q => ta σ H fun x H1 => ∃ a dx fs, x = .ref a ∧ H1 a = some (.ins C dx fs) ∧ fs.lookup m = none ∧
  t σ H1 fun vs H2 => sp (x :: (vs ++ dvs)) H2 Q E
/-- C(..): a new instance and its dict, then __init__ -/
def tMake (C : Addr) (sp : Sp) (dvs : List V) (E : XK) (t : TA) : TE := fun σ H Q => t σ H fun vs H1 => ∀ x dx, H1 x = none → H1 dx = none → dx ≠ x →
  sp (.ref x :: (vs ++ dvs)) (upd (upd H1 dx (.own x)) x (.ins C dx [])) (fun v H2 => v = .non ∧ Q (.ref x) H2) E

/-- how the parameters are bound: us the positional arguments, kw the keywords' values by name, ds the defaults that fill up -/
def Binds (K : PySem.W.Frag) (fd : FuncData) (ps : List Str) (ds : List Value) : Prop :=
  ∀ (s : Shared) (us : List Value), K.In s.heap → (us ++ ds).length = ps.length → BindsTo s fd ⟨us, []⟩ (ps.zip (us ++ ds))
/-- every parameter is given -/
theorem Binds.all {K : PySem.W.Frag} {fd : FuncData} {ps : List Str} (h : ∀ us : List Value, us.length = ps.length → bindArgs fd ⟨us, []⟩ = pure (ps.zip us)) : Binds K fd ps [] := fun s us _ hl => by
  rw [List.append_nil] at hl ⊢
  exact .of_eq (h us hl)

/-- an exception of a callee reaches what this body wants of exceptions -/
def Passes (CX : CXT) (X : Cx) (E : XK) : Prop := ∀ (pins : List (Addr × Obj)) (σ : St) (H : Hp) (s : Shared) (e : Value) (s' : Shared), Inv X pins σ H s → CX X.stack H s E e s' → X.xe e s'

section
variable {X : Cx} {CX : CXT} {k : Nat} {f C : Addr} {fd : FuncData} {ps : List Str} {sp : Sp} {dvs : List V} {ds : List Value} {E : XK} {x m : Str} {p pos apos : Pos} {e o : Expr} {es : List Expr} {ta : TE} {t : TA}

/-- the callee runs -/
theorem run_fn {pins : List (Addr × Obj)} {σ : St} {H : Hp} {s : Shared} {Q : VK} {us : List Value} {vs : List V} (F : FnOk X.prog X.w X.K X.mg X.base CX k f fd ps sp) (hr : Room k X.A) (hb : Binds X.K fd ps ds) (hd : Vals dvs ds) (hx : Passes CX X E)
    (I : Inv X pins σ H s) (r : Vals vs us) (h : sp (vs ++ dvs) H Q E) : wpAny (model X.prog X.w) X.A (call (.ref f) us) (EP X pins σ Q) X.xe s := by
  have r2 : Vals (vs ++ dvs) (us ++ ds) := r.append hd
  have hl : (us ++ ds).length = ps.length := by rw [← r2.length]; exact F.len _ _ _ _ h
  refine wpAny_call (codeAny_mono (F.run X.A X.stack s H ⟨us, []⟩ (us ++ ds) (vs ++ dvs) Q E hr I.env0 (hb s us I.kIn hl) r2 h) fun r s' hq => ?_)
  cases r with
  | error e => exact hx pins σ H s e s' I hq
  | ok fl =>
    cases fl with
    | ret u => exact I.after hq
    | next => exact False.elim hq
    | brk => exact False.elim hq
    | cont => exact False.elim hq

theorem pe_call (F : FnOk X.prog X.w X.K X.mg X.base CX k f fd ps sp) (hr : Room k X.A) (hg : Gl X x) (hm : X.mg x = some (.ref f)) (hk : PySem.W.keepIn X.K (.ref f) = true) (hb : Binds X.K fd ps ds) (hd : Vals dvs ds) (hx : Passes CX X E)
    (ha : PA X (e :: es) t) (hdb : (x == ("__debug__" : Str)) = false := by decide) (he : starEach (e :: es) X.env = (false, eval e X.env) :: starEach es X.env := by rfl) (hpl : (backTo pos (starEach es X.env)).any (·.1) = false := by rfl) :
    PE X (.Call (.Name x p) (e :: es) [] pos) (tCall sp dvs E t) := by
  refine .mk ?_
  intro pins s σ H Q I h
  refine wpAny_Call_Name_kw (ld_glob I hg hm ?_ hdb)
  refine PySem.W.callWith_K (h₀ := X.base) I.ok.mod.kin hk (thn (ha pos pins s σ H _ I h) fun us s1 ⟨vs, H1, I1, r, q⟩ => ⟨I1.kIn, ?_⟩) he hpl
  exact run_fn F hr hb hd hx I1 r q
theorem pe_call0 (F : FnOk X.prog X.w X.K X.mg X.base CX k f fd ps sp) (hr : Room k X.A) (hg : Gl X x) (hm : X.mg x = some (.ref f)) (hk : PySem.W.keepIn X.K (.ref f) = true) (hb : Binds X.K fd ps ds) (hd : Vals dvs ds) (hx : Passes CX X E)
    (hdb : (x == ("__debug__" : Str)) = false := by decide) : PE X (.Call (.Name x p) [] [] pos) (tCall sp dvs E tNil) := by
  refine .mk ?_
  intro pins s σ H Q I h
  refine wpAny_Call_Name_kw (ld_glob I hg hm ?_ hdb)
  exact PySem.W.callWith_K0 I.kIn hk (run_fn (us := []) F hr hb hd hx I .nil h)

/-- o.m(e, ..) -/
theorem pe_meth {pl : Sem Bool} (he : PE X o ta) (c : Cls X.K C) (hm : Meth X.K C m f) (F : FnOk X.prog X.w X.K X.mg X.base CX k f fd ps sp) (hr : Room k X.A) (hb : Binds X.K fd ps ds) (hd : Vals dvs ds) (hx : Passes CX X E) (ha : PA X (e :: es) t)
    (hst : starEach (e :: es) X.env = (false, eval e X.env) :: starEach es X.env := by rfl) (hpl : (backTo pos (starEach es X.env)).any (·.1) = false := by rfl)
    (ht : eval (.Call (.Attribute o m apos) (e :: es) [] pos) X.env = (do
      let ov ← eval o X.env
      standAt apos.atName
      let (f, first) ← holding [ov] (getMethod ov m pl)
      callWith pos f first (backTo pos (starEach (e :: es) X.env)) (backToKw pos (keywordEach [] X.env))) := by rfl) :
    PE X (.Call (.Attribute o m apos) (e :: es) [] pos) (tMeth C m sp dvs E ta t) := by
  refine .mk ?_
  intro pins s σ H Q I h
  refine PySem.W.methodCall_KW (pl := pl) (thn (he pins s σ H _ I h) fun u s1 ⟨x, H1, I1, rx, a, dx, fs, ex, ea, l, q⟩ => ?_) ht
  subst ex
  obtain rfl : u = Value.ref a := rx
  refine getmeth_ok I1 ea c hm l ?_
  refine PySem.W.callWith_K (first := [.ref a]) (h₀ := X.base) I.ok.mod.kin hm.kp (thn (ha pos pins s1 σ H1 _ I1 q) fun us s2 ⟨vs, H2, I2, r, q2⟩ => ⟨I2.kIn, ?_⟩) hst hpl
  exact run_fn (us := .ref a :: us) (vs := .ref a :: vs) F hr hb hd hx I2 (.cons rfl r) q2
/-- o.m() -/
theorem pe_meth0 {pl : Sem Bool} (he : PE X o ta) (c : Cls X.K C) (hm : Meth X.K C m f) (F : FnOk X.prog X.w X.K X.mg X.base CX k f fd ps sp) (hr : Room k X.A) (hb : Binds X.K fd ps ds) (hd : Vals dvs ds) (hx : Passes CX X E)
    (ht : eval (.Call (.Attribute o m apos) [] [] pos) X.env = (do
      let ov ← eval o X.env
      standAt apos.atName
      let (f, first) ← holding [ov] (getMethod ov m pl)
      callWith pos f first (backTo pos (starEach [] X.env)) (backToKw pos (keywordEach [] X.env))) := by rfl) :
    PE X (.Call (.Attribute o m apos) [] [] pos) (tMeth C m sp dvs E ta tNil) := by
  refine .mk ?_
  intro pins s σ H Q I h
  refine PySem.W.methodCall_KW (pl := pl) (thn (he pins s σ H _ I h) fun u s1 ⟨x, H1, I1, rx, a, dx, fs, ex, ea, l, q⟩ => ?_) ht
  subst ex
  obtain rfl : u = Value.ref a := rx
  refine getmeth_ok I1 ea c hm l ?_
  exact PySem.W.callWith_K0 (first := [.ref a]) I1.kIn hm.kp (run_fn (us := [.ref a]) (vs := [.ref a]) F hr hb hd hx I1 (.cons rfl .nil) q)

/-- what a class must have to be made -/
structure Mk (K : PySem.W.Frag) (C f : Addr) : Prop where
  makes : PySem.W.makesIn K C = true
  init : PySem.W.findIn K (.ref C) "__init__" = some (some (.ref f))
  fn : PySem.W.isFn K (.ref f) = true
  kp : PySem.W.keepIn K (.ref C) = true

theorem run_make {pins : List (Addr × Obj)} {σ : St} {H : Hp} {s : Shared} {Q : VK} {us : List Value} {vs : List V} (M : Mk X.K C f) (F : FnOk X.prog X.w X.K X.mg X.base CX k f fd ps sp) (hr : Room (k + 1) X.A) (hb : Binds X.K fd ps ds) (hd : Vals dvs ds)
    (hx : Passes CX X E) (I : Inv X pins σ H s) (r : Vals vs us)
    (h : ∀ x dx, H x = none → H dx = none → dx ≠ x → sp (.ref x :: (vs ++ dvs)) (upd (upd H dx (.own x)) x (.ins C dx [])) (fun v H2 => v = .non ∧ Q (.ref x) H2) E) :
    wpAny (model X.prog X.w) X.A (call (.ref C) us) (EP X pins σ Q) X.xe s := by
  have hq := h (s.heap.objs.size + 1) s.heap.objs.size (I.hok.fresh (Nat.le_succ _)) (I.hok.fresh (Nat.le_refl _)) (Nat.ne_of_lt (Nat.lt_succ_self _))
  have I2 := Inv.made (C := C) I
  have r2 : Vals (V.ref (s.heap.objs.size + 1) :: (vs ++ dvs)) (Value.ref (s.heap.objs.size + 1) :: (us ++ ds)) := .cons rfl (r.append hd)
  have hl : (Value.ref (s.heap.objs.size + 1) :: us ++ ds).length = ps.length := by
    have e := r2.length
    rw [F.len _ _ _ _ hq] at e
    exact e.symm
  refine wpAny_call (make_map (f := f) I.kIn M.makes M.init (beq_iff_eq.mp M.fn) (codeAny_mono (F.run _ X.stack _ _ ⟨Value.ref (s.heap.objs.size + 1) :: us, []⟩ (Value.ref (s.heap.objs.size + 1) :: (us ++ ds)) _ _ E (hr.make C us [])
    (I2.env0.make C us []) (hb _ (Value.ref (s.heap.objs.size + 1) :: us) I2.kIn hl) r2 hq) fun r s' hq' => ?_))
  cases r with
  | error e => exact hx pins σ _ _ e s' I2 hq'
  | ok fl =>
    cases fl with
    | ret u =>
      obtain ⟨v, H', I3, rv, ev, q3⟩ := I2.after hq'
      subst ev
      exact ⟨rv, ⟨V.ref (s.heap.objs.size + 1), H', I3, rfl, q3⟩⟩
    | next => exact False.elim hq'
    | brk => exact False.elim hq'
    | cont => exact False.elim hq'
theorem pe_make (M : Mk X.K C f) (F : FnOk X.prog X.w X.K X.mg X.base CX k f fd ps sp) (hr : Room (k + 1) X.A) (hg : Gl X x) (hm : X.mg x = some (.ref C)) (hb : Binds X.K fd ps ds) (hd : Vals dvs ds) (hx : Passes CX X E)
    (ha : PA X (e :: es) t) (hdb : (x == ("__debug__" : Str)) = false := by decide) (he : starEach (e :: es) X.env = (false, eval e X.env) :: starEach es X.env := by rfl) (hpl : (backTo pos (starEach es X.env)).any (·.1) = false := by rfl) :
    PE X (.Call (.Name x p) (e :: es) [] pos) (tMake C sp dvs E t) := by
  refine .mk ?_
  intro pins s σ H Q I h
  refine wpAny_Call_Name_kw (ld_glob I hg hm ?_ hdb)
  refine PySem.W.callWith_K (h₀ := X.base) I.ok.mod.kin M.kp (thn (ha pos pins s σ H _ I h) fun us s1 ⟨vs, H1, I1, r, q⟩ => ⟨I1.kIn, ?_⟩) he hpl
  exact run_make M F hr hb hd hx I1 r q
theorem pe_make0 (M : Mk X.K C f) (F : FnOk X.prog X.w X.K X.mg X.base CX k f fd ps sp) (hr : Room (k + 1) X.A) (hg : Gl X x) (hm : X.mg x = some (.ref C)) (hb : Binds X.K fd ps ds) (hd : Vals dvs ds) (hx : Passes CX X E)
    (hdb : (x == ("__debug__" : Str)) = false := by decide) : PE X (.Call (.Name x p) [] [] pos) (tMake C sp dvs E tNil) := by
  refine .mk ?_
  intro pins s σ H Q I h
  refine wpAny_Call_Name_kw (ld_glob I hg hm ?_ hdb)
  exact PySem.W.callWith_K0 I.kIn M.kp (run_make (us := []) M F hr hb hd hx I .nil h)
end

/-! ### keywords -/
/-- the values of the keywords, from the left -/
structure PK (X : Cx) (kws : List Keyword) (t : TA) : Prop where
  run : ∀ (pos : Pos) (pins : List (Addr × Obj)) (s : Shared) (σ : St) (H : Hp) (Q : List V → Hp → Prop), Inv X pins σ H s → t σ H Q → wpAny (model X.prog X.w) X.A (evalAll ((backToKw pos (keywordEach kws X.env)).map (·.2))) (AP X pins σ Q) X.xe s
instance {X : Cx} {kws : List Keyword} {t : TA} : CoeFun (PK X kws t) fun _ => ∀ (pos : Pos) (pins : List (Addr × Obj)) (s : Shared) (σ : St) (H : Hp) (Q : List V → Hp → Prop), Inv X pins σ H s → t σ H Q → wpAny (model X.prog X.w) X.A (evalAll ((backToKw pos (keywordEach kws X.env)).map (·.2))) (AP X pins σ Q) X.xe s := ⟨PK.run⟩
section
variable {X : Cx} {CX : CXT} {k : Nat} {f C : Addr} {fd : FuncData} {ps ks : List Str} {sp : Sp} {E : XK} {x m : Str} {p pos apos kpos : Pos} {e o : Expr} {es : List Expr} {kws : List Keyword} {te ta : TE} {t tk : TA} {nm : Option Str}
theorem pk_nil : PK X [] tNil := .mk fun _ _ _ _ H Q I h => wpAny_evalAll_nil ⟨[], H, I, .nil, h⟩
theorem pk_cons (ha : PE X e te) (hr : PK X kws t) : PK X (⟨nm, e, kpos⟩ :: kws) (tCons te t) := by
  refine .mk ?_
  intro pos pins s σ H Q I h
  show wpAny _ _ (evalAll ((do let v ← eval e X.env; standAt pos; pure v) :: (backToKw pos (keywordEach kws X.env)).map (·.2))) _ _ s
  refine wpAny_evalAll_cons (wpAny_bind (thn (ha pins s σ H _ I h) fun u s1 ⟨x, H1, I1, r1, q1⟩ => wpAny_bind (wpAny_standAt (wpAny_pure ?_))))
  exact thn (hr pos pins s1 σ H1 _ I1 q1) fun us s2 ⟨xs, H2, I2, r2, q2⟩ => ⟨x :: xs, H2, I2, .cons r1 r2, q2⟩

/-- how a call with keywords binds: g puts the positional values us and the keywords' values ws (names ks) in the parameters' order, defaults among them -/
structure KBinds (K : PySem.W.Frag) (fd : FuncData) (ps ks : List Str) (g : List Value → List Value → List Value) (gV : List V → List V → List V) : Prop where
  to : ∀ (s : Shared) (us ws : List Value), K.In s.heap → (g us ws).length = ps.length → BindsTo s fd ⟨us, ks.zip ws⟩ (ps.zip (g us ws))
  rel : ∀ {vs : List V} {us : List Value} {zs : List V} {ws : List Value}, Vals vs us → Vals zs ws → Vals (gV vs zs) (g us ws)
def tCallK (sp : Sp) (gV : List V → List V → List V) (E : XK) (t tk : TA) : TE := fun σ H Q => t σ H fun vs H1 => tk σ H1 fun zs H2 => sp (gV vs zs) H2 Q E
variable {g : List Value → List Value → List Value} {gV : List V → List V → List V}
theorem run_fnk {pins : List (Addr × Obj)} {σ : St} {H : Hp} {s : Shared} {Q : VK} {us ws : List Value} {vs zs : List V} (F : FnOk X.prog X.w X.K X.mg X.base CX k f fd ps sp) (hr : Room k X.A) (hb : KBinds X.K fd ps ks g gV) (hx : Passes CX X E)
    (I : Inv X pins σ H s) (r : Vals vs us) (rz : Vals zs ws) (h : sp (gV vs zs) H Q E) : wpAny (model X.prog X.w) X.A (call (.ref f) us (ks.zip ws)) (EP X pins σ Q) X.xe s := by
  have r2 := hb.rel r rz
  have hl : (g us ws).length = ps.length := by rw [← r2.length]; exact F.len _ _ _ _ h
  refine wpAny_call (codeAny_mono (F.run X.A X.stack s H ⟨us, ks.zip ws⟩ (g us ws) (gV vs zs) Q E hr I.env0 (hb.to s us ws I.kIn hl) r2 h) fun r s' hq => ?_)
  cases r with
  | error e => exact hx pins σ H s e s' I hq
  | ok fl =>
    cases fl with
    | ret u => exact I.after hq
    | next => exact False.elim hq
    | brk => exact False.elim hq
    | cont => exact False.elim hq
/-- f(e, .., k = v, ..) -/
theorem pe_callK (F : FnOk X.prog X.w X.K X.mg X.base CX k f fd ps sp) (hr : Room k X.A) (hg : Gl X x) (hm : X.mg x = some (.ref f)) (hk : PySem.W.keepIn X.K (.ref f) = true) (hb : KBinds X.K fd ps ks g gV) (hx : Passes CX X E)
    (ha : PA X (e :: es) t) (hkw : PK X kws tk) (hall : (backToKw pos (keywordEach kws X.env)).all (·.1.isSome) = true := by rfl) (hks : (backToKw pos (keywordEach kws X.env)).filterMap (·.1) = ks := by rfl)
    (hdb : (x == ("__debug__" : Str)) = false := by decide) (he : starEach (e :: es) X.env = (false, eval e X.env) :: starEach es X.env := by rfl)
    (hpl : ((backTo pos (starEach (e :: es) X.env)).any (·.1) || (backToKw pos (keywordEach kws X.env)).any (·.1.isNone)) = false := by rfl) :
    PE X (.Call (.Name x p) (e :: es) kws pos) (tCallK sp gV E t tk) := by
  refine .mk ?_
  intro pins s σ H Q I h
  refine wpAny_Call_Name_kw (ld_glob I hg hm ?_ hdb)
  refine PySem.W.callWith_KW (h₀ := X.base) I.ok.mod.kin hk hall (thn (ha pos pins s σ H _ I h) fun us s1 ⟨vs, H1, I1, r, q⟩ => ?_) hpl he
  refine thn (hkw pos pins s1 σ H1 _ I1 q) fun ws s2 ⟨zs, H2, I2, rz, q2⟩ => ⟨I2.kIn, ?_⟩
  rw [hks]
  exact run_fnk F hr hb hx I2 r rz q2
end

/-! ### a def's body keeps its promise -/
/-- names: the parameters first -/
structure FnScope (N P : List Str) (sc : Scope) : Prop where
  kind : sc.kind = .function
  co : sc.isCoroutine = false
  gen : sc.isGenerator = false
  nd : N.Nodup
  pre : N.take P.length = P
  par : ∀ x ∈ P, sc.names.lookup x = some .local ∨ sc.names.lookup x = some .cell
  nofree : ∀ y ∈ sc.names, y.2 ≠ .free

theorem bindL_out {kindOf : Str → Option NameKind} {x : Str} : ∀ {binds : List (Str × Value)} {m : Str → Option Value}, (∀ v, (x, v) ∉ binds) → bindL kindOf binds m x = m x
  | [], _, _ => rfl
  | (n, v) :: r, m, h => by
    unfold bindL
    rw [bindL_out fun w hw => h w (List.mem_cons_of_mem _ hw)]
    split
    · have : x ≠ n := by rintro rfl; exact h v List.mem_cons_self
      simp [this]
    · rfl
theorem bindC_out {kindOf : Str → Option NameKind} {x : Str} : ∀ {binds : List (Str × Value)} {m : Str → Option Value}, (∀ v, (x, v) ∉ binds) → bindC kindOf binds m x = m x
  | [], _, _ => rfl
  | (n, v) :: r, m, h => by
    unfold bindC
    rw [bindC_out fun w hw => h w (List.mem_cons_of_mem _ hw)]
    split
    · rfl
    · have : x ≠ n := by rintro rfl; exact h v List.mem_cons_self
      simp [this]
theorem bindL_get {kindOf : Str → Option NameKind} {x : Str} {v : Value} : ∀ {P : List Str} {vs : List Value} {i : Nat} {m : Str → Option Value}, P.Nodup → P[i]? = some x → vs[i]? = some v → kindOf x = some .local →
    bindL kindOf (P.zip vs) m x = some v
  | [], _, _, _, _, h, _, _ => by simp at h
  | _ :: _, [], _, _, _, _, h, _ => by simp at h
  | p :: P, w :: vs, 0, m, nd, h1, h2, hk => by
    simp at h1 h2; subst h1; subst h2
    show bindL kindOf ((p, w) :: P.zip vs) m p = _
    unfold bindL
    rw [bindL_out fun v hv => (List.nodup_cons.mp nd).1 (List.of_mem_zip hv).1, if_pos hk]
    simp
  | p :: P, w :: vs, i + 1, m, nd, h1, h2, hk => by
    show bindL kindOf ((p, w) :: P.zip vs) m x = _
    unfold bindL
    exact bindL_get (i := i) (List.nodup_cons.mp nd).2 (by simpa using h1) (by simpa using h2) hk
theorem bindC_get {kindOf : Str → Option NameKind} {x : Str} {v : Value} : ∀ {P : List Str} {vs : List Value} {i : Nat} {m : Str → Option Value}, P.Nodup → P[i]? = some x → vs[i]? = some v → kindOf x ≠ some .local →
    bindC kindOf (P.zip vs) m x = some v
  | [], _, _, _, _, h, _, _ => by simp at h
  | _ :: _, [], _, _, _, _, h, _ => by simp at h
  | p :: P, w :: vs, 0, m, nd, h1, h2, hk => by
    simp at h1 h2; subst h1; subst h2
    show bindC kindOf ((p, w) :: P.zip vs) m p = _
    unfold bindC
    rw [bindC_out fun v hv => (List.nodup_cons.mp nd).1 (List.of_mem_zip hv).1, if_neg hk]
    simp
  | p :: P, w :: vs, i + 1, m, nd, h1, h2, hk => by
    show bindC kindOf ((p, w) :: P.zip vs) m x = _
    unfold bindC
    exact bindC_get (i := i) (List.nodup_cons.mp nd).2 (by simpa using h1) (by simpa using h2) hk

/-- the names' values at the entry -/
def start (N : List Str) (vs : List V) : St := vs.map some ++ List.replicate (N.length - vs.length) none

/-- the context of a def's body, at its entry; an exception leaves the frame, then lies as CX says -/
def cxOf (CX : CXT) (P : Program) (w : World) (K : PySem.W.Frag) (mg : Str → Option Value) (base : Heap) (N : List Str) (qual : Str) (scope : Scope) (f : Addr) (cd : Value) (A : Around) (outer : List Env) (s : Shared) (H : Hp) (E : XK) : Cx where
  prog := P
  w := w
  K := K
  mg := mg
  base := base
  A := A.deeper (envOfC qual scope s.heap.objs.size f cd)
  N := N
  s₀ := s
  H₀ := H
  env := envOfC qual scope s.heap.objs.size f cd
  outer := outer
  stack := envOfC qual scope s.heap.objs.size f cd :: outer
  ex := []
  calm := true
  fn := fun _ => true
  pn := []
  xe := fun e s' => wpAny (model P w) (A.deeper (envOfC qual scope s.heap.objs.size f cd)) (leaving (envOfC qual scope s.heap.objs.size f cd) e) (fun _ s'' => CX outer H s E e s'') (fun e' s'' => CX outer H s E e' s'') s'

theorem cell_has {sc : Scope} {n : Nat} {x : Str} (h : sc.names.lookup x = some .cell) : ∃ c, (cellsFrom n sc.names []).lookup x = some c := by
  have q := PySem.W.cellsFrom_some sc.names n [] (.inl h)
  exact Option.isSome_iff_exists.mp q

theorem inv_start {CX : CXT} {P : Program} {w : World} {K : PySem.W.Frag} {mg : Str → Option Value} {base : Heap} {N ps : List Str} {qual : Str} {scope : Scope} {f : Addr} {cd : Value} {A : Around} {outer : List Env} {s s1 : Shared} {H : Hp} {E : XK} {us : List Value} {vs : List V}
    (S : FnScope N ps scope) (hd : A.handled = none) (e0 : Env0 P w K mg base A outer s H) (hl : vs.length = ps.length) (r : Vals vs us)
    (x : InCallC s s.heap.objs.size (bindL (envOfC qual scope s.heap.objs.size f cd).kindOf (ps.zip us) fun _ => none) (cellsFrom (s.heap.objs.size + 1) scope.names []) (bindC (envOfC qual scope s.heap.objs.size f cd).kindOf (ps.zip us) fun _ => none) s1) :
    Inv (cxOf CX P w K mg base N qual scope f cd A outer s H E) [] (start N vs) H s1 := by
  have hpl : ps.length ≤ N.length := by have := congrArg List.length S.pre; rw [List.length_take] at this; omega
  obtain ⟨h1, tk, rfl, hk⟩ := x.done
  have noA : ∀ b : Addr, b ∉ (cxOf CX P w K mg base N qual scope f cd A outer s H E).ex := fun b z => absurd (show b ∈ ([] : List Addr) from z) (by simp)
  refine ⟨⟨e0.mod, S.kind, rfl, rfl, Nat.le_refl _, fun y z c h1 h2 => ?_, fun y hy => ?_, fun y c _ h => ?_, fun _ => hd, Around.frames_deeper e0.frames, .inr ⟨rfl, rfl⟩, fun b z => absurd z (noA b), e0.bs, e0.bsz, fun b _ _ => noA b, fun b z => absurd z (noA b), e0.funs, e0.frf⟩,
    rfl, e0.bare, Un.kept hk, ⟨_, x.toInCall.ns, fun i y v h1 h2 h3 => ?_⟩, fun y c h => ⟨_, x.cell y c h⟩, e0.hok.fresh (Nat.le_refl _), fun y c h => ?_, fun p hp => absurd (show p ∈ ([] : List (Addr × Obj)) from hp) (by simp), e0.hok.kept hk, ?_⟩
  · exact name_of_addr x.apart (PySem.mem_of_lookup h1) (PySem.mem_of_lookup h2)
  · have hy : scope.names.lookup y = some .cell ∨ scope.names.lookup y = some .free := hy
    rcases hy with hy | hy
    · exact cell_has hy
    · exact absurd rfl (S.nofree _ (PySem.mem_of_lookup hy))
  · exact Nat.le_of_lt (x.above y c (PySem.mem_of_lookup h))
  · have hi : i < vs.length := by
      unfold start at h2
      by_cases hi : i < vs.length
      · exact hi
      · rw [List.getElem?_append_right (by simpa using hi)] at h2
        rw [List.getElem?_replicate] at h2
        split at h2 <;> cases h2
    have ha : vs[i]? = some v := by
      unfold start at h2
      rw [List.getElem?_append_left (by simpa using hi), List.getElem?_map] at h2
      cases e : vs[i]? with
      | none => rw [e] at h2; cases h2
      | some a => rw [e] at h2; cases h2; rfl
    obtain ⟨u, hu, rv⟩ := r.get ha
    have hp : ps[i]? = some y := by
      rw [← S.pre, List.getElem?_take_of_lt (by omega)]; exact h1
    have ndP : ps.Nodup := by rw [← S.pre]; exact S.nd.sublist (List.take_sublist _ _)
    refine ⟨u, rv, ?_⟩
    rcases S.par y (List.mem_of_getElem? hp) with k | k
    · exact .inl ⟨k, bindL_get ndP hp hu k⟩
    · obtain ⟨c, e⟩ := cell_has (n := s.heap.objs.size + 1) k
      refine .inr ⟨.inl k, c, e, ?_⟩
      have q := x.cell y c e
      rw [bindC_get ndP hp hu (by show scope.names.lookup y ≠ _; rw [k]; decide)] at q
      exact q
  · exact e0.hok.fresh (Nat.le_of_lt (x.above y c (PySem.mem_of_lookup h)))
  · unfold start
    show _ = N.length
    rw [List.length_append, List.length_map, List.length_replicate]
    omega

/-- THE RULE: a def (or a method) of the text, by its body. The body's reading t is chosen for each entry; it is run at the parameters' values -/
theorem fn_of {CX : CXT} {P : Program} {w : World} {K : PySem.W.Frag} {mg : Str → Option Value} {base : Heap} {k : Nat} {f : Addr} {name qual : Str} {params : Arguments} {body : List Stmt} {scope : Scope} {dV kV doc pm cdv ct oc : Value} {an od : Option Addr}
    {osl : Array (Option Value)} {N ps : List Str} {sp : Sp} (lk : K.lookup f = some ⟨oc, od, .func (PySem.W.fnOf name qual params body scope dV kV doc pm an cdv ct), osl⟩) (hcd : PySem.W.codeIn K cdv qual = true) (S : FnScope N ps scope)
    (len : ∀ vs H Q E, sp vs H Q E → vs.length = ps.length)
    (hbody : ∀ (A : Around) (outer : List Env) (s : Shared) (H : Hp) (vs : List V) (Q : VK) (E : XK), Room k (A.deeper (envOfC qual scope s.heap.objs.size f cdv)) → sp vs H Q E →
      ∃ t, PSs (cxOf CX P w K mg base N qual scope f cdv A outer s H E) body t ∧ t { nx := fun _ H' => Q .non H', rt := Q } (start N vs) H) :
    FnOk P w K mg base CX (k + 1) f (PySem.W.fnOf name qual params body scope dV kV doc pm an cdv ct) ps sp := by
  refine ⟨len, fun A outer s H args us vs Q E hr e0 hb r hsp => ?_⟩
  have hl := len _ _ _ _ hsp
  have KX : K.In s.heap := e0.mod.kin.keeps fun b o e => (e0.bs b o e).1
  have lim : s.heap.NoLimit := e0.mod.nolimit.keeps fun b o e => (e0.bs b o e).1
  have hkind : ∀ y ∈ ps.zip us, scope.names.lookup y.1 = some .local ∨ (scope.names.lookup y.1 = some .cell ∧ ((cellsFrom (s.heap.objs.size + 1) scope.names []).lookup y.1).isSome = true) := fun ⟨n, v⟩ hy => by
    rcases S.par n (List.of_mem_zip hy).1 with q | q
    · exact .inl q
    · exact .inr ⟨q, PySem.W.cellsFrom_some _ _ _ (.inl q)⟩
  refine codeAny_call_function hr.depth (KX _ _ lk) rfl S.co S.gen rfl (PySem.W.codeRec_of KX hcd) (hb _ _ _ _ ?_)
  refine wpAny_newFunctionEnv_cells S.kind hkind fun env he s1 x => ?_
  subst he
  refine ⟨lim.keeps x.toInCall.keep, codeAny_func ?_⟩
  obtain ⟨t, ht, hq⟩ := hbody A outer s H vs Q E (hr.deeper _) hsp
  have I : Inv (cxOf CX P w K mg base N qual scope f cdv A outer s H E) [] (start N vs) H s1 := inv_start S hr.hd e0 hl r x
  refine wpAny_mono (ht [] s1 (start N vs) H _ I hq) (fun fl s' hs => ?_) fun e s' hs => hs
  have fin : ∀ {σ' : St} {H' : Hp} {v : V} {u : Value}, Inv (cxOf CX P w K mg base N qual scope f cdv A outer s H E) [] σ' H' s' → RelV v u → Q v H' → CE outer P w H s Q u s' :=
    fun {σ' H' v u} J rv q => ⟨v, H', J.os, J.bare, J.base, J.hok, rv, q⟩
  cases fl with
  | ret u =>
    obtain ⟨v, σ', H', J, rv, q⟩ := hs
    exact fin J rv q
  | next =>
    obtain ⟨σ', H', J, q⟩ := hs
    exact fin (v := V.non) (u := Value.none) J rfl q
  | brk =>
    obtain ⟨_, _, _, q⟩ := hs
    exact False.elim q
  | cont =>
    obtain ⟨_, _, _, q⟩ := hs
    exact False.elim q
end L2

namespace L2
open PySem PySem.Spec PyProof.Rows
section
variable {X : Cx} {x : Str} {p pos : Pos} {e : Expr} {es : List Expr} {t : TA} {id T : String} {r : List V → Hp → VK → Prop}

def tCB (r : List V → Hp → VK → Prop) (t : TA) : TE := fun σ H Q => t σ H fun vs H1 => r vs H1 Q
/-- f(e, ..), f a built-in function -/
theorem pe_callB (hc : CallR X (.builtin id) r) (hg : Gl X x) (hm : X.mg x = none) (hv : bootBuiltins x = some (.builtin id)) (ha : PA X (e :: es) t) (hn : x ≠ "__name__" := by decide) (hdb : (x == ("__debug__" : Str)) = false := by decide)
    (he : starEach (e :: es) X.env = (false, eval e X.env) :: starEach es X.env := by rfl) (hpl : (backTo pos (starEach es X.env)).any (·.1) = false := by rfl) : PE X (.Call (.Name x p) (e :: es) [] pos) (tCB r t) := by
  refine .mk ?_
  intro pins s σ H Q I h
  refine wpAny_Call_Name_kw (ld_blt I hg hm hv ?_ hn hdb)
  exact PyProof.Rows.callWith_builtin1 (thn (ha pos pins s σ H _ I h) fun us s1 ⟨vs, H1, I1, r1, q1⟩ => hc pins s1 σ H1 vs us Q I1 r1 q1) he hpl
/-- T(e, ..), T a built-in type -/
theorem pe_callTy (hc : CallR X (.type T) r) (hg : Gl X x) (hm : X.mg x = none) (hv : bootBuiltins x = some (.type T)) (ha : PA X (e :: es) t) (hn : x ≠ "__name__" := by decide) (hdb : (x == ("__debug__" : Str)) = false := by decide)
    (he : starEach (e :: es) X.env = (false, eval e X.env) :: starEach es X.env := by rfl) (hpl : (backTo pos (starEach es X.env)).any (·.1) = false := by rfl) : PE X (.Call (.Name x p) (e :: es) [] pos) (tCB r t) := by
  refine .mk ?_
  intro pins s σ H Q I h
  refine wpAny_Call_Name_kw (ld_blt I hg hm hv ?_ hn hdb)
  exact PyProof.Rows.callWith_type1 (thn (ha pos pins s σ H _ I h) fun us s1 ⟨vs, H1, I1, r1, q1⟩ => hc pins s1 σ H1 vs us Q I1 r1 q1) he hpl
/-- T() -/
theorem pe_callTy0 (hc : CallR X (.type T) r) (hg : Gl X x) (hm : X.mg x = none) (hv : bootBuiltins x = some (.type T)) (hn : x ≠ "__name__" := by decide) (hdb : (x == ("__debug__" : Str)) = false := by decide) :
    PE X (.Call (.Name x p) [] [] pos) (tCB r tNil) := by
  refine .mk ?_
  intro pins s σ H Q I h
  refine wpAny_Call_Name_kw (ld_blt I hg hm hv ?_ hn hdb)
  exact PyProof.Rows.callWith_type0 (hc pins s σ H [] [] Q I .nil h)
end
end L2

namespace HT
open PySem PyProof.Rows

/-- t < u of tuples of ints -/
def lexLt : List Int → List Int → Bool
  | [], [] => false
  | [], _ :: _ => true
  | _ :: _, [] => false
  | x :: xs, y :: ys => if x = y then lexLt xs ys else decide (x < y)
theorem lexLt_cons (x y : Int) (xs ys : List Int) : lexLt (x :: xs) (y :: ys) = if x = y then lexLt xs ys else decide (x < y) := rfl
theorem lexLt_nil_nil : lexLt [] [] = false := rfl
theorem lexLt_nil_cons (y : Int) (ys : List Int) : lexLt [] (y :: ys) = true := rfl
theorem lexLt_cons_nil (x : Int) (xs : List Int) : lexLt (x :: xs) [] = false := rfl

theorem eqAt_int (A : Around) (s : Shared) (a : Int) (t : Tok) (c : Int) (u : Tok) : ∃ e, SeqAt.EqAt A s (.int a t) (.int c u) e ∧ (e = true ↔ a = c) :=
  ⟨(a == c), SeqAt.EqAt.int_int a t c u, by simp⟩
theorem rcLt_int (A : Around) (s : Shared) (a : Int) (t : Tok) (c : Int) (u : Tok) (prog : Program) (w : World) (E : Value → Shared → Prop) (Q : Value → Shared → Prop) (h : Q (.bool (decide (a < c))) s) :
    wpAny (model prog w) A (richCompare .Lt (.int a t) (.int c u)) Q E s :=
  (PyProof.Rows.lt_int h : wpAny (model prog w) A (compareOp .Lt (.int a t) (.int c u)) Q E s)

section
open PySem.SeqAt
open PySem.AutoSeq1 (wpAny_loadPart')
open PySem.MeetsSeq PySem.MeetsSeq2 PySem.MeetsSeq3

theorem tuple_lt_ints (l b : Addr) (items items2 : Array Value) (n n2 : Nat) (dd dd2 : Option Addr) (sl sl2 : Array (Option Value)) (ns ms : List Int) (hi : IntsAre items.toList ns) (hj : IntsAre items2.toList ms) :
    Meets (Builtin.«tuple.__lt__» ⟨[.ref l, .ref b], []⟩)
      (fun _ R s => s.heap.get? l = some { cls := .type "tuple", dict := dd, data := .seq items n, slots := sl } ∧ s.heap.get? b = some { cls := .type "tuple", dict := dd2, data := .seq items2 n2, slots := sl2 } ∧
        R (.ok (.ret (.bool (lexLt ns ms)))) s) :=
  .of_wp fun prog w A R s h => by
    obtain ⟨hp, g, d, tk, os⟩ := s; obtain ⟨hl, hb, h⟩ := h
    have f2 := AutoSeq1.sub_tuple_tuple
    have z1 : items.size = ns.length := by rw [← hi.length]; simp
    have z2 : items2.size = ms.length := by rw [← hj.length]; simp
    wp_walk using wpAny_loadPart' hl, wpAny_loadPart' hb, wpAny_forIn_list _ (fun rest b s' => b.1 = none ∧ s' = ⟨hp, g, d, tk, os⟩ ∧ ∃ (vs ws : List Value) (ns' ms' : List Int), rest = vs.zip ws ∧
      IntsAre vs ns' ∧ IntsAre ws ms' ∧ ns'.length + items2.size = ms'.length + items.size ∧ R (.ok (.ret (.bool (lexLt ns' ms')))) ⟨hp, g, d, tk, os⟩) _
    case turn =>
      rintro ⟨y, x⟩ rest b s' ⟨hb', rfl, vs, ws, ns', ms', hz, hvi, hwi, hlen, hR⟩
      cases hvi with
      | nil => rw [List.zip_nil_left] at hz; cases hz
      | cons a t hvi' =>
        cases hwi with
        | nil => rw [List.zip_nil_right] at hz; cases hz
        | cons c u hwi' =>
          rw [List.zip_cons_cons] at hz
          injection hz with hyx hrest
          injection hyx with hy hx
          subst hy hx
          rw [lexLt_cons] at hR
          simp only [List.length_cons] at hlen
          obtain ⟨e, he, hiff⟩ := eqAt_int A.in1 ⟨hp, g, d, tk, os⟩ a t c u
          refine wpAny_bind (he prog w _ _ ?_)
          cases e with
          | true =>
            rw [if_pos (hiff.mp rfl)] at hR
            wp_walk
            exact ⟨rfl, rfl, _, _, _, _, hrest, hvi', hwi', by omega, hR⟩
          | false =>
            rw [if_neg (fun q => absurd (hiff.mpr q) Bool.false_ne_true)] at hR
            have hri := rcLt_int A.in1 ⟨hp, g, d, tk, os⟩ a t c u prog w
            wp_walk using hri
            exact ⟨_, rfl, by simpa using hR⟩
    case fin =>
      rintro ⟨b1, b2⟩ s' ⟨hb', rfl, vs, ws, ns', ms', hz, hvi, hwi, hlen, hR⟩
      simp only at hb'
      subst hb'
      have hv : lexLt ns' ms' = decide (items.size < items2.size) := by
        cases hvi with
        | nil =>
          cases hwi with
          | nil =>
            simp only [List.length_nil] at hlen
            rw [lexLt_nil_nil]
            exact (decide_eq_false (by omega)).symm
          | cons c u hw =>
            simp only [List.length_nil, List.length_cons] at hlen
            rw [lexLt_nil_cons]
            exact (decide_eq_true (by omega)).symm
        | cons a t hv =>
          cases hwi with
          | nil =>
            simp only [List.length_nil, List.length_cons] at hlen
            rw [lexLt_cons_nil]
            exact (decide_eq_false (by omega)).symm
          | cons c u hw =>
            rw [List.zip_cons_cons] at hz
            cases hz
      rw [hv] at hR
      wp_walk
      exact ⟨_, rfl, by simpa [Builtin.Tuple.tupleCompareSizes] using hR⟩
    case h =>
      exact ⟨rfl, rfl, items.toList, items2.toList, ns, ms, rfl, hi, hj, by omega, h⟩
end

section
variable {prog : Program} {w : World} {A : Around} {E : Value → Shared → Prop} {s : Shared}

theorem lt_tupInts {l b : Addr} {items items2 : Array Value} {ns ms : List Int} {Q : Value → Shared → Prop} (hl : IsTup s.heap l items) (hb : IsTup s.heap b items2) (hi : IntsAre items.toList ns) (hj : IntsAre items2.toList ms)
    (hu : A.units < cLine) (h : Q (.bool (lexLt ns ms)) s) : wpAny (model prog w) A (compareOp .Lt (.ref l) (.ref b)) Q E s := by
  obtain ⟨⟨cls, dd, data, sl⟩, ho, hc, n, hd⟩ := id hl
  obtain ⟨⟨cls2, dd2, data2, sl2⟩, ho2, hc2, n2, hd2⟩ := id hb
  simp only at hc hd hc2 hd2
  subst hc hd hc2 hd2
  exact richCompare_meets_room (op := .Lt) ⟨_, ho, rfl⟩ ⟨_, ho2, rfl⟩ PySem.F.slot_tuple_lt PySem.F.entry_tuple_lt (PySem.F.args_tuple_lt_2 _ _) (tuple_lt_ints l b items items2 n n2 dd dd2 sl sl2 ns ms hi hj)
    ⟨ho, ho2, show Value.bool (lexLt ns ms) ≠ Value.notImplemented ∧ Q (.bool (lexLt ns ms)) s from ⟨(fun x => nomatch x), h⟩⟩ hu

/-- t + u, t not empty -/
theorem cat_tup {t b : Addr} {vs ws : List Value} {Q : Value → Shared → Prop} (ht : IsTup s.heap t vs.toArray) (hb : IsTup s.heap b ws.toArray) (hv : vs ≠ [])
    (h1 : ws = [] → Q (.ref t) s) (h2 : ws ≠ [] → Q (.ref s.heap.objs.size) { s with heap := s.heap.push { cls := .type "tuple", data := .seq (vs ++ ws).toArray } })
    (hsz : vs.length + ws.length ≤ sizeLine) : wpAny (model prog w) A (binaryOp .Add (.ref t) (.ref b)) Q E s := by
  obtain ⟨⟨cls, dd, data, sl⟩, ho, hc, n, hd⟩ := id ht
  obtain ⟨⟨cls2, dd2, data2, sl2⟩, ho2, hc2, n2, hd2⟩ := id hb
  simp only at hc hd hc2 hd2
  subst hc hd hc2 hd2
  have e : vs.toArray ++ ws.toArray = (vs ++ ws).toArray := by simp
  by_cases hw : ws = []
  · exact concat_meets ⟨_, ho, rfl⟩ ⟨_, ho2, rfl⟩ noFill_tuple_add seq_tuple_add PySem.F.slot_tuple_add PySem.F.entry_tuple_add (PySem.F.args_tuple_add_2 _ _)
      (tuple_addW1 t b vs.toArray ws.toArray n n2 dd dd2 sl sl2 (by simpa using hv) (by simp [hw])) ⟨ho, ho2, h1 hw⟩
  · refine concat_meets ⟨_, ho, rfl⟩ ⟨_, ho2, rfl⟩ noFill_tuple_add seq_tuple_add PySem.F.slot_tuple_add PySem.F.entry_tuple_add (PySem.F.args_tuple_add_2 _ _)
      (tuple_addW2 t b vs.toArray ws.toArray n n2 dd dd2 sl sl2 (by simpa using hv) (by simpa using hw) (by rw [List.size_toArray, List.size_toArray]; exact hsz)) ⟨ho, ho2, ?_⟩
    rw [e]
    exact h2 hw

/-! ### t[a:b], not the whole -/
/-- a slice's bound as a place among n (d where it is left out) -/
def sIx (n d : Nat) : Option Int → Nat
  | none => d
  | some v => if v < 0 then (v + (n : Int)).toNat else min v.toNat n
theorem sIx_none (n d : Nat) : sIx n d none = d := rfl
theorem sIx_nat (n d k : Nat) : sIx n d (some (k : Int)) = min k n := by
  show (if (k : Int) < 0 then ((k : Int) + (n : Int)).toNat else min (k : Int).toNat n) = min k n
  rw [if_neg (by omega), Int.toNat_natCast]
theorem sIx_le (n d : Nat) (hd : d ≤ n) (o : Option Int) : sIx n d o ≤ n := by
  cases o with
  | none => exact hd
  | some v =>
    show (if v < 0 then (v + (n : Int)).toNat else min v.toNat n) ≤ n
    by_cases hv : v < 0
    · rw [if_pos hv]; omega
    · rw [if_neg hv]; exact Nat.min_le_right _ _
theorem clip_eq (v : Int) (n d : Nat) : (if v < 0 then max (v + (n : Int)) 0 else min v (n : Int)) = ((sIx n d (some v) : Nat) : Int) := by
  show (if v < 0 then max (v + (n : Int)) 0 else min v (n : Int)) = (((if v < 0 then (v + (n : Int)).toNat else min v.toNat n) : Nat) : Int)
  by_cases hv : v < 0
  · simp only [if_pos hv]; omega
  · simp only [if_neg hv]; omega
theorem adjust_gen (lo hi : Option Int) (n : Nat) : Builtin.Slice.sliceAdjust lo hi 1 (n : Int) = (((sIx n 0 lo : Nat) : Int), ((sIx n n hi : Nat) : Int)) := by
  have h1 : ¬ ((1 : Int) < 0) := by omega
  unfold Builtin.Slice.sliceAdjust
  simp only [h1, if_false]
  refine Prod.ext ?_ ?_
  · cases lo with
    | none => rfl
    | some v => exact clip_eq v n 0
  · cases hi with
    | none => rfl
    | some v => exact clip_eq v n n
theorem places_gen (i j : Nat) : Builtin.Slice.slicePlaces (i : Int) (j : Int) 1 = j - i := by
  unfold Builtin.Slice.slicePlaces
  have h1 : (1 : Int) > 0 := by omega
  simp only [h1, if_true, Int.ediv_one]
  split <;> omega
theorem slicePart_ {v : Value} {o : Option Int} {Q : Option Int → Shared → Prop} (p : IsPart v o) (h : Q o s) : wpAny (model prog w) A (Builtin.Slice.slicePartIndex v) Q E s := by
  cases p with
  | none => exact slicePart_none h
  | int i t => exact slicePart_int h
theorem sliceApplied_gen {sl : Addr} {vl vu : Value} {lo hi : Option Int} {n : Nat} {Q : Int × Int × Nat → Shared → Prop} (hs : s.heap.IsSliceOf sl vl vu .none) (pl : IsPart vl lo) (pu : IsPart vu hi)
    (h : Q (((sIx n 0 lo : Nat) : Int), 1, sIx n n hi - sIx n 0 lo) s) : wpAny (model prog w) A (Builtin.Slice.sliceApplied (.ref sl) (pure (n : Int))) Q E s := by
  obtain ⟨os, hos, hcs, hds⟩ := id hs
  unfold Builtin.Slice.sliceApplied Builtin.Slice.sliceFields
  refine wpAny_bind (wpAny_bind (wpAny_field hos hds (x := vl) rfl (wpAny_bind (wpAny_field hos hds (x := vu) rfl (wpAny_bind (wpAny_field hos hds (x := .none) rfl (wpAny_pure ?_)))))))
  refine wpAny_bind (slicePart_none ?_)
  show wpAny _ _ (if ((1 : Int) == 0) = true then _ else _) _ _ s
  rw [if_neg (by decide)]
  refine wpAny_bind (slicePart_ pl (wpAny_bind (slicePart_ pu (wpAny_bind (wpAny_pure ?_)))))
  show wpAny _ _ (match Builtin.Slice.sliceAdjust lo hi 1 (n : Int) with | (lo, hi) => pure (lo, (1 : Int), Builtin.Slice.slicePlaces lo hi 1)) _ _ s
  rw [adjust_gen lo hi n]
  show wpAny _ _ (pure (((sIx n 0 lo : Nat) : Int), (1 : Int), Builtin.Slice.slicePlaces ((sIx n 0 lo : Nat) : Int) ((sIx n n hi : Nat) : Int) 1)) _ _ s
  rw [places_gen]
  exact wpAny_pure h
theorem pick_gen (xs : Array Value) (i k : Nat) : ((List.range k).filterMap fun (m : Nat) => xs[((i : Int) + (m : Int) * 1).toNat]?).toArray = ((xs.toList.drop i).take k).toArray := by
  have e : (fun (m : Nat) => xs[((i : Int) + (m : Int) * 1).toNat]?) = fun m => xs[i + m]? := by
    funext m
    have : ((i : Int) + (m : Int) * 1).toNat = i + m := by omega
    rw [this]
  rw [e]
  have := pick_run xs i k
  rw [List.filterMap_map] at this
  have e2 : ((fun x => xs[x]?) ∘ fun x => i + x) = fun m => xs[i + m]? := rfl
  rw [e2] at this
  rw [this]

theorem getItem_tuple_cut {t sl : Addr} {items : Array Value} {vl vu : Value} {lo hi : Option Int} {Q : Value → Shared → Prop} (ht : IsTup s.heap t items) (hs : s.heap.IsSliceOf sl vl vu .none) (pl : IsPart vl lo) (pu : IsPart vu hi)
    (hw : ¬ (sIx items.size 0 lo = 0 ∧ sIx items.size items.size hi = items.size))
    (h : Q (.ref s.heap.objs.size) { s with heap := s.heap.push { cls := .type "tuple", data := .seq ((items.toList.drop (sIx items.size 0 lo)).take (sIx items.size items.size hi - sIx items.size 0 lo)).toArray } })
    (hsz : items.size ≤ sizeLine) : wpAny (model prog w) A (getItem (.ref t) (.ref sl)) Q E s := by
  have htake : sizeOk (.seq ((items.toList.drop (sIx items.size 0 lo)).take (sIx items.size items.size hi - sIx items.size 0 lo)).toArray) := by
    show ((items.toList.drop (sIx items.size 0 lo)).take (sIx items.size items.size hi - sIx items.size 0 lo)).toArray.size ≤ sizeLine
    rw [List.size_toArray, List.length_take, List.length_drop, Array.length_toList]
    omega
  have hj : sIx items.size items.size hi ≤ items.size := sIx_le _ _ (Nat.le_refl _) hi
  obtain ⟨os, hos, hcs, hds⟩ := id hs
  have hTs : s.TypeIs (.ref sl) "slice" := ⟨os, hos, hcs⟩
  unfold getItem
  try with_reducible refine wpAny_holding ?_
  first | refine wpAny_bind (wpAny_pure ?_) | skip
  refine wpAny_bind (wpAny_sequenceKey ht.typeIs (by decide) ?_)
  refine wpAny_bind (wpAny_callSpecial?_slot (name := Str.ofString "__getitem__") ht.typeIs PyProof.Rows.slot_tuple_getitem
    (wpAny_call_entry PyProof.Rows.slot_tuple_getitem ht.typeIs entry_tuple_getitem ?_ (args_tuple_getitem _ _)))
  show wpAny _ _ (Builtin.Tuple.tupleItemsOf (.ref t) >>= _) _ _ s
  refine wpAny_bind (tupleItemsOf_ ht ?_)
  refine wpAny_bind (wpAny_typeOf hTs ?_)
  rw [if_pos (by decide)]
  refine wpAny_bind (sliceApplied_gen hs pl pu ?_)
  have hno : ¬ ((((sIx items.size 0 lo : Nat) : Int) == 0 && (1 : Int) == 1 && (sIx items.size items.size hi - sIx items.size 0 lo) == items.size) = true) := by
    intro q
    rw [Bool.and_eq_true, Bool.and_eq_true] at q
    have q1 : ((sIx items.size 0 lo : Nat) : Int) = 0 := eq_of_beq q.1.1
    have q2 : sIx items.size items.size hi - sIx items.size 0 lo = items.size := eq_of_beq q.2
    exact hw ⟨by omega, by omega⟩
  show wpAny _ _ (if (((sIx items.size 0 lo : Nat) : Int) == 0 && (1 : Int) == 1 && (sIx items.size items.size hi - sIx items.size 0 lo) == items.size) = true then _ else _) _ _ s
  rw [if_neg hno, pick_gen]
  first
    | exact wpAny_bind (m := Builtin.Tuple.tupleExact _) (wpAny_newObj_type (wpAny_pure ⟨_, rfl, wpAny_pure h⟩) htake)
    | exact wpAny_bind (m := Builtin.Tuple.tupleExact _) (wpAny_newObj_type (wpAny_bind (wpAny_pure (wpAny_pure ⟨_, rfl, wpAny_pure h⟩))) htake)
    | exact wpAny_bind (wpAny_bind (m := Builtin.Tuple.tupleExact _) (wpAny_newObj_type (wpAny_pure (wpAny_pure ⟨_, rfl, wpAny_pure h⟩)) htake))
    | exact wpAny_bind (wpAny_bind (m := Builtin.Tuple.tupleExact _) (wpAny_newObj_type (wpAny_pure ⟨_, rfl, wpAny_pure h⟩) htake))
end
end HT

namespace L2
open PySem PySem.Spec PyProof.Rows

/-! ### the parts of a slice -/
abbrev TO := St → Hp → (Option Int → Hp → Prop) → Prop
/-- a slice's part (left out, or an int) -/
structure PO (X : Cx) (e : Option Expr) (t : TO) : Prop where
  run : ∀ (pins : List (Addr × Obj)) (s : Shared) (σ : St) (H : Hp) (Q : Option Int → Hp → Prop), Inv X pins σ H s → t σ H Q →
    wpAny (model X.prog X.w) X.A (evalPart e X.env) (fun u s' => ∃ o H', Inv X pins σ H' s' ∧ IsPart u o ∧ Q o H') X.xe s
instance {X : Cx} {e : Option Expr} {t : TO} : CoeFun (PO X e t) fun _ => ∀ (pins : List (Addr × Obj)) (s : Shared) (σ : St) (H : Hp) (Q : Option Int → Hp → Prop), Inv X pins σ H s → t σ H Q → wpAny (model X.prog X.w) X.A (evalPart e X.env) (fun u s' => ∃ o H', Inv X pins σ H' s' ∧ IsPart u o ∧ Q o H') X.xe s := ⟨PO.run⟩
def tNoPart : TO := fun _ H Q => Q none H
def tPart (t : TE) : TO := fun σ H Q => t σ H fun x H1 => ∃ i, x = .int i ∧ Q (some i) H1

theorem intsAre_of {ns : List Int} : ∀ {us : List Value}, Vals (ns.map V.int) us → IntsAre us ns := by
  induction ns with
  | nil => intro us r; rw [List.map_nil] at r; cases r; exact .nil
  | cons n ns ih =>
    intro us r
    rw [List.map_cons] at r
    cases r with
    | cons r1 r2 =>
      obtain ⟨t, e⟩ := r1
      subst e
      exact .cons n t (ih r2)

section
variable {X : Cx} {e : Expr} {te : TE} {lo hi : Option Expr} {tl th : TO} {pos p2 : Pos}

theorem po_none : PO X none tNoPart := by
  refine .mk ?_
  intro pins s σ H Q I h
  rw [evalPart_none]
  exact wpAny_pure ⟨none, H, I, .none, h⟩
theorem po_some (h : PE X e te) : PO X (some e) (tPart te) := by
  refine .mk ?_
  intro pins s σ H Q I hw
  rw [evalPart_some]
  refine thn (h pins s σ H _ I hw) fun u s1 ⟨x, H1, I1, r1, q1⟩ => ?_
  obtain ⟨i, rfl, q⟩ := q1
  obtain ⟨t, rfl⟩ := r1
  exact ⟨some i, H1, I1, .int i t, q⟩

/-- what a slice of a value is, by values: the slice object stands at sl -/
def SlR (X : Cx) (r : V → Option Int → Option Int → Hp → VK → Prop) : Prop :=
  ∀ (pins : List (Addr × Obj)) (s : Shared) (σ : St) (H : Hp) (x : V) (v vl vu : Value) (lo hi : Option Int) (sl : Addr) (Q : VK), Inv X pins σ H s → RelV x v → s.heap.IsSliceOf sl vl vu .none → IsPart vl lo → IsPart vu hi → r x lo hi H Q →
    ∃ T id, typeLookup (.type T) "__getitem__" = pure (some (.builtin id)) ∧ s.TypeIs v T ∧ wpAny (model X.prog X.w) X.A (getItem v (.ref sl)) (EP X pins σ Q) X.xe s
theorem SlR.or {r r' : V → Option Int → Option Int → Hp → VK → Prop} (h : SlR X r) (h' : SlR X r') : SlR X (fun x lo hi H Q => r x lo hi H Q ∨ r' x lo hi H Q) := by
  intro pins s σ H x v vl vu lo hi sl Q I rx hs pl pu q
  rcases q with q | q
  · exact h pins s σ H x v vl vu lo hi sl Q I rx hs pl pu q
  · exact h' pins s σ H x v vl vu lo hi sl Q I rx hs pl pu q
def tSl (r : V → Option Int → Option Int → Hp → VK → Prop) (te : TE) (tl th : TO) : TE := fun σ H Q => te σ H fun x H1 => tl σ H1 fun l H2 => th σ H2 fun u H3 => r x l u H3 Q
/-- a[lo:hi], any a -/
theorem pe_slice {r : V → Option Int → Option Int → Hp → VK → Prop} (hr : SlR X r) (he : PE X e te) (hl : PO X lo tl) (hu : PO X hi th) : PE X (.Subscript e (.Slice lo hi none p2) pos) (tSl r te tl th) := by
  refine .mk ?_
  intro pins s σ H Q I h
  refine Subscript_ (thn (he pins s σ H _ I h) fun v s1 ⟨x, H1, I1, r1, q1⟩ => ?_)
  refine wpAny_Slice (thn (hl pins s1 σ H1 _ I1 q1) fun vl s2 ⟨l, H2, I2, pl, q2⟩ => thn (hu pins s2 σ H2 _ I2 q2) fun vu s3 ⟨u, H3, I3, pu, q3⟩ => ?_)
  rw [evalPart_none]
  refine wpAny_pure ?_
  have I4 : Inv X pins σ H3 { s3 with heap := s3.heap.push { cls := .type "slice", data := .fields #[vl, vu, .none] } } := I3.kept (t' := s3.toks) fun b ob q => Heap.get?_push_of_some _ q
  obtain ⟨T, id, hT, ht, hg⟩ := hr pins { s3 with heap := s3.heap.push { cls := .type "slice", data := .fields #[vl, vu, .none] } } σ H3 x v vl vu l u s3.heap.objs.size Q I4 r1 (Heap.IsSliceOf.new ..) pl pu q3
  show wpAny (model X.prog X.w) X.A (subscriptTail e (.Slice lo hi none p2) v (.ref s3.heap.objs.size)) (EP X pins σ Q) X.xe { s3 with heap := s3.heap.push { cls := .type "slice", data := .fields #[vl, vu, .none] } }
  exact tail_any (ops := [.ref s3.heap.objs.size, v]) ht hT hg (by with_unfolding_all rfl)

/-- the items of xs[lo:hi] -/
def cutV (xs : List V) (lo hi : Option Int) : List V := (xs.drop (HT.sIx xs.length 0 lo)).take (HT.sIx xs.length xs.length hi - HT.sIx xs.length 0 lo)
theorem cutV_length (xs : List V) (lo hi : Option Int) : (cutV xs lo hi).length ≤ xs.length := by
  unfold cutV
  rw [List.length_take, List.length_drop]
  omega
/-- t[lo:hi], not the whole of it (the whole would be t itself) -/
def rSlT (K : PySem.W.Frag) : V → Option Int → Option Int → Hp → VK → Prop := fun x lo hi H Q => ∃ a xs, x = .ref a ∧ SqT K H a xs ∧
  ¬ (HT.sIx xs.length 0 lo = 0 ∧ HT.sIx xs.length xs.length hi = xs.length) ∧ ∀ p, H p = none → Q (.ref p) (upd H p (.tup (cutV xs lo hi)))
theorem sl_tup : SlR X (rSlT X.K) := by
  intro pins s σ H x v vl vu lo hi sl Q I rx hs pl pu h
  obtain ⟨a, xs, rfl, hx, hw, q⟩ := h
  cases rx
  obtain ⟨its, r, ht, hz⟩ := I.tuple hx
  have hlen : its.toArray.size = xs.length := by rw [List.size_toArray]; exact r.length.symm
  refine ⟨"tuple", _, PyProof.Rows.slot_tuple_getitem.lookup, ht.typeIs, ?_⟩
  refine HT.getItem_tuple_cut ht hs pl pu (by rw [hlen]; exact hw) ?_ (by rw [hlen]; exact hz)
  rw [hlen]
  refine ⟨.ref s.heap.objs.size, _, I.laid (t' := s.toks) (o := .tup (cutV xs lo hi)) (fun b ob q => Heap.get?_push_of_some _ q) (Nat.le_refl _) ?_, rfl, q _ (I.hok.fresh (Nat.le_refl _))⟩
  exact ⟨Nat.le_trans (cutV_length xs lo hi) hz, _, (r.drop (HT.sIx xs.length 0 lo)).take (HT.sIx xs.length xs.length hi - HT.sIx xs.length 0 lo), IsTup.new _ _⟩

/-! ### t < u, t + u -/
def rLtT (K : PySem.W.Frag) : R2 := fun x y H Q => ∃ a b ns ms, x = .ref a ∧ y = .ref b ∧ SqT K H a (ns.map V.int) ∧ SqT K H b (ms.map V.int) ∧ Q (.bl (HT.lexLt ns ms)) H
theorem op_ltT (hu : X.A.units < cLine) : OpR X (compareOp .Lt) (rLtT X.K) := by
  intro pins s σ H x y v u Q I rx ry h
  obtain ⟨a, b, ns, ms, rfl, rfl, ha, hb, q⟩ := h
  cases rx
  cases ry
  obtain ⟨its, r1, p1, _⟩ := I.tuple ha
  obtain ⟨its2, r2, p2, _⟩ := I.tuple hb
  have i1 : IntsAre its.toArray.toList ns := intsAre_of r1
  have i2 : IntsAre its2.toArray.toList ms := intsAre_of r2
  exact HT.lt_tupInts p1 p2 i1 i2 hu ⟨.bl (HT.lexLt ns ms), H, I, rfl, q⟩
/-- t + u, t not empty: u empty gives t itself -/
def rCatT (K : PySem.W.Frag) : R2 := fun x y H Q => ∃ a b xs ys, x = .ref a ∧ y = .ref b ∧ SqT K H a xs ∧ SqT K H b ys ∧ xs ≠ [] ∧ xs.length + ys.length ≤ sizeLine ∧
  (ys = [] → Q (.ref a) H) ∧ (ys ≠ [] → ∀ p, H p = none → Q (.ref p) (upd H p (.tup (xs ++ ys))))
theorem Vals.nil_iff {xs : List V} {us : List Value} (r : Vals xs us) : us = [] ↔ xs = [] := by
  cases r with
  | nil => simp
  | cons _ _ => simp
theorem op_catT : OpR X (binaryOp .Add) (rCatT X.K) := by
  intro pins s σ H x y v u Q I rx ry h
  obtain ⟨a, b, xs, ys, rfl, rfl, ha, hb, hx, hz, q1, q2⟩ := h
  cases rx
  cases ry
  obtain ⟨its, r1, p1, _⟩ := I.tuple ha
  obtain ⟨its2, r2, p2, _⟩ := I.tuple hb
  refine HT.cat_tup p1 p2 (fun z => hx (r1.nil_iff.mp z)) (fun z => ⟨.ref a, H, I, rfl, q1 (r2.nil_iff.mp z)⟩) (fun z => ?_) (by rw [← r1.length, ← r2.length]; exact hz)
  refine ⟨.ref s.heap.objs.size, _, I.laid (t' := s.toks) (o := .tup (xs ++ ys)) (fun b ob q => Heap.get?_push_of_some _ q) (Nat.le_refl _) ?_, rfl, q2 (fun w => z (r2.nil_iff.mpr w)) _ (I.hok.fresh (Nat.le_refl _))⟩
  exact ⟨by rw [List.length_append]; exact hz, _, r1.append r2, IsTup.new _ _⟩
/-- tuple(t) -/
theorem call_tupleT : CallR X (.type "tuple") (fun xs H Q => ∃ a ys, xs = [.ref a] ∧ SqT X.K H a ys ∧ Q (.ref a) H) := by
  intro pins s σ H xs us Q I r h
  obtain ⟨a, ys, rfl, ha, q⟩ := h
  obtain ⟨u, rfl, ru⟩ := vals1 r
  cases ru
  obtain ⟨its, _, p1, _⟩ := I.tuple ha
  exact call_tuple_same (items := its.toArray) p1 ⟨.ref a, H, I, rfl, q⟩
end
end L2

namespace L2
open PySem PySem.Spec PyProof.Rows

/-! ### places -/
/-- the place that an index of any sign means -/
def ixN (n : Nat) (i : Int) : Option Nat := if 0 ≤ i then (if i < n then some i.toNat else none) else if -(n : Int) ≤ i then some (i + n).toNat else none
def atI {α : Type} (xs : List α) (i : Int) : Option α := (ixN xs.length i).bind fun j => xs[j]?
theorem ixN_seq {n : Nat} {i : Int} {j : Nat} (h : ixN n i = some j) : seqIndex? i n = some j ∧ j < n ∧ -(n : Int) ≤ i ∧ i < n := by
  unfold ixN at h
  by_cases h0 : 0 ≤ i
  · rw [if_pos h0] at h
    by_cases h1 : i < n
    · rw [if_pos h1] at h
      have e : i.toNat = j := Option.some.inj h
      exact ⟨by rw [seqIndex_of h0 h1, e], by omega, by omega, h1⟩
    · rw [if_neg h1] at h; cases h
  · rw [if_neg h0] at h
    by_cases h1 : -(n : Int) ≤ i
    · rw [if_pos h1] at h
      have e : (i + n).toNat = j := Option.some.inj h
      exact ⟨by rw [seqIndex_neg (by omega) h1, e], by omega, h1, by omega⟩
    · rw [if_neg h1] at h; cases h
theorem atI_get {α : Type} {xs : List α} {i : Int} {v : α} (h : atI xs i = some v) : ∃ j, seqIndex? i xs.length = some j ∧ xs[j]? = some v ∧ j < xs.length ∧ -(xs.length : Int) ≤ i ∧ i < xs.length := by
  unfold atI at h
  cases e : ixN xs.length i with
  | none => rw [e] at h; cases h
  | some j =>
    rw [e] at h
    obtain ⟨h1, h2, h3, h4⟩ := ixN_seq e
    exact ⟨j, h1, h, h2, h3, h4⟩
theorem atI_nat {α : Type} {xs : List α} {j : Nat} {v : α} (h : xs[j]? = some v) : atI xs (j : Int) = some v := by
  have hj : j < xs.length := (List.getElem?_eq_some_iff.mp h).1
  have e : ixN xs.length (j : Int) = some j := by
    unfold ixN
    rw [if_pos (by omega), if_pos (by omega)]; simp
  unfold atI; rw [e]; exact h
theorem atI_last {α : Type} (xs : List α) (v : α) : atI (xs ++ [v]) (-1) = some v := by
  have hl : (xs ++ [v]).length = xs.length + 1 := by simp
  have e : ixN (xs ++ [v]).length (-1) = some xs.length := by
    unfold ixN
    rw [hl, if_neg (by decide), if_pos (by omega)]
    congr 1
    omega
  unfold atI
  rw [e]
  show (xs ++ [v])[xs.length]? = some v
  simp

/-! ### what may be subscripted -/
/-- what stands as an index of a plain subscript -/
def PlainIx (b : Expr) : Prop := ∀ o i, subscripted b false o i = operate [o, i] (getItem o i)
/-- a subscript by values -/
def IxR (X : Cx) (r : R2) : Prop :=
  ∀ (value slice : Expr) (pins : List (Addr × Obj)) (s : Shared) (σ : St) (H : Hp) (x y : V) (v u : Value) (Q : VK), Inv X pins σ H s → RelV x v → RelV y u → r x y H Q →
    subscripted slice false v u = operate [v, u] (getItem v u) → wpAny (model X.prog X.w) X.A (subscriptTail value slice v u) (EP X pins σ Q) X.xe s
/-- a call of a builtin's method by values: the receiver, the arguments -/
def MtR (X : Cx) (id : String) (r : V → List V → Hp → VK → Prop) : Prop :=
  ∀ (pins : List (Addr × Obj)) (s : Shared) (σ : St) (H : Hp) (x : V) (xs : List V) (v : Value) (us : List Value) (Q : VK), Inv X pins σ H s → RelV x v → Vals xs us → r x xs H Q →
    wpAny (model X.prog X.w) X.A (call (.builtin id) (v :: us)) (EP X pins σ Q) X.xe s
section
variable {X : Cx} {a b : Expr} {ta tb : TE} {pos : Pos}
theorem IxR.or {r r' : R2} (h : IxR X r) (h' : IxR X r') : IxR X (fun x y H Q => r x y H Q ∨ r' x y H Q) := by
  intro value slice pins s σ H x y v u Q I rx ry q hs
  rcases q with q | q
  · exact h value slice pins s σ H x y v u Q I rx ry q hs
  · exact h' value slice pins s σ H x y v u Q I rx ry q hs
theorem MtR.or {id : String} {r r' : V → List V → Hp → VK → Prop} (h : MtR X id r) (h' : MtR X id r') : MtR X id (fun x xs H Q => r x xs H Q ∨ r' x xs H Q) := by
  intro pins s σ H x xs v us Q I rx rs q
  rcases q with q | q
  · exact h pins s σ H x xs v us Q I rx rs q
  · exact h' pins s σ H x xs v us Q I rx rs q
/-- a[b] -/
theorem pe_ix {r : R2} (hr : IxR X r) (ha : PE X a ta) (hb : PE X b tb) (hs : PlainIx b) : PE X (.Subscript a b pos) (tOp r ta tb) := by
  refine .mk ?_
  intro pins s σ H Q I h
  exact Subscript_ (binT ha hb I h fun v u s2 x y H2 I2 rx ry q => hr a b pins s2 σ H2 x y v u Q I2 rx ry q (hs _ _))

def rIxL (K : PySem.W.Frag) : R2 := fun x y H Q => ∃ p xs i v, x = .ref p ∧ y = .int i ∧ SqL K H p xs ∧ atI xs i = some v ∧ Q v H
def rIxT (K : PySem.W.Frag) : R2 := fun x y H Q => ∃ p xs i v, x = .ref p ∧ y = .int i ∧ SqT K H p xs ∧ atI xs i = some v ∧ Q v H
def rIxS : R2 := fun x y H Q => ∃ z i c, x = .str z ∧ y = .int i ∧ z.length ≤ sizeLine ∧ atI z.cps.toList i = some c ∧ Q (.str ⟨#[c]⟩) H
theorem ix_list : IxR X (rIxL X.K) := by
  intro value slice pins s σ H x y v u Q I rx ry h hs
  obtain ⟨p, xs, i, z, rfl, rfl, hq, he, q⟩ := h
  cases rx
  obtain ⟨t, rfl⟩ := ry
  obtain ⟨its, r, pl, hz⟩ := I.list hq
  obtain ⟨j, h1, h2, h3, h4, h5⟩ := atI_get he
  obtain ⟨w, ew, rw'⟩ := r.get h2
  have hl := r.length
  have hn := line63
  have fin : EP X pins σ Q w s := ⟨z, H, I, rw', q⟩
  by_cases h0 : 0 ≤ i
  · have hj : i.toNat = j := by
      rw [seqIndex_of h0 h5] at h1
      exact Option.some.inj h1
    exact item_listR pl.isList h0 (by omega) (by rw [hj]; simpa using ew) fin hs
  · have hj : (i + (its.toArray.size : Int)).toNat = j := by
      rw [seqIndex_neg (by omega) h4] at h1
      rw [List.size_toArray, ← hl]
      exact Option.some.inj h1
    exact subscriptTail_builtinR (x := w) pl.isList.typeIs slot_list_getitem.lookup
      (wpAny_getItem_list_neg (Q := fun r s' => r = w ∧ EP X pins σ Q r s') pl.isList (by omega) (by rw [List.size_toArray] <;> omega) (by omega) (by rw [hj]; simpa using ew) ⟨rfl, fin⟩) hs
theorem ix_tup : IxR X (rIxT X.K) := by
  intro value slice pins s σ H x y v u Q I rx ry h hs
  obtain ⟨p, xs, i, z, rfl, rfl, hq, he, q⟩ := h
  cases rx
  obtain ⟨t, rfl⟩ := ry
  obtain ⟨its, r, pl, hz⟩ := I.tuple hq
  obtain ⟨j, h1, h2, h3, h4, h5⟩ := atI_get he
  obtain ⟨w, ew, rw'⟩ := r.get h2
  have hl := r.length
  have hn := line63
  have fin : EP X pins σ Q w s := ⟨z, H, I, rw', q⟩
  exact subscriptTail_builtinR (x := w) pl.typeIs slot_tuple_getitem.lookup
    (getItem_tuple (j := j) (Q := fun r s' => r = w ∧ EP X pins σ Q r s') pl (by omega) (by omega) (by rw [List.size_toArray, ← hl]; exact h1) (by simpa using ew) ⟨rfl, fin⟩) hs
theorem ix_str : IxR X rIxS := by
  intro value slice pins s σ H x y v u Q I rx ry h hs
  obtain ⟨z, i, c, rfl, rfl, hz, he, q⟩ := h
  obtain ⟨t, rfl⟩ := rx
  obtain ⟨t', rfl⟩ := ry
  obtain ⟨j, h1, h2, h3, h4, h5⟩ := atI_get he
  have hl : z.cps.toList.length = z.length := by simp [Str.length]
  rw [hl] at h1 h4 h5
  have hn := line63
  exact tail_any (typeIs_str s z t) slot_str_getitem.lookup (getItem_str (c := c) (by
    have e1 : decide (i < -(2 ^ 63 : Int)) = false := decide_eq_false (by omega)
    have e2 : decide (i ≥ 2 ^ 63) = false := decide_eq_false (by omega)
    rw [e1, e2, Bool.or_false]) (by rw [h1]; simpa using h2) ⟨.str ⟨#[c]⟩, H, I.tok _, ⟨_, rfl⟩, q⟩) hs
/-- list, tuple or str -/
def rIx (K : PySem.W.Frag) : R2 := fun x y H Q => rIxL K x y H Q ∨ rIxT K x y H Q ∨ rIxS x y H Q
theorem ix_seq : IxR X (rIx X.K) := ix_list.or (ix_tup.or ix_str)

/-! ### xs[i] = v, any sign -/
/-- the list's object behind a store -/
theorem mapSeq_set (its : List Value) (n j : Nat) (u : Value) : Obj.mapSeq (·.setIfInBounds j u) { cls := .type "list", data := .seq its.toArray n } = { cls := .type "list", data := .seq (its.set j u).toArray n } := by
  simp [Obj.mapSeq]
theorem Inv.lst {pins : List (Addr × Obj)} {σ : St} {H : Hp} {s : Shared} {p : Addr} {xs : List V} (I : Inv X pins σ H s) (h : H p = some (.lst xs)) :
    ∃ (its : List Value) (n : Nat), Vals xs its ∧ s.heap.get? p = some { cls := .type "list", data := .seq its.toArray n } ∧ xs.length ≤ sizeLine := by
  obtain ⟨z, its, n, r, e⟩ := I.hok p _ h
  exact ⟨its, n, r, e, z⟩
/-- the list at p is written by an update of its object -/
theorem Inv.lstUpd {pins : List (Addr × Obj)} {σ : St} {H : Hp} {s : Shared} {p : Addr} {xs ys : List V} {its its' : List Value} {n n' : Nat} {f : Obj → Obj} (I : Inv X pins σ H s) (h : H p = some (.lst xs))
    (ho : s.heap.get? p = some { cls := .type "list", data := .seq its.toArray n }) (hf : f { cls := .type "list", data := .seq its.toArray n } = { cls := .type "list", data := .seq its'.toArray n' }) (r : Vals ys its') (hz : ys.length ≤ sizeLine) (t : Nat) :
    Inv X pins σ (upd H p (.lst ys)) { s with heap := s.heap.update p f, toks := t } := by
  have e : (s.heap.update p f).get? p = some { cls := .type "list", data := .seq its'.toArray n' } := by
    rw [Heap.get?_update_self f ho (by rw [hf] <;> rfl), hf]
  refine I.write (x := p) (e := p) (by rw [h]; trivial) (.inl rfl) (fun b u hb q => (Heap.get?_update_other _ _ (Ne.symm hb)).trans q) ⟨_, e⟩ ?_
  exact ⟨hz, its', n', r, e⟩
def rSetL : V → V → V → Hp → (Hp → Prop) → Prop := fun o i v H Q => ∃ p xs k j, o = .ref p ∧ i = .int k ∧ H p = some (.lst xs) ∧ ixN xs.length k = some j ∧ Q (upd H p (.lst (xs.set j v)))
theorem set_list : PSet X rSetL := by
  intro pins s σ H o i v ov iv u Q I ro ri rv h
  obtain ⟨p, xs, k, j, rfl, rfl, hp, hj, q⟩ := h
  cases ro
  obtain ⟨t, rfl⟩ := ri
  obtain ⟨its, n, r, ho, hz⟩ := I.lst hp
  obtain ⟨h1, h2, h3, h4⟩ := ixN_seq hj
  have hl := r.length
  have hn := line63
  have I' : Inv X pins σ (upd H p (.lst (xs.set j v))) { s with heap := s.heap.update p (Obj.mapSeq (·.setIfInBounds j u)) } :=
    I.lstUpd hp ho (mapSeq_set its n j u) (r.set rv j) (by rw [List.length_set]; exact hz) s.toks
  by_cases h0 : 0 ≤ k
  · have hk : k.toNat = j := by
      rw [seqIndex_of h0 h4] at h1
      exact Option.some.inj h1
    exact PySem.W.ki_setAt ho h0 (by omega) (by rw [List.size_toArray, ← hl]; exact h4) (by rw [hk]; exact ⟨_, I', q⟩)
  · have hk : (k + (its.toArray.size : Int)).toNat = j := by
      rw [seqIndex_neg (by omega) h3] at h1
      rw [List.size_toArray, ← hl]
      exact Option.some.inj h1
    exact PySem.W.ki_setBack ho (by omega) (by rw [List.size_toArray, ← hl]; exact h3) (by omega) (by rw [hk]; exact ⟨_, I', q⟩)

/-! ### slices -/
theorem slice_bounds (lo hi : Option Int) (n : Nat) : (sliceBounds lo hi none n).1 = ((HT.sIx n 0 lo : Nat) : Int) ∧ (sliceBounds lo hi none n).2.1 = ((HT.sIx n n hi : Nat) : Int) ∧ (sliceBounds lo hi none n).2.2 = 1 := by
  refine ⟨?_, ?_, rfl⟩
  · cases lo with
    | none => simp [sliceBounds, HT.sIx]
    | some i =>
      simp only [sliceBounds, HT.sIx, Option.getD_none, show (1 : Int) > 0 by decide, if_true]
      by_cases h : i < 0
      · simp only [h, if_true] <;> omega
      · simp only [h, if_false] <;> omega
  · cases hi with
    | none => simp [sliceBounds, HT.sIx]
    | some i =>
      simp only [sliceBounds, HT.sIx, Option.getD_none, show (1 : Int) > 0 by decide, if_true]
      by_cases h : i < 0
      · simp only [h, if_true] <;> omega
      · simp only [h, if_false] <;> omega
theorem slicePick_cut (its : List Value) (lo hi : Option Int) : slicePick its.toArray lo hi none = ((its.drop (HT.sIx its.length 0 lo)).take (HT.sIx its.length its.length hi - HT.sIx its.length 0 lo)).toArray := by
  obtain ⟨h1, h2, h3⟩ := slice_bounds lo hi its.toArray.size
  unfold slicePick
  rw [h1, h2, h3]
  simp only [sliceRange_one, pick_run, List.size_toArray] <;> rfl
/-- xs[lo:hi] of a list: a new list -/
def rSlL (K : PySem.W.Frag) : V → Option Int → Option Int → Hp → VK → Prop := fun x lo hi H Q => ∃ a xs, x = .ref a ∧ SqL K H a xs ∧ ∀ p, H p = none → Q (.ref p) (upd H p (.lst (cutV xs lo hi)))
theorem sl_list : SlR X (rSlL X.K) := by
  intro pins s σ H x v vl vu lo hi sl Q I rx hs pl pu h
  obtain ⟨a, xs, rfl, hx, q⟩ := h
  cases rx
  obtain ⟨its, r, ht, hz⟩ := I.list hx
  have hlen := r.length
  refine ⟨"list", _, slot_list_getitem.lookup, ht.isList.typeIs, ?_⟩
  refine wpAny_getItem_list_slice ht.isList hs pl pu .none (by simp) ?_ (by rw [List.size_toArray] <;> omega)
  rw [slicePick_cut, ← hlen]
  refine ⟨.ref s.heap.objs.size, _, I.laid (t' := s.toks) (o := .lst (cutV xs lo hi)) (fun b ob q => Heap.get?_push_of_some _ q) (Nat.le_refl _) ?_, rfl, q _ (I.hok.fresh (Nat.le_refl _))⟩
  exact ⟨Nat.le_trans (cutV_length xs lo hi) hz, _, 0, (r.drop (HT.sIx xs.length 0 lo)).take (HT.sIx xs.length xs.length hi - HT.sIx xs.length 0 lo), Heap.get?_push_size _ rfl⟩

/-! ### in, not in: flat items -/
def flatV : V → Bool
  | .non => true
  | .bl _ => true
  | .int _ => true
  | .str _ => true
  | _ => false
/-- == of flat values -/
def eqV : V → V → Bool
  | .non, .non => true
  | .bl a, .bl b => a == b
  | .bl a, .int b => (if a then 1 else 0) == b
  | .int a, .bl b => a == (if b then 1 else 0)
  | .int a, .int b => a == b
  | .str a, .str b => a == b
  | _, _ => false
theorem eqAt_V {A : Around} {s : Shared} {y x : V} {u v : Value} (ry : RelV y u) (rx : RelV x v) (fy : flatV y = true) (fx : flatV x = true) : SeqAt.EqAt A s u v (eqV y x) := by
  cases y with
  | non =>
    cases ry
    cases x with
    | non => cases rx; exact SeqAt.EqAt.same _
    | bl b => cases rx; exact SeqAt.EqAt.none_bool b
    | int b => obtain ⟨t, rfl⟩ := rx; exact SeqAt.EqAt.none_int b t
    | str b => obtain ⟨t, rfl⟩ := rx; exact SeqAt.EqAt.none_str b t
    | _ => exact absurd (show false = true from fx) Bool.false_ne_true
  | bl a =>
    cases ry
    cases x with
    | non => cases rx; exact SeqAt.EqAt.bool_none a
    | bl b => cases rx; exact SeqAt.EqAt.bool_bool a b
    | int b => obtain ⟨t, rfl⟩ := rx; exact SeqAt.EqAt.bool_int a b t
    | str b => obtain ⟨t, rfl⟩ := rx; exact SeqAt.EqAt.bool_str a b t
    | _ => exact absurd (show false = true from fx) Bool.false_ne_true
  | int a =>
    obtain ⟨t', rfl⟩ := ry
    cases x with
    | non => cases rx; exact SeqAt.EqAt.int_none a t'
    | bl b => cases rx; exact SeqAt.EqAt.int_bool a t' b
    | int b => obtain ⟨t, rfl⟩ := rx; exact SeqAt.EqAt.int_int a t' b t
    | str b => obtain ⟨t, rfl⟩ := rx; exact SeqAt.EqAt.int_str a t' b t
    | _ => exact absurd (show false = true from fx) Bool.false_ne_true
  | str a =>
    obtain ⟨t', rfl⟩ := ry
    cases x with
    | non => cases rx; exact SeqAt.EqAt.str_none a t'
    | bl b => cases rx; exact SeqAt.EqAt.str_bool a t' b
    | int b => obtain ⟨t, rfl⟩ := rx; exact SeqAt.EqAt.str_int a t' b t
    | str b => obtain ⟨t, rfl⟩ := rx; exact SeqAt.EqAt.str_str a t' b t
    | _ => exact absurd (show false = true from fx) Bool.false_ne_true
  | _ => exact absurd (show false = true from fy) Bool.false_ne_true
/-- the items' answers, read off the values (a value's own answer does not lean on its token) -/
def eqU (x : V) (u : Value) : Bool := match u with
  | .none => eqV .non x
  | .bool b => eqV (.bl b) x
  | .int i _ => eqV (.int i) x
  | .str z _ => eqV (.str z) x
  | _ => false
theorem eqU_of {x y : V} {u : Value} (r : RelV y u) (f : flatV y = true) : eqU x u = eqV y x := by
  cases y with
  | non => cases r; rfl
  | bl b => cases r; rfl
  | int i => obtain ⟨t, rfl⟩ := r; rfl
  | str z => obtain ⟨t, rfl⟩ := r; rfl
  | _ => exact absurd (show false = true from f) Bool.false_ne_true
theorem any_eqU {x : V} : ∀ {xs : List V} {us : List Value}, Vals xs us → xs.all flatV = true → us.any (eqU x) = xs.any fun y => eqV y x
  | _, _, .nil, _ => rfl
  | y :: xs, u :: us, .cons r t, f => by
    rw [List.all_cons, Bool.and_eq_true] at f
    rw [List.any_cons, List.any_cons, eqU_of r f.1, any_eqU t f.2]
theorem mem_eqAt {A : Around} {s : Shared} {x : V} {v : Value} (rx : RelV x v) (fx : flatV x = true) : ∀ {xs : List V} {us : List Value}, Vals xs us → xs.all flatV = true → ∀ u ∈ us, SeqAt.EqAt A s u v (eqU x u)
  | _, _, .nil, _ => fun u hu => by cases hu
  | y :: xs, u :: us, .cons r t, f => fun u' hu => by
    rw [List.all_cons, Bool.and_eq_true] at f
    rcases List.mem_cons.mp hu with rfl | hu
    · rw [eqU_of r f.1]; exact eqAt_V r rx f.1 fx
    · exact mem_eqAt rx fx t f.2 u' hu
def inV (x : V) (xs : List V) : Bool := xs.any fun y => eqV y x
/-- x in a list or tuple of flat items -/
def rIn (K : PySem.W.Frag) (neg : Bool) : R2 := fun x y H Q => ∃ p xs, y = .ref p ∧ (SqL K H p xs ∨ SqT K H p xs) ∧ flatV x = true ∧ xs.all flatV = true ∧ Q (.bl (if neg then !inV x xs else inV x xs)) H
theorem op_in_seq : OpR X (compareOp .In) (rIn X.K false) := by
  intro pins s σ H x y v u Q I rx ry h
  obtain ⟨p, xs, rfl, hq, fx, fs, q⟩ := h
  cases ry
  rcases hq with hq | hq
  · obtain ⟨its, r, pl, hz⟩ := I.list hq
    refine SeqAt.in_listAt (eqU x) pl.isList (fun w hw => mem_eqAt rx fx r fs w (by simpa using hw)) ⟨.bl _, H, I, rfl, ?_⟩
    rw [show its.toArray.any (eqU x) = its.any (eqU x) by simp, any_eqU r fs]
    exact q
  · obtain ⟨its, r, pl, hz⟩ := I.tuple hq
    refine SeqAt.in_tupleAt (eqU x) pl (fun w hw => mem_eqAt rx fx r fs w (by simpa using hw)) ⟨.bl _, H, I, rfl, ?_⟩
    rw [show its.toArray.any (eqU x) = its.any (eqU x) by simp, any_eqU r fs]
    exact q
theorem op_notIn_seq : OpR X (compareOp .NotIn) (rIn X.K true) := by
  intro pins s σ H x y v u Q I rx ry h
  obtain ⟨p, xs, rfl, hq, fx, fs, q⟩ := h
  cases ry
  rcases hq with hq | hq
  · obtain ⟨its, r, pl, hz⟩ := I.list hq
    refine SeqAt.notIn_listAt (eqU x) pl.isList (fun w hw => mem_eqAt rx fx r fs w (by simpa using hw)) ⟨.bl _, H, I, rfl, ?_⟩
    rw [show its.toArray.any (eqU x) = its.any (eqU x) by simp, any_eqU r fs]
    exact q
  · obtain ⟨its, r, pl, hz⟩ := I.tuple hq
    refine SeqAt.notIn_tupleAt (eqU x) pl (fun w hw => mem_eqAt rx fx r fs w (by simpa using hw)) ⟨.bl _, H, I, rfl, ?_⟩
    rw [show its.toArray.any (eqU x) = its.any (eqU x) by simp, any_eqU r fs]
    exact q
theorem op_notIn_str : OpR X (compareOp .NotIn) (fun x y H Q => ∃ i j, x = .str i ∧ y = .str j ∧ Q (.bl (!(!(Builtin.Str.occurrences j i 0 j.length 1).isEmpty))) H) := by
  intro pins s σ H x y v u Q I rx ry h
  obtain ⟨i, j, rfl, rfl, q⟩ := h
  obtain ⟨t, rfl⟩ := rx
  obtain ⟨t', rfl⟩ := ry
  exact notIn_str ⟨.bl _, H, I, rfl, q⟩

/-! ### len, list(x), tuple(x) of any list or tuple that is read -/
theorem call_len_seq : CallR X (.builtin "len") (fun xs H Q => ∃ p ys, xs = [.ref p] ∧ (SqL X.K H p ys ∨ SqT X.K H p ys) ∧ Q (.int ys.length) H) := by
  intro pins s σ H xs us Q I r h
  obtain ⟨p, ys, rfl, hq, q⟩ := h
  obtain ⟨u, rfl, rx⟩ := vals1 r
  cases rx
  have hn := line63
  rcases hq with hq | hq
  · obtain ⟨its, r', pl, hz⟩ := I.list hq
    have hlen := r'.length
    exact Calls.call_len_list pl.isList (by simp only [List.size_toArray] <;> omega) ⟨.int ys.length, H, I.tok _, ⟨s.toks + 1, by rw [List.size_toArray, hlen]⟩, q⟩
  · obtain ⟨its, r', pl, hz⟩ := I.tuple hq
    have hlen := r'.length
    exact len_tuple pl (by simp only [List.size_toArray] <;> omega) ⟨.int ys.length, H, I.tok _, ⟨s.toks + 1, by rw [List.size_toArray, hlen]⟩, q⟩
theorem call_len_str : CallR X (.builtin "len") (fun xs H Q => ∃ z, xs = [.str z] ∧ z.length ≤ sizeLine ∧ Q (.int z.length) H) := by
  intro pins s σ H xs us Q I r h
  obtain ⟨z, rfl, hz, q⟩ := h
  obtain ⟨u, rfl, t, rfl⟩ := vals1 r
  have hn := line63
  exact len_str (by omega) ⟨.int z.length, H, I.tok _, ⟨_, rfl⟩, q⟩
theorem CallR.or {f : Value} {r r' : List V → Hp → VK → Prop} (h : CallR X f r) (h' : CallR X f r') : CallR X f (fun xs H Q => r xs H Q ∨ r' xs H Q) := by
  intro pins s σ H xs us Q I rs q
  rcases q with q | q
  · exact h pins s σ H xs us Q I rs q
  · exact h' pins s σ H xs us Q I rs q
theorem call_list_of : CallR X (.type "list") (fun xs H Q => ∃ p ys, xs = [.ref p] ∧ (SqL X.K H p ys ∨ SqT X.K H p ys) ∧ ∀ l, H l = none → Q (.ref l) (upd H l (.lst ys))) := by
  intro pins s σ H xs us Q I r h
  obtain ⟨p, ys, rfl, hq, q⟩ := h
  obtain ⟨u, rfl, rx⟩ := vals1 r
  cases rx
  have fin : ∀ (its : List Value), Vals ys its → ys.length ≤ sizeLine → ∀ (h' : Heap) (c' : Nat), (∀ b o', s.heap.get? b = some o' → h'.get? b = some o') →
      h'.get? s.heap.objs.size = some { cls := .type "list", dict := none, data := .seq its.toArray c', slots := #[] } → EP X pins σ Q (.ref s.heap.objs.size) { s with heap := h' } := fun its r' hz h' c' kp e =>
    ⟨.ref s.heap.objs.size, _, I.laid (t' := s.toks) kp (Nat.le_refl _) (show ObjOk X.prog X.w _ h' _ (.lst ys) from ⟨hz, its, c', r', e⟩), rfl, q _ (I.hok.fresh (Nat.le_refl _))⟩
  rcases hq with hq | hq
  · obtain ⟨its, r', pl, hz⟩ := I.list hq
    have hlen := r'.length
    obtain ⟨o, ho, hc, n, hd⟩ := pl.isList
    exact call_list_seq p (.inl rfl) ho hc hd (fun h' c' kp e => fin its r' hz h' c' kp e) (by simp only [List.size_toArray] <;> omega)
  · obtain ⟨its, r', pl, hz⟩ := I.tuple hq
    have hlen := r'.length
    obtain ⟨o, ho, hc, n, hd⟩ := pl
    exact call_list_seq p (.inr rfl) ho hc hd (fun h' c' kp e => fin its r' hz h' c' kp e) (by simp only [List.size_toArray] <;> omega)
theorem call_tuple_of : CallR X (.type "tuple") (fun xs H Q => ∃ p ys, xs = [.ref p] ∧ ((SqL X.K H p ys ∧ ∀ l, H l = none → Q (.ref l) (upd H l (.tup ys))) ∨ (SqT X.K H p ys ∧ Q (.ref p) H))) := by
  intro pins s σ H xs us Q I r h
  obtain ⟨p, ys, rfl, h⟩ := h
  obtain ⟨u, rfl, rx⟩ := vals1 r
  cases rx
  rcases h with ⟨hq, q⟩ | ⟨hq, q⟩
  · obtain ⟨its, r', pl, hz⟩ := I.list hq
    have hlen := r'.length
    refine call_tuple_list pl.isList (fun h' kp => ?_) (by simp only [List.size_toArray] <;> omega)
    have I1 : Inv X pins σ H { s with heap := h' } := I.kept (t' := s.toks) kp
    have I2 : Inv X pins σ (upd H h'.objs.size (.tup ys)) { s with heap := h'.push { cls := .type "tuple", data := .seq its.toArray } } :=
      I1.laid (t' := s.toks) (fun b o e => Heap.get?_push_of_some _ e) (Nat.le_refl _) (show ObjOk X.prog X.w _ _ _ (.tup ys) from ⟨hz, its, r', IsTup.new _ _⟩)
    exact ⟨.ref h'.objs.size, _, I2, rfl, q _ (I1.hok.fresh (Nat.le_refl _))⟩
  · obtain ⟨its, r', pl, hz⟩ := I.tuple hq
    exact call_tuple_same pl ⟨.ref p, H, I, rfl, q⟩

/-! ### the call of a builtin's method: o.m(..) -/
/-- the value is of that builtin type -/
def tyV (K : PySem.W.Frag) (T : String) (x : V) (H : Hp) : Prop := match x with
  | .str _ => T = "str"
  | .int _ => T = "int"
  | .ref p => (T = "list" ∧ ∃ xs, SqL K H p xs) ∨ (T = "tuple" ∧ ∃ o, K.lookup p = some o ∧ o.cls = .type "tuple" ∧ o.dict = none) ∨
      (T = "dict" ∧ ((∃ kvs, H p = some (.dK kvs)) ∨ ∃ kvs, H p = some (.dT kvs))) ∨ (T = "set" ∧ ∃ S n, H p = some (.set S n))
  | _ => False
theorem tyV_is {pins : List (Addr × Obj)} {σ : St} {H : Hp} {s : Shared} {T : String} {x : V} {v : Value} (I : Inv X pins σ H s) (r : RelV x v) (ty : tyV X.K T x H) :
    s.TypeIs v T ∧ ∀ a, v = .ref a → ∃ ob, s.heap.get? a = some ob ∧ ob.dict = none := by
  cases x with
  | str z =>
    obtain ⟨t, rfl⟩ := r
    cases (show T = "str" from ty)
    exact ⟨typeIs_str s z t, fun _ e => nomatch e⟩
  | int i =>
    obtain ⟨t, rfl⟩ := r
    cases (show T = "int" from ty)
    exact ⟨typeIs_int s i t, fun _ e => nomatch e⟩
  | ref p =>
    cases r
    rcases ty with ⟨rfl, xs, hq⟩ | ⟨rfl, o, hk, hc, hd⟩ | ⟨rfl, hk⟩ | ⟨rfl, S, n, hk⟩
    · obtain ⟨its, _, pl, _⟩ := I.list hq
      refine ⟨pl.isList.typeIs, fun a e => ?_⟩
      cases e
      obtain ⟨o, n, e, c, hd, _⟩ := pl
      exact ⟨o, e, hd⟩
    · refine ⟨⟨o, I.kIn p o hk, hc⟩, fun a e => ?_⟩
      cases e
      exact ⟨o, I.kIn _ o hk, hd⟩
    · have z : ∃ o, s.heap.get? p = some o ∧ o.ExactDict := by
        rcases hk with ⟨kvs, hk⟩ | ⟨kvs, hk⟩
        · obtain ⟨_, _, _, _, o, _, _, e, ex, _⟩ := I.hok p _ hk
          exact ⟨o, e, ex⟩
        · obtain ⟨_, _, _, _, o, _, _, e, ex, _⟩ := I.hok p _ hk
          exact ⟨o, e, ex⟩
      obtain ⟨o, e, ex⟩ := z
      refine ⟨⟨o, e, ex.1⟩, fun a e2 => ?_⟩
      cases e2
      exact ⟨o, e, ex.2.1⟩
    · obtain ⟨o, _, _, _, e, ex, _⟩ := I.hok p _ hk
      refine ⟨⟨o, e, ex.1⟩, fun a e2 => ?_⟩
      cases e2
      exact ⟨o, e, ex.2.1⟩
  | _ => exact False.elim ty
def tBM0 (K : PySem.W.Frag) (T : String) (r : V → List V → Hp → VK → Prop) (to : TE) : TE := fun σ H Q => to σ H fun x H1 => tyV K T x H1 ∧ r x [] H1 Q
def tBM (K : PySem.W.Frag) (T : String) (r : V → List V → Hp → VK → Prop) (to : TE) (t : TA) : TE := fun σ H Q => to σ H fun x H1 => tyV K T x H1 ∧ t σ H1 fun xs H2 => r x xs H2 Q
variable {o e : Expr} {es : List Expr} {to : TE} {t : TA} {name : Str} {apos cpos : Pos} {T id : String} {r : V → List V → Hp → VK → Prop}
theorem pe_bm0 (pa : PlainAttrs T) (slot : Slot T name id) (hty : typeOf (.builtin id) = pure (.type "method_descriptor")) (hm : MtR X id r) (ho : PE X o to)
    (hbase : attributeBase o name X.env (eval o X.env) = eval o X.env := by rfl) (hline : (apos.endLine == cpos.line) = true := by rfl) : PE X (.Call (.Attribute o name apos) [] [] cpos) (tBM0 X.K T r to) := by
  refine .mk ?_
  intro pins s σ H Q I h
  refine wpAny_Call_method0_late hbase hline (thn (ho pins s σ H _ I h) fun v s1 ⟨x, H1, I1, r1, ty, q1⟩ => ?_)
  obtain ⟨h1, h2⟩ := tyV_is I1 r1 ty
  exact ⟨T, id, pa, slot, hty, h1, h2, Calls.callWith_builtin rfl (PySem.evalArgs_none (hm pins s1 σ H1 x [] v [] Q I1 r1 .nil q1))⟩
theorem pe_bm (pa : PlainAttrs T) (slot : Slot T name id) (hty : typeOf (.builtin id) = pure (.type "method_descriptor")) (hm : MtR X id r) (ho : PE X o to) (ha : PA X (e :: es) t)
    (hbase : attributeBase o name X.env (eval o X.env) = eval o X.env := by rfl)
    (hfew : ((backTo cpos (starEach (e :: es) X.env)).all (fun x => !x.1) && (backToKw cpos (keywordEach [] X.env)).all (fun x => x.1.isSome)
      && decide ((e :: es).length + ([] : List Keyword).length + (if ([] : List Keyword).isEmpty then 0 else 1) < 30)) = true := by rfl)
    (hline : (apos.endLine == cpos.line) = true := by rfl) (hs : starEach (e :: es) X.env = (false, eval e X.env) :: starEach es X.env := by rfl) (hplain : (backTo cpos (starEach es X.env)).any (·.1) = false := by rfl) :
    PE X (.Call (.Attribute o name apos) (e :: es) [] cpos) (tBM X.K T r to t) := by
  refine .mk ?_
  intro pins s σ H Q I h
  refine wpAny_Call_method_late hbase hfew hline rfl (thn (ho pins s σ H _ I h) fun v s1 ⟨x, H1, I1, r1, ty, q1⟩ => ?_)
  obtain ⟨h1, h2⟩ := tyV_is I1 r1 ty
  refine ⟨T, id, pa, slot, hty, h1, h2, ?_⟩
  have hA := ha cpos pins s1 σ H1 _ I1 q1
  rw [hs] at hA ⊢
  refine Calls.callWith_builtin (by show (false || (backTo cpos (starEach es X.env)).any (·.1)) = false; rw [hplain] <;> rfl) (Calls.evalArgs_plain ?_)
  exact thn hA fun us s2 ⟨vs, H2, I2, r2, q2⟩ => hm pins s2 σ H2 x vs v us Q I2 r1 r2 q2
/- xs.append(e), list.index on a module's tuple .. are MtR facts of 06m -/
end
end L2

namespace L2
open PySem PySem.Spec PyProof.Rows

def MtM (X : Cx) (id : String) (r : V → List V → Hp → VK → Prop) : Prop :=
  ∀ (pins : List (Addr × Obj)) (s : Shared) (σ : St) (H : Hp) (x : V) (xs : List V) (v : Value) (us : List Value) (Q : VK), Inv X pins σ H s → RelV x v → Vals xs us → r x xs H Q →
    wpAny (model X.prog X.w) X.A (call (.builtin id) (v :: us)) (EP X pins σ Q) X.xe s

/-! ### lists of values -/
theorem Vals.one : ∀ {x : V} {us : List Value}, Vals [x] us → ∃ u, us = [u] ∧ RelV x u
  | _, _, .cons r .nil => ⟨_, rfl, r⟩
theorem Vals.two : ∀ {x y : V} {us : List Value}, Vals [x, y] us → ∃ u v, us = [u, v] ∧ RelV x u ∧ RelV y v
  | _, _, _, .cons r (.cons q .nil) => ⟨_, _, rfl, r, q⟩
theorem Vals.zero : ∀ {us : List Value}, Vals [] us → us = []
  | _, .nil => rfl
theorem Vals.dropLast {xs : List V} {us : List Value} (h : Vals xs us) : Vals xs.dropLast us.dropLast := by
  induction h with
  | nil => exact .nil
  | cons r t ih =>
    cases t with
    | nil => exact .nil
    | cons q t' => exact .cons r ih
theorem Vals.eraseIdx : ∀ {xs : List V} {us : List Value} (i : Nat), Vals xs us → Vals (xs.eraseIdx i) (us.eraseIdx i)
  | _, _, _, .nil => .nil
  | _, _, 0, .cons _ t => t
  | _, _, i + 1, .cons r t => .cons r (Vals.eraseIdx i t)
theorem Vals.reverse {xs : List V} {us : List Value} (h : Vals xs us) : Vals xs.reverse us.reverse := by
  induction h with
  | nil => exact .nil
  | cons r t ih => rw [List.reverse_cons, List.reverse_cons]; exact Vals.append ih (.cons r .nil)
theorem Vals.rep {xs : List V} {us : List Value} (h : Vals xs us) : ∀ k : Nat, Vals (List.replicate k xs).flatten (List.replicate k us).flatten
  | 0 => .nil
  | k + 1 => by
    rw [List.replicate_succ, List.replicate_succ, List.flatten_cons, List.flatten_cons]
    exact Vals.append h (Vals.rep h k)
theorem erase_last {α : Type} (l : List α) : l.eraseIdx (l.length - 1) = l.dropLast := by
  induction l with
  | nil => rfl
  | cons a r ih =>
    cases r with
    | nil => rfl
    | cons b r =>
      have e : (a :: b :: r).length - 1 = ((b :: r).length - 1) + 1 := by
        have h1 : (a :: b :: r).length = r.length + 2 := rfl
        have h2 : (b :: r).length = r.length + 1 := rfl
        omega
      rw [e, List.eraseIdx_cons_succ, ih]
      all_goals rfl
theorem len_erase {α : Type} : ∀ (l : List α) (i : Nat), (l.eraseIdx i).length ≤ l.length
  | [], _ => Nat.le_refl _
  | _ :: _, 0 => Nat.le_succ _
  | _ :: r, i + 1 => Nat.succ_le_succ (len_erase r i)
theorem foldl_rep (its : List Value) : ∀ (k : Nat) (acc : List Value),
    List.foldl (fun x1 x2 => x1 ++ x2) acc.toArray (List.replicate k its.toArray) = (acc ++ (List.replicate k its).flatten).toArray
  | 0, acc => by simp
  | k + 1, acc => by
    have e : acc.toArray ++ its.toArray = (acc ++ its).toArray := by simp
    have e2 : (acc ++ its) ++ (List.replicate k its).flatten = acc ++ (List.replicate (k + 1) its).flatten := by
      rw [List.replicate_succ, List.flatten_cons, List.append_assoc]
    rw [← e2, ← foldl_rep its k (acc ++ its), ← e, List.replicate_succ, List.foldl_cons]

section
variable {X : Cx} {pins : List (Addr × Obj)} {σ : St} {H : Hp} {s : Shared} {l b : Addr} {xs ys zs : List V}

/-! ### the two steps: a tracked list is rewritten, a new list is laid -/
theorem Inv.lset {its its' : List Value} {n : Nat} {f : Array Value → Array Value} {t' : Nat} (I : Inv X pins σ H s) (hH : H l = some (.lst xs))
    (e : s.heap.get? l = some { cls := .type "list", data := .seq its.toArray n }) (hf : f its.toArray = its'.toArray) (hv : Vals ys its') (hz : ys.length ≤ sizeLine) :
    Inv X pins σ (upd H l (.lst ys)) { s with heap := s.heap.update l (Obj.mapSeq f), toks := t' } := by
  have q := PySem.IsL.update e f
  rw [hf] at q
  refine I.write (x := l) (e := l) (by rw [hH]; exact trivial) (.inl rfl) (fun b' u hb hu => (Heap.get?_update_other s.heap (Obj.mapSeq f) (Ne.symm hb)).trans hu) ⟨_, q⟩ ?_
  exact ⟨hz, its', _, hv, q⟩
theorem Inv.lnew {its : List Value} {t' : Nat} (I : Inv X pins σ H s) (hv : Vals ys its) (hz : ys.length ≤ sizeLine) :
    Inv X pins σ (upd H s.heap.objs.size (.lst ys)) { s with heap := s.heap.push { cls := .type "list", data := .seq its.toArray }, toks := t' } :=
  I.laid (fun _ _ q => Heap.get?_push_of_some _ q) (Nat.le_refl _) ⟨hz, its, 0, hv, Heap.get?_push_size _ rfl⟩
theorem Inv.fresh (I : Inv X pins σ H s) : H s.heap.objs.size = none := I.hok.fresh (Nat.le_refl _)
theorem Inv.lstM (I : Inv X pins σ H s) (hH : H l = some (.lst xs)) : xs.length ≤ sizeLine ∧ ∃ (its : List Value) (n : Nat), Vals xs its ∧ xs.length = its.length ∧ s.heap.get? l = some { cls := .type "list", data := .seq its.toArray n } := by
  obtain ⟨z, its, n, r, e⟩ := I.hok l _ hH
  exact ⟨z, its, n, r, r.length, e⟩

theorem notLongL {n : Nat} (h : n ≤ sizeLine) : Builtin.List.listTooLong n = false := by
  unfold Builtin.List.listTooLong
  exact decide_eq_false (by omega)
end

section
variable {X : Cx}

/-! ### methods -/
def rAppend : V → List V → Hp → VK → Prop := fun x vs H Q => ∃ l xs y, x = .ref l ∧ vs = [y] ∧ H l = some (.lst xs) ∧ xs.length < sizeLine ∧ Q .non (upd H l (.lst (xs ++ [y])))
theorem mt_append : MtM X "list.append" rAppend := by
  intro pins s σ H x vs v us Q I rx rv h
  obtain ⟨l, xs, y, rfl, rfl, hH, hz, q⟩ := h
  cases rx
  obtain ⟨u, rfl, ru⟩ := rv.one
  obtain ⟨z, its, n, r, hl, e⟩ := I.lstM hH
  refine call_meets F.slot_list_append ⟨_, e, rfl⟩ F.entry_list_append (F.args_list_append_2 _ _) (PySem.list_append l its.toArray n u (by rw [List.size_toArray]; omega)) ⟨e, ?_⟩
  refine ⟨.non, _, I.lset (its' := its ++ [u]) hH e (by simp) (r.append (.cons ru .nil)) ?_, rfl, q⟩
  rw [List.length_append, List.length_singleton]
  omega

def rExtend : V → List V → Hp → VK → Prop := fun x vs H Q => ∃ l b xs zs, x = .ref l ∧ vs = [.ref b] ∧ H l = some (.lst xs) ∧ H b = some (.lst zs) ∧ xs.length + zs.length ≤ sizeLine ∧ Q .non (upd H l (.lst (xs ++ zs)))
theorem mt_extend : MtM X "list.extend" rExtend := by
  intro pins s σ H x vs v us Q I rx rv h
  obtain ⟨l, b, xs, zs, rfl, rfl, hH, hB, hz, q⟩ := h
  cases rx
  obtain ⟨u, rfl, ru⟩ := rv.one
  cases ru
  obtain ⟨z, its, n, r, hl, e⟩ := I.lstM hH
  obtain ⟨z2, its2, n2, r2, hl2, e2⟩ := I.lstM hB
  have hsz : its.toArray.size + its2.toArray.size ≤ sizeLine := by rw [List.size_toArray, List.size_toArray]; omega
  have hlong : ¬ (!its.toArray.isEmpty && Builtin.List.listTooLong (its.toArray.size + its2.toArray.size)) = true := by
    rw [notLongL hsz, Bool.and_false]
    exact Bool.false_ne_true
  refine call_meets F.slot_list_extend ⟨_, e, rfl⟩ F.entry_list_extend (F.args_list_extend_2 _ _)
    (AutoSeq1.list_extend_list_list_0 l its.toArray n b its2.toArray n2 hlong (by rw [List.size_toArray]; omega) (by omega)) ⟨e, e2, ?_⟩
  refine ⟨.non, _, I.lset (its' := its ++ its2) hH e (by simp) (r.append r2) ?_, rfl, q⟩
  rw [List.length_append]
  omega

def rPop : V → List V → Hp → VK → Prop := fun x vs H Q => ∃ l xs y, x = .ref l ∧ vs = [] ∧ H l = some (.lst xs) ∧ xs[xs.length - 1]? = some y ∧ Q y (upd H l (.lst xs.dropLast))
theorem mt_pop : MtM X "list.pop" rPop := by
  intro pins s σ H x vs v us Q I rx rv h
  obtain ⟨l, xs, y, rfl, rfl, hH, hy, q⟩ := h
  cases rx
  have hus := rv.zero
  subst hus
  obtain ⟨z, its, n, r, hl, e⟩ := I.lstM hH
  obtain ⟨u, hu, ru⟩ := r.get hy
  have hy' : its.toArray[its.toArray.size - 1]? = some u := by
    show its.toArray[its.length - 1]? = some u
    rw [← Array.getElem?_toList, ← hl]
    exact hu
  refine call_meets F.slot_list_pop ⟨_, e, rfl⟩ F.entry_list_pop (F.args_list_pop_1 _) (MeetsSeq.list_pop_last l its.toArray n u hy' (by rw [List.size_toArray]; omega)) ⟨e, ?_⟩
  refine ⟨y, _, I.lset (its' := its.dropLast) hH e ?_ r.dropLast ?_, ru, q⟩
  · show its.toArray.eraseIdxIfInBounds (its.toArray.size - 1) = its.dropLast.toArray
    rw [List.size_toArray, List.eraseIdxIfInBounds_toArray, erase_last]
  · rw [List.length_dropLast]
    omega

def rPopAt : V → List V → Hp → VK → Prop := fun x vs H Q => ∃ l xs i k y, x = .ref l ∧ vs = [.int i] ∧ H l = some (.lst xs) ∧ -(2 ^ 63) ≤ i ∧ i < 2 ^ 63 ∧ seqIndex? i xs.length = some k ∧ xs[k]? = some y ∧ Q y (upd H l (.lst (xs.eraseIdx k)))
theorem mt_popAt : MtM X "list.pop" rPopAt := by
  intro pins s σ H x vs v us Q I rx rv h
  obtain ⟨l, xs, i, k, y, rfl, rfl, hH, h1, h2, hk, hy, q⟩ := h
  cases rx
  obtain ⟨u, rfl, ru⟩ := rv.one
  obtain ⟨t, rfl⟩ := ru
  obtain ⟨z, its, n, r, hl, e⟩ := I.lstM hH
  obtain ⟨w, hw, rw'⟩ := r.get hy
  refine call_meets F.slot_list_pop ⟨_, e, rfl⟩ F.entry_list_pop (F.args_list_pop_2 _ _)
    (MeetsSeq.list_pop_at l its.toArray n i t k w (fitsIndex_both h1 h2) (by rw [List.size_toArray, ← hl]; exact hk) (by rw [← Array.getElem?_toList]; exact hw) (by rw [List.size_toArray]; omega)) ⟨e, ?_⟩
  refine ⟨y, _, I.lset (its' := its.eraseIdx k) hH e ?_ (r.eraseIdx k) ?_, rw', q⟩
  · show its.toArray.eraseIdxIfInBounds k = (its.eraseIdx k).toArray
    rw [List.eraseIdxIfInBounds_toArray]
  · have := len_erase xs k
    omega

def rReverse : V → List V → Hp → VK → Prop := fun x vs H Q => ∃ l xs, x = .ref l ∧ vs = [] ∧ H l = some (.lst xs) ∧ Q .non (upd H l (.lst xs.reverse))
theorem mt_reverse : MtM X "list.reverse" rReverse := by
  intro pins s σ H x vs v us Q I rx rv h
  obtain ⟨l, xs, rfl, rfl, hH, q⟩ := h
  cases rx
  have hus := rv.zero
  subst hus
  obtain ⟨z, its, n, r, hl, e⟩ := I.lstM hH
  refine call_meets F.slot_list_reverse ⟨_, e, rfl⟩ F.entry_list_reverse (F.args_list_reverse_1 _) (AutoSeq1.list_reverse_list_0 l its.toArray n (by rw [List.size_toArray]; omega)) ⟨e, ?_⟩
  refine ⟨.non, _, I.lset (its' := its.reverse) hH e (by simp) r.reverse ?_, rfl, q⟩
  rw [List.length_reverse]
  omega

def rClear : V → List V → Hp → VK → Prop := fun x vs H Q => ∃ l xs, x = .ref l ∧ vs = [] ∧ H l = some (.lst xs) ∧ Q .non (upd H l (.lst []))
theorem mt_clear : MtM X "list.clear" rClear := by
  intro pins s σ H x vs v us Q I rx rv h
  obtain ⟨l, xs, rfl, rfl, hH, q⟩ := h
  cases rx
  have hus := rv.zero
  subst hus
  obtain ⟨z, its, n, r, hl, e⟩ := I.lstM hH
  refine call_meets F.slot_list_clear ⟨_, e, rfl⟩ F.entry_list_clear (F.args_list_clear_1 _) (AutoSeq1.list_clear_list_0 l its.toArray n (by rw [List.size_toArray]; omega)) ⟨e, ?_⟩
  exact ⟨.non, _, I.lset (its' := []) (ys := []) hH e rfl .nil (Nat.zero_le _), rfl, q⟩

/-! ### list + list, list += list, list * int -/
def rCat : R2 := fun x y H Q => ∃ l b xs zs, x = .ref l ∧ y = .ref b ∧ H l = some (.lst xs) ∧ H b = some (.lst zs) ∧ xs.length + zs.length ≤ sizeLine ∧ ∀ p, H p = none → Q (.ref p) (upd H p (.lst (xs ++ zs)))
theorem op_cat : OpR X (binaryOp .Add) rCat := by
  intro pins s σ H x y v u Q I rx ry h
  obtain ⟨l, b, xs, zs, rfl, rfl, hH, hB, hz, q⟩ := h
  cases rx
  cases ry
  obtain ⟨z, its, n, r, hl, e⟩ := I.lstM hH
  obtain ⟨z2, its2, n2, r2, hl2, e2⟩ := I.lstM hB
  refine PySem.P.add_list e e2 ?_ (by rw [List.size_toArray, List.size_toArray]; omega)
  have ea : its.toArray ++ its2.toArray = (its ++ its2).toArray := by simp
  rw [ea]
  exact ⟨.ref _, _, I.lnew (t' := s.toks) (r.append r2) (by rw [List.length_append]; omega), rfl, q _ I.fresh⟩
/-- a list times an int (a negative one is nothing) -/
def rRep : R2 := fun x y H Q => ∃ l k xs, x = .ref l ∧ y = .int k ∧ H l = some (.lst xs) ∧ -(2 ^ 63) ≤ k ∧ k < 2 ^ 63 ∧ xs.length * k.toNat ≤ sizeLine ∧
  ∀ p, H p = none → Q (.ref p) (upd H p (.lst (List.replicate k.toNat xs).flatten))
theorem len_rep {α : Type} (xs : List α) (k : Nat) : (List.replicate k xs).flatten.length = k * xs.length := by
  induction k with
  | zero => simp
  | succ k ih => rw [List.replicate_succ, List.flatten_cons, List.length_append, ih, Nat.succ_mul, Nat.add_comm]
theorem op_rep : OpR X (binaryOp .Mult) rRep := by
  intro pins s σ H x y v u Q I rx ry h
  obtain ⟨l, k, xs, rfl, rfl, hH, h1, h2, hz, q⟩ := h
  cases rx
  obtain ⟨t, rfl⟩ := ry
  obtain ⟨z, its, n, r, hl, e⟩ := I.lstM hH
  have hlen : its.toArray.size * k.toNat ≤ sizeLine := by rw [List.size_toArray, ← hl]; exact hz
  have hcap : ¬ its.toArray.size * k.toNat > (2 ^ 63 - 1) / 8 := by
    have : (sizeLine : Nat) ≤ (2 ^ 63 - 1) / 8 := by decide
    omega
  have hfit : ¬ (!Builtin.List.listFitsIndex k) = true := by
    rw [fitsIndex_both h1 h2]
    exact Bool.false_ne_true
  have hlong : ¬ Builtin.List.listTooLong (its.toArray.size * k.toNat) = true := by
    rw [notLongL hlen]
    exact Bool.false_ne_true
  have hnew : List.foldl (fun x1 x2 => x1 ++ x2) #[] (List.replicate (if its.toArray.isEmpty = true then 0 else k.toNat) its.toArray) = (List.replicate k.toNat its).flatten.toArray := by
    have f0 : ∀ m : Nat, List.foldl (fun x1 x2 => x1 ++ x2) #[] (List.replicate m its.toArray) = (List.replicate m its).flatten.toArray := fun m => by
      have := foldl_rep its m []
      rw [List.nil_append] at this
      exact this
    rw [f0]
    cases its with
    | nil => simp
    | cons a r' => rw [if_neg (by simp)]
  refine wpAny_binaryOp_repeat_ref (T := "list") (U := "int") (by decide) ⟨_, e, rfl⟩ (fun s' => typeIs_int s' k t) noFill_list_mul F.fills_int_mul F.slot_int_rmul repeat_list F.slot_int_index.lookup
    (call_meets F.slot_int_rmul (typeIs_int s k t) F.entry_int_rmul (F.args_int_rmul_2 _ _) (int___rmul___int_list k t l its.toArray n)
      ⟨e, rfl, ⟨_, e, rfl⟩, call_meets F.slot_list_mul ⟨_, e, rfl⟩ F.entry_list_mul (F.args_list_mul_2 _ _) (AutoListH.list___mul___list_int_3 l its.toArray n k t hfit hcap hlong) ⟨e, ?_⟩⟩)
  rw [hnew]
  exact ⟨.ref _, _, I.lnew (t' := s.toks) (r.rep k.toNat) (by rw [len_rep, Nat.mul_comm]; exact hz), rfl, q _ I.fresh⟩

/-! ### del xs[i] -/
theorem del_list {pins : List (Addr × Obj)} {s : Shared} {σ : St} {H : Hp} {l : Addr} {xs : List V} {i : Int} {t : Tok} {k : Nat} {Q : Unit → Shared → Prop} (I : Inv X pins σ H s) (hH : H l = some (.lst xs))
    (h1 : -(2 ^ 63) ≤ i) (h2 : i < 2 ^ 63) (hk : seqIndex? i xs.length = some k) (h : ∀ s', Inv X pins σ (upd H l (.lst (xs.eraseIdx k))) s' → Q () s') :
    wpAny (model X.prog X.w) X.A (delItem (.ref l) (.int i t)) Q X.xe s := by
  obtain ⟨z, its, n, r, hl, e⟩ := I.lstM hH
  refine PySem.P.delItem_list (k := k) e (fitsIndex_both h1 h2) (by rw [List.size_toArray, ← hl]; exact hk) (h _ ?_) (by rw [List.size_toArray]; omega)
  refine I.lset (its' := its.eraseIdx k) (t' := s.toks) hH e ?_ (r.eraseIdx k) ?_
  · show its.toArray.eraseIdxIfInBounds k = (its.eraseIdx k).toArray
    rw [List.eraseIdxIfInBounds_toArray]
  · have := len_erase xs k
    omega
end

/-! ### xs[a:b] = ys -/
section
variable {prog : Program} {w : World} {A : Around} {E : Value → Shared → Prop} {s : Shared}
theorem splice_eq (its its2 : List Value) (a c : Nat) : its.toArray.extract 0 a ++ its2.toArray ++ its.toArray.extract c its.toArray.size = (its.take a ++ its2 ++ its.drop c).toArray := by
  apply Array.toList_inj.mp
  first
    | (simp
       exact List.take_of_length_le (by simp))
    | simp [List.take_of_length_le]
    | simp
theorem bounds_run {a c n : Nat} (hac : a ≤ c) (hc : c ≤ n) : sliceBounds (some (a : Int)) (some (c : Int)) none n = ((a : Int), (c : Int), 1) := by
  simp only [sliceBounds, Option.getD_none]
  have h1 : ¬ ((a : Int) < 0) := by omega
  have h2 : ¬ ((c : Int) < 0) := by omega
  simp only [h1, h2, if_false, show (1 : Int) > 0 by decide, if_true]
  congr 1
  · omega
  · congr 1; omega
set_option maxRecDepth 100000 in
/-- list.__setitem__ with a slice of step one and another list -/
theorem setItem_slice {l b sl : Addr} {items new : Array Value} {n n2 : Nat} {vl vu : Value} {a c : Nat} {Q : Unit → Shared → Prop}
    (e : s.heap.get? l = some { cls := .type "list", data := .seq items n }) (e2 : s.heap.get? b = some { cls := .type "list", data := .seq new n2 }) (hne : l ≠ b)
    (hs : s.heap.IsSliceOf sl vl vu .none) (pl : IsPart vl (some (a : Int))) (pu : IsPart vu (some (c : Int))) (hac : a ≤ c) (hc : c ≤ items.size)
    (hsz : items.size + new.size ≤ sizeLine) (h : Q () { s with heap := s.heap.update l (Obj.mapSeq fun xs => xs.extract 0 a ++ new ++ xs.extract c xs.size) }) :
    wpAny (model prog w) A (setItem (.ref l) (.ref sl) (.ref b)) Q E s := by
  have hl : s.heap.IsList l items := PySem.IsL.isList e
  have hb : s.heap.IsList b new := PySem.IsL.isList e2
  obtain ⟨os, hos, hcs, hds⟩ := id hs
  have hTs : s.TypeIs (.ref sl) "slice" := ⟨os, hos, hcs⟩
  have hstep : ¬ ((rawPart none == rawInt 0) = true) := Bool.false_ne_true
  have hsame : Builtin.List.listSameRef (.ref l) (.ref b) = false := by
    unfold Builtin.List.listSameRef
    exact beq_eq_false_iff_ne.mpr hne
  have hmax : (max (a : Int) (c : Int)).toNat = c := by omega
  have hz' : ((fun xs : Array Value => xs.extract 0 a ++ new ++ xs.extract c xs.size) items).size ≤ sizeLine + 1 := by
    simp only [Array.size_append, Array.size_extract]
    omega
  unfold setItem
  try with_reducible refine wpAny_holding ?_
  first | refine wpAny_bind (wpAny_pure ?_) | skip
  refine wpAny_bind (wpAny_sequenceKey hl.typeIs (by decide) ?_)
  refine wpAny_bind (wpAny_callSpecial?_slot (name := Str.ofString "__setitem__") hl.typeIs slot_list_setitem
    (wpAny_call_entry slot_list_setitem hl.typeIs entry_list_setitem ?_ (args_list_setitem _ _ _)))
  show wpAny _ _ (Builtin.List.listSubscript? (.ref sl) >>= _) _ _ s
  refine wpAny_bind ?_
  unfold Builtin.List.listSubscript?
  refine wpAny_bind (wpAny_specialOf hTs slice_no_index ?_)
  simp only [Option.isNone_none, if_true]
  refine wpAny_pure ?_
  show wpAny _ _ (typeOf (.ref sl) >>= _) _ _ s
  refine wpAny_bind (wpAny_typeOf hTs ?_)
  first
    | rw [if_neg (by decide)]
    | refine PySem.W.KFB.if_not (by decide) ?_
  rw [listSliceParts_eq]
  refine wpAny_bind (wpAny_bind (wpAny_field hos hds (x := .none) rfl (wpAny_bind (wpAny_listPart .none ?_))))
  rw [if_neg hstep]
  refine wpAny_bind (wpAny_field hos hds (x := vl) rfl (wpAny_bind (wpAny_listPart pl ?_)))
  refine wpAny_bind (wpAny_field hos hds (x := vu) rfl (wpAny_bind (wpAny_listPart pu (wpAny_pure ?_))))
  first
    | simp only [hsame, Bool.false_eq_true, if_false]
    | refine PySem.W.KFB.if_not hsame ?_
    | (dsimp only
       rw [if_neg (by rw [hsame]; exact Bool.false_ne_true)])
  refine wpAny_bind (m := Builtin.List.listAllItems (.ref b) "must assign iterable to extended slice") ?_
  unfold Builtin.List.listAllItems
  refine wpAny_bind (wpAny_typeOf hb.typeIs ?_)
  first
    | refine PySem.W.KFB.if_so (by decide) ?_
    | rw [if_pos (by decide)]
    | simp only [beq_self_eq_true, Bool.true_or, if_true]
  unfold Builtin.List.listItems
  refine wpAny_bind (wpAny_seqItems e2 rfl (wpAny_pure ?_))
  refine wpAny_bind (wpAny_bind (wpAny_seqItems e rfl (wpAny_pure ?_)))
  refine wpAny_bind (wpAny_of_eq ((sliceIndices_raw (some (a : Int)) (some (c : Int)) none items.size (by simp)).trans (congrArg (pure : Int × Int × Int → Sem (Int × Int × Int)) (bounds_run hac hc))) ?_)
  show wpAny _ _ (if ((1 : Int) == 1) = true then _ else _) _ _ s
  rw [if_pos (by decide)]
  refine wpAny_bind (wpAny_rule ?_)
  first
    | simp only [notLongL hsz, Bool.false_eq_true, if_false]
    | refine PySem.W.KFB.if_not (notLongL hsz) ?_
  first | refine wpAny_bind (wpAny_pure ?_) | skip
  show wpAny _ _ (updateSeq l (fun xs => xs.extract 0 ((a : Int)).toNat ++ new ++ xs.extract (max (a : Int) (c : Int)).toNat xs.size) >>= _) _ _ s
  rw [hmax, Int.toNat_natCast]
  refine wpAny_bind (wpAny_updateSeq (hz := Nat.le_trans (Nat.le_add_right _ _) hsz) (_hz' := hz') e rfl ?_)
  refine wpAny_bind (wpAny_letGo ?_)
  first
    | exact wpAny_bind (wpAny_pure (wpAny_pure ⟨.none, rfl, wpAny_pure h⟩))
    | exact wpAny_pure ⟨.none, rfl, wpAny_pure h⟩
end

section
variable {X : Cx}
/-- xs[a:c] = ys of another list, at the value level: sl is the slice object that was just made -/
theorem set_slice {pins : List (Addr × Obj)} {s : Shared} {σ : St} {H : Hp} {l b sl : Addr} {xs ys : List V} {a c : Int} {vl vu : Value} {Q : Unit → Shared → Prop} (I : Inv X pins σ H s)
    (hH : H l = some (.lst xs)) (hB : H b = some (.lst ys)) (hne : l ≠ b) (hs : s.heap.IsSliceOf sl vl vu .none) (ra : RelV (.int a) vl) (rc : RelV (.int c) vu) (h0 : 0 ≤ a) (hac : a ≤ c) (hc : c ≤ xs.length)
    (hz : xs.length + ys.length ≤ sizeLine) (h : ∀ s', Inv X pins σ (upd H l (.lst (xs.take a.toNat ++ ys ++ xs.drop c.toNat))) s' → Q () s') :
    wpAny (model X.prog X.w) X.A (setItem (.ref l) (.ref sl) (.ref b)) Q X.xe s := by
  obtain ⟨ta, rfl⟩ := ra
  obtain ⟨tc, rfl⟩ := rc
  obtain ⟨z, its, n, r, hl, e⟩ := I.lstM hH
  obtain ⟨z2, its2, n2, r2, hl2, e2⟩ := I.lstM hB
  obtain ⟨a', rfl⟩ := Int.eq_ofNat_of_zero_le h0
  obtain ⟨c', rfl⟩ := Int.eq_ofNat_of_zero_le (Int.le_trans h0 hac)
  simp only [Int.toNat_natCast] at h
  refine setItem_slice (a := a') (c := c') e e2 hne hs (.int _ _) (.int _ _) (by omega) (by rw [List.size_toArray]; omega) (by rw [List.size_toArray, List.size_toArray]; omega) (h _ ?_)
  refine I.lset (its' := its.take a' ++ its2 ++ its.drop c') (t' := s.toks) hH e ?_ (Vals.append (Vals.append (r.take _) r2) (r.drop _)) ?_
  · exact splice_eq its its2 a' c'
  · rw [List.length_append, List.length_append, List.length_take, List.length_drop]
    omega
end
end L2

namespace Att
open PySem PySem.W PySem.Calls PyProof.Rows

/-! ### the script -/
theorem ints_of_wellAll {P : Params} {h : Heap} : ∀ (ns : List Int) (vs : List Value), WellAll P h vs (ns.map WData.int) → IntsAre vs ns := by
  intro ns
  induction ns with
  | nil =>
    intro vs w
    rw [List.map_nil] at w
    cases w
    exact .nil
  | cons n ns ih =>
    intro vs w
    rw [List.map_cons] at w
    cases w with
    | cons a b =>
      cases a
      exact .cons _ _ (ih _ b)

theorem script_of {l : OpenLaw} {n : Nat} (hn : l.most = some n) {P : Params} {h : Heap} {args : List WData} {vals : List Value}
    (hpre : l.row.toRowW.claim.pre args = true) (hwl : WellAll P h vals args) :
    ∃ a vs ns, vals = [Value.ref a] ∧ args = [WData.list (ns.map WData.int)] ∧ h.get? a = some { cls := .type "list", data := .seq vs.toArray } ∧ IntsAre vs ns ∧ ns.length ≤ n := by
  have hsh : WShape.hasAll [] args [.list .int] = true := (pre_splitW hpre).1
  have hc : l.pre.holds [] { args := args } = true := (pre_splitW hpre).2
  obtain ⟨d, r, rfl, h1, h2⟩ := hasAllW_cons hsh
  obtain rfl := hasAllW_nil h2
  obtain ⟨xs, rfl, h3⟩ := hasW_list h1
  obtain ⟨ns, rfl⟩ := items_int h3
  have hlen : ns.length ≤ n := by
    unfold OpenLaw.pre at hc
    have h4 : (WTm.not (.lt (.lit (.int (n : Int))) (.len (.arg 0)))).holds [] { args := [.list (ns.map .int)] } = true := by
      have h4 := (holds_andW hc).1
      rw [hn] at h4
      exact h4
    have h5 := condW_of h4 (w_not (w_lt w_lit (w_len_list (w_arg rfl))))
    rw [List.length_map] at h5
    refine Nat.le_of_not_lt fun q => ?_
    have q' : (n : Int) < ((ns.length : Nat) : Int) := by omega
    first
      | (rw [decide_eq_true q'] at h5; exact absurd h5 (by decide))
      | (simp at h5; omega)
  cases hwl with
  | cons w1 w2 =>
    cases w2
    cases w1 with
    | list ho hall => exact ⟨_, _, ns, rfl, rfl, ho, ints_of_wellAll ns _ hall, hlen⟩

theorem post_true (l : OpenLaw) (args : List WData) : l.row.toRowW.claim.post args (.bool true) args = true :=
  postW_of (r := l.row.toRowW) (X := (true == true))
    (show WShape.has [] (.bool true) .bool = true by first | rfl | decide | simp [WShape.has, WShape.arms, WShape.armsAll])
    (show (WTm.eq .res (.lit (.bool true))).value [] { args := args, res := some (.bool true), after := args } = some (.bool (true == true)) from w_eq_bool (w_res rfl) w_lit) rfl

/-! ### the attachment: holds_open's last premise (the goal 'hc' behind k_head) from a wpAny of the law's body -/
theorem attach {l : OpenLaw} {n : Nat} {q : Program} {loose : List Str} {XP : (Str → Option Value) → Heap → Prop} {YP : World → Heap → Prop} {d : DefRec} {x : Str}
    (hn : l.most = some n) (hdf : d.params.defaults = [])
    (hbind : ∀ pm cd doc v : Value, bindArgs (docDef d.name d.params d.body d.scope pm cd doc) ⟨[v], []⟩ = pure [(x, v)])
    (hx : d.scope.names.lookup x = some .local ∨ d.scope.names.lookup x = some .cell)
    (hk : d.scope.kind = .function) (hco : d.scope.isCoroutine = false) (hgen : d.scope.isGenerator = false)
    (body : ∀ (w : World) (s₀ s₁ s : Shared) (mg mb : Str → Option Value) (fa : Addr) (o : Obj) (pm cd doc : Value) (a : Addr) (vs : List Value) (ns : List Int),
      Ground q loose [] XP w s₀ mg mb s₁.heap → YP w s₁.heap →
      s₁.heap.get? fa = some o → o.data = .func (docDef d.name d.params d.body d.scope pm cd doc) → s₁.heap.CodeRec cd d.name → mg d.name = some (.ref fa) →
      s₁.heap.get? a = some { cls := .type "list", data := .seq vs.toArray } → IntsAre vs ns → ns.length ≤ n →
      s.gens = #[] → s.os = s₁.os →
      Fr s₁.heap s₁.heap.objs.size s.heap (bindL (envOfC d.name d.scope s₁.heap.objs.size fa cd).kindOf [(x, .ref a)] fun _ => none) →
      Cl s₁.heap.objs.size (cellsFrom (s₁.heap.objs.size + 1) d.scope.names []) s.heap (bindC (envOfC d.name d.scope s₁.heap.objs.size fa cd).kindOf [(x, .ref a)] fun _ => none) →
      wpAny (model l.prog w) (callerA.deeper (envOfC d.name d.scope s₁.heap.objs.size fa cd)) (execs d.body (envOfC d.name d.scope s₁.heap.objs.size fa cd))
        (fun f s' => f = .ret (.bool true) ∧ OldK s₁.heap s'.heap ∧ s'.os = s₁.os ∧ AllBare s'.gens) (fun _ _ => False) s) :
    WalkO q loose XP YP l.row.toRowW d [] (fun f vs => PySem.call f vs) := by
  intro w s₀ s₁ mg mb G Y fa o pm cd doc dV kV ho hd hcd hD hmg hg args vals as hpre hlay hrd hwl hlo
  obtain rfl : dV = .none := Dflts.none hD hdf
  obtain rfl : kV = .none := Dflts.noKw hD
  obtain ⟨a, vs, ns, rfl, rfl, hobj, hints, hlen⟩ := script_of hn hpre hwl
  refine enter_call ?_
  refine call_cells_ret (o := o) (by rw [depth_caller]; decide) ho (fd_plain hd) G.T.nolimit hcd (hbind pm cd doc (.ref a)) (fun y hy => ?_) (fun h₁ tk F X => ?_) hco hgen hk
  · obtain rfl : y = (x, Value.ref a) := List.mem_singleton.mp hy
    rcases hx with e | e
    · exact .inl e
    · exact .inr ⟨e, cellsFrom_some _ _ _ (.inl e)⟩
  · refine wpAny_mono (body w s₀ s₁ { s₁ with heap := h₁, toks := tk } mg mb fa o pm cd doc a vs ns G Y ho (fd_plain hd) hcd hmg hobj hints hlen hg rfl F X) (fun f s' hq => ?_) (fun _ _ hq => hq)
    obtain ⟨rfl, h2, h3, h4⟩ := hq
    exact ⟨.inl ⟨.bool true, .bool true, [], rfl, fun _ => rfl, .bool true, post_true l _, fun _ => ⟨List.Pairwise.nil, fun _ hm => (nomatch hm)⟩⟩, h2, h3, h4⟩

/-- the same from a codeAny of the CALL (for a layer whose function contracts speak of calls) -/
theorem attach_call {l : OpenLaw} {n : Nat} {q : Program} {loose : List Str} {XP : (Str → Option Value) → Heap → Prop} {YP : World → Heap → Prop} {d : DefRec}
    (hn : l.most = some n) (hdf : d.params.defaults = [])
    (call : ∀ (w : World) (s₀ s₁ : Shared) (mg mb : Str → Option Value) (fa : Addr) (o : Obj) (pm cd doc : Value) (a : Addr) (vs : List Value) (ns : List Int),
      Ground q loose [] XP w s₀ mg mb s₁.heap → YP w s₁.heap →
      s₁.heap.get? fa = some o → o.data = .func (docDef d.name d.params d.body d.scope pm cd doc) → s₁.heap.CodeRec cd d.name → mg d.name = some (.ref fa) →
      s₁.heap.get? a = some { cls := .type "list", data := .seq vs.toArray } → IntsAre vs ns → ns.length ≤ n → s₁.gens = #[] →
      codeAny (model l.prog w) callerA (.call (.ref fa) ⟨[.ref a], []⟩) (fun r s' => r = .ok (.ret (.bool true)) ∧ OldK s₁.heap s'.heap ∧ s'.os = s₁.os ∧ AllBare s'.gens) s₁) :
    WalkO q loose XP YP l.row.toRowW d [] (fun f vs => PySem.call f vs) := by
  intro w s₀ s₁ mg mb G Y fa o pm cd doc dV kV ho hd hcd hD hmg hg args vals as hpre hlay hrd hwl hlo
  obtain rfl : dV = .none := Dflts.none hD hdf
  obtain rfl : kV = .none := Dflts.noKw hD
  obtain ⟨a, vs, ns, rfl, rfl, hobj, hints, hlen⟩ := script_of hn hpre hwl
  refine enter_call (codeAny_mono (call w s₀ s₁ mg mb fa o pm cd doc a vs ns G Y ho (fd_plain hd) hcd hmg hobj hints hlen hg) fun r s' hq => ?_)
  obtain ⟨rfl, h2, h3, h4⟩ := hq
  exact ⟨.inl ⟨.bool true, .bool true, [], rfl, fun _ => rfl, .bool true, post_true l _, fun _ => ⟨List.Pairwise.nil, fun _ hm => (nomatch hm)⟩⟩, h2, h3, h4⟩

/-- the same where the top left finished generators (o_head chose holds_openN): nothing may have changed at all and no generator may be left -/
theorem attachN {l : OpenLaw} {n : Nat} {q : Program} {loose : List Str} {XP : (Str → Option Value) → Heap → Prop} {YP : World → Heap → Prop} {d : DefRec} {x : Str}
    (hn : l.most = some n) (hdf : d.params.defaults = [])
    (hbind : ∀ pm cd doc v : Value, bindArgs (docDef d.name d.params d.body d.scope pm cd doc) ⟨[v], []⟩ = pure [(x, v)])
    (hx : d.scope.names.lookup x = some .local ∨ d.scope.names.lookup x = some .cell)
    (hk : d.scope.kind = .function) (hco : d.scope.isCoroutine = false) (hgen : d.scope.isGenerator = false)
    (body : ∀ (w : World) (s₀ s₁ s : Shared) (mg mb : Str → Option Value) (fa : Addr) (o : Obj) (pm cd doc : Value) (a : Addr) (vs : List Value) (ns : List Int),
      Ground q loose [] XP w s₀ mg mb s₁.heap → YP w s₁.heap →
      s₁.heap.get? fa = some o → o.data = .func (docDef d.name d.params d.body d.scope pm cd doc) → s₁.heap.CodeRec cd d.name → mg d.name = some (.ref fa) →
      s₁.heap.get? a = some { cls := .type "list", data := .seq vs.toArray } → IntsAre vs ns → ns.length ≤ n →
      s.gens = #[] → s.os = s₁.os →
      Fr s₁.heap s₁.heap.objs.size s.heap (bindL (envOfC d.name d.scope s₁.heap.objs.size fa cd).kindOf [(x, .ref a)] fun _ => none) →
      Cl s₁.heap.objs.size (cellsFrom (s₁.heap.objs.size + 1) d.scope.names []) s.heap (bindC (envOfC d.name d.scope s₁.heap.objs.size fa cd).kindOf [(x, .ref a)] fun _ => none) →
      wpAny (model l.prog w) (callerA.deeper (envOfC d.name d.scope s₁.heap.objs.size fa cd)) (execs d.body (envOfC d.name d.scope s₁.heap.objs.size fa cd))
        (fun f s' => f = .ret (.bool true) ∧ (∀ b o, s₁.heap.get? b = some o → s'.heap.get? b = some o) ∧ s'.os = s₁.os ∧ s'.gens = #[]) (fun _ _ => False) s) :
    WalkN q loose XP YP l.row.toRowW d [] (fun f vs => PySem.call f vs) := by
  intro w s₀ s₁ mg mb G Y fa o pm cd doc dV kV ho hd hcd hD hmg hg args vals as hpre hlay hrd hwl hlo
  obtain rfl : dV = .none := Dflts.none hD hdf
  obtain rfl : kV = .none := Dflts.noKw hD
  obtain ⟨a, vs, ns, rfl, rfl, hobj, hints, hlen⟩ := script_of hn hpre hwl
  refine enter_callW ?_
  refine call_cells_ret (o := o) (by rw [depth_caller]; decide) ho (fd_plain hd) G.T.nolimit hcd (hbind pm cd doc (.ref a)) (fun y hy => ?_) (fun h₁ tk F X => ?_) hco hgen hk
  · obtain rfl : y = (x, Value.ref a) := List.mem_singleton.mp hy
    rcases hx with e | e
    · exact .inl e
    · exact .inr ⟨e, cellsFrom_some _ _ _ (.inl e)⟩
  · refine wpAny_mono (body w s₀ s₁ { s₁ with heap := h₁, toks := tk } mg mb fa o pm cd doc a vs ns G Y ho (fd_plain hd) hcd hmg hobj hints hlen hg rfl F X) (fun f s' hq => ?_) (fun _ _ hq => hq)
    obtain ⟨rfl, h2, h3, h4⟩ := hq
    exact ⟨.inl ⟨.bool true, .bool true, [], rfl, fun _ => rfl, .bool true, post_true l _, fun _ => ⟨List.Pairwise.nil, fun _ hm => (nomatch hm)⟩⟩, h2, h3, h4⟩

/-! ### rules over ANY heap (no ledger) from facts about the written part K: the library's own take a ledger (News) for what they write -/
section
variable {prog : Program} {w : World} {A : Around} {E : Value → Shared → Prop} {s : Shared} {K : Frag}

/-- a def of the module, or a method (qual 'C.m'), entered: the frame is the next address; cells behind it -/
theorem call_fn {R : Result → Shared → Prop} {name qual : Str} {params : Arguments} {body : List Stmt} {scope : Scope} {dV kV doc pm cdv ct oc : Value} {an od : Option Addr} {osl : Array (Option Value)} {f : Addr} {args : Args} {binds : List (Str × Value)}
    (X : K.In s.heap) (hlim : s.heap.NoLimit) (ho : K.lookup f = some ⟨oc, od, .func (fnOf name qual params body scope dV kV doc pm an cdv ct), osl⟩) (hcd : codeIn K cdv qual = true) (hroom : A.depth < recursionLimit)
    (hbind : BindsTo s (fnOf name qual params body scope dV kV doc pm an cdv ct) args binds)
    (hkind : (binds.all fun y => scope.names.lookup y.1 == some .local || scope.names.lookup y.1 == some .cell) = true)
    (h : ∀ s₁, InCallC s s.heap.objs.size (bindL (envOfC qual scope s.heap.objs.size f cdv).kindOf binds fun _ => none) (cellsFrom (s.heap.objs.size + 1) scope.names [])
        (bindC (envOfC qual scope s.heap.objs.size f cdv).kindOf binds fun _ => none) s₁ →
      wpAny (model prog w) (A.deeper (envOfC qual scope s.heap.objs.size f cdv)) (execs body (envOfC qual scope s.heap.objs.size f cdv))
        (fun fl s' => R (.ok (.ret (match fl with | .ret v => v | _ => .none))) s')
        (fun e s' => wpAny (model prog w) (A.deeper (envOfC qual scope s.heap.objs.size f cdv)) (leaving (envOfC qual scope s.heap.objs.size f cdv) e) (fun _ s'' => R (.error e) s'') (fun e' s'' => R (.error e') s'') s') s₁)
    (hco : scope.isCoroutine = false) (hgen : scope.isGenerator = false) (hk : scope.kind = .function) : codeAny (model prog w) A (.call (.ref f) args) R s := by
  refine codeAny_call_function hroom (X _ _ ho) rfl hco hgen rfl (codeRec_of X hcd) (hbind _ _ _ _ ?_)
  refine wpAny_newFunctionEnv_cells hk (kindsX hkind _) fun env he s₁ x => ?_
  subst he
  exact ⟨hlim.keeps x.toInCall.keep, codeAny_func (h s₁ x)⟩

/-- C(..): dict at size, instance at size + 1, then __init__ -/
theorem make_obj {R : Result → Shared → Prop} {C fI : Addr} {rest : List Value} {kw : List (Str × Value)}
    (X : K.In s.heap) (hm : makesIn K C = true) (hi : findIn K (.ref C) "__init__" = some (some (.ref fI))) (hf : isFn K (.ref fI) = true)
    (h : codeAny (model prog w) (A.under (.builtin "type.__call__" ⟨.ref C :: rest, kw⟩)) (.call (.ref fI) ⟨.ref (s.heap.objs.size + 1) :: rest, kw⟩) (InitBack (s.heap.objs.size + 1) R)
      { s with heap := (s.heap.push emptyDict).push (instObj C s.heap.objs.size) }) : codeAny (model prog w) A (.call (.ref C) ⟨rest, kw⟩) R s := by
  obtain ⟨hh, g, d, t, os⟩ := s
  exact make_core (makes_of X hm) (looks_findIn X hi) (fun self => bind_fn X self (beq_iff_eq.mp hf)) (.inl rfl) h

/-- x.name where the instance's dict holds the name and the class does not -/
theorem get_field {x C : Addr} {ox : Obj} {es : List DictEntry} {n : Nat} {name : Str} {expr : Bool} {v : Value} {Q : Value → Shared → Prop}
    (X : K.In s.heap) (I : PySem.W.InstAt s.heap x ox C (some (dictOf es n))) (hg : plainGet K C name = true) (hh : hasDictIn K C = true) (ha : findIn K (.ref C) name = some none)
    (hl : getL name es = some (some v)) (hv : handedIn v = true) (h : Q v { s with toks := s.toks + 1 }) : wpAny (model prog w) A (getAttr (.ref x) name expr) Q E s :=
  get_value X I (plainGet_of hg).1 (findObj_own hh ha rfl hl) hv h

/-- x.m(..): the method found in the class -/
theorem get_method {x C f : Addr} {ox : Obj} {es : List DictEntry} {n : Nat} {name : Str} {pl : Sem Bool} {Q : Value × List Value → Shared → Prop}
    (X : K.In s.heap) (I : PySem.W.InstAt s.heap x ox C (some (dictOf es n))) (hg : plainGet K C name = true) (hf : findIn K (.ref C) name = some (some (.ref f))) (ht : isFn K (.ref f) = true)
    (hl : getL name es = some none) (h : Q (.ref f, [.ref x]) s) : wpAny (model prog w) A (getMethod (.ref x) name pl) Q E s :=
  method_fn X I (plainGet_of hg).1 (plainGet_of hg).2 hf (beq_iff_eq.mp ht) (by show (lookIn name (dictOf es n)).map _ = _; rw [lookIn_dict, hl]; rfl) h

/-! the whole heap as the ledger: makes every rule that writes through a ledger a rule over any heap -/
def noObjs (h : Heap) : Heap := { h with objs := #[] }
theorem noObjs_get (h : Heap) (b : Addr) : (noObjs h).get? b = none := by
  cases e : (noObjs h).get? b with
  | none => rfl
  | some o => exact absurd (Heap.lt_size e) (Nat.not_lt_zero _)
def ledger (h : Heap) (L d : Addr) : List (Addr × Obj) := (List.range h.objs.size).filterMap fun a => if a = L ∨ a = d then none else (h.get? a).map fun o => (a, o)
theorem mem_ledger {h : Heap} {L d a : Addr} {o : Obj} : (a, o) ∈ ledger h L d ↔ a ≠ L ∧ a ≠ d ∧ h.get? a = some o := by
  unfold ledger
  rw [List.mem_filterMap]
  constructor
  · rintro ⟨b, _, e⟩
    split at e
    · cases e
    · rename_i hb
      obtain ⟨o', ho, e'⟩ := Option.map_eq_some_iff.mp e
      cases e'
      exact ⟨fun q => hb (.inl q), fun q => hb (.inr q), ho⟩
  · rintro ⟨n1, n2, ho⟩
    refine ⟨a, List.mem_range.mpr (Heap.lt_size ho), ?_⟩
    rw [if_neg (show ¬ (a = L ∨ a = d) from fun q => q.elim n1 n2), ho] <;> rfl
theorem news_ledger {h : Heap} {L d : Addr} {od : Obj} (hne : d ≠ L) (ho : h.get? d = some od) : News (noObjs h) L h ([] ++ (d, od) :: ledger h L d) := by
  rintro ⟨a, o⟩ hp
  rcases List.mem_cons.mp hp with e | hp
  · cases e
    exact ⟨ho, hne, noObjs_get _ _⟩
  · obtain ⟨n1, n2, e⟩ := mem_ledger.mp hp
    exact ⟨e, n1, noObjs_get _ _⟩
theorem fr_all {h : Heap} {L : Addr} {m : Str → Option Value} (n : h.Ns L m) : Fr (noObjs h) L h m :=
  ⟨n, fun b o e => (by rw [noObjs_get] at e; cases e), Nat.zero_le _⟩
/-- Upd of the head entry (for append_K, setItem_K ..) -/
theorem upd_ledger {h : Heap} {L d : Addr} {o o' : Obj} : Upd d o o' ((d, o) :: ledger h L d) ((d, o') :: ledger h L d) :=
  .head fun ⟨_, _⟩ hp => (mem_ledger.mp hp).2.1

/-- x.name = v over any heap: L is any namespace of the heap (the frame's, say): its map stays, its object is not told; all else but the dict stays -/
theorem set_field {x C dx L : Addr} {ox : Obj} {m : Str → Option Value} {es es' : List DictEntry} {n n' : Nat} {name : Str} {v : Value} {Q : Unit → Shared → Prop}
    (X : K.In s.heap) (I : PySem.W.InstAt s.heap x ox C (some (dictOf es n))) (hd : ox.dict = some dx) (hL : s.heap.Ns L m) (hne : dx ≠ L)
    (hs : findIn K (.ref C) "__setattr__" = some (some (.builtin "object.__setattr__"))) (hp : plainOver K C = true) (ht : takerIn K C name = some none) (hh : hasDictIn K C = true) (hl : (getL name es).isSome = true)
    (e : (putL name (PyData.keyHash w.params name) (.str name (s.toks + 1)) v es, putN name es n) = (es', n')) (hz : es'.length ≤ 1000)
    (h : ∀ h' : Heap, h'.Ns L m → h'.get? dx = some (dictOf es' n') → (∀ b o, b ≠ dx → b ≠ L → s.heap.get? b = some o → h'.get? b = some o) → Q () { s with heap := h', toks := s.toks + 2 }) :
    wpAny (model prog w) A (setAttr (.ref x) name v) Q E s := by
  obtain ⟨e1, e2⟩ := Prod.mk.inj e
  have hdx : s.heap.get? dx = some (dictOf es n) := by
    have := I.dict
    rw [hd] at this
    exact this
  refine set_plain X I hs (osa_dict (s := { s with toks := s.toks + 1 }) (h₀ := noObjs s.heap) (L := L) (m := m) (od := dictOf es n) (od' := dictOf es' n') (es := es') (n := n') (pre := []) (post := ledger s.heap L dx)
    (fr_all hL) (news_ledger hne hdx) X I hd hp ht hh hl (fun _ q => nomatch q) (fun ⟨_, _⟩ q => (mem_ledger.mp q).2.1) (by rw [putName_dict, e1, e2]) rfl hz fun h' F' N' => ?_)
  exact h h' F'.ns (N'.get (List.Mem.head _)) fun b o n1 n2 ho => N'.get (List.Mem.tail _ (mem_ledger.mpr ⟨n2, n1, ho⟩))
end
end Att

namespace L2
open PySem PySem.Spec PyProof.Rows

theorem vals_ints : ∀ {vs : List Value} {ns : List Int}, IntsAre vs ns → Vals (ns.map V.int) vs
  | _, _, .nil => .nil
  | _, _, .cons n t h => .cons ⟨t, rfl⟩ (vals_ints h)

/-- nothing is tracked but the script, known to the object (or it is an object of the module) -/
def Only (H : Hp) : Prop := ∀ b, H b = none ∨ ∃ o xs, H b = some (.frz o (.lst xs))

/-- THE HEAD: the law's promise, at the heap behind the top. F, the promise of the law's def, may use that base is part of the heap (so K.In base, base.Ns mainGlobals mg stand in Mod) -/
theorem law_call {P : Program} {w : World} {K : PySem.W.Frag} {mg mb : Str → Option Value} {CX : CXT} {k : Nat} {fa a : Addr} {fd : FuncData} {x : Str} {sp : Sp} {s₁ : Shared} {vs : List Value} {ns : List Int}
    (KX : K.In s₁.heap) (hns : s₁.heap.Ns mainGlobals mg) (hb : s₁.heap.Ns builtinsNs mb) (hbb : ∀ x : Str, x ≠ "__name__" → mb x = bootBuiltins x) (hlim : s₁.heap.NoLimit) (hg : s₁.gens = #[])
    (ha : s₁.heap.get? a = some { cls := .type "list", data := .seq vs.toArray }) (hi : IntsAre vs ns) (hl : ns.length ≤ sizeLine) (hr : Room k callerA)
    (F : ∀ base : Heap, K.In base → base.Ns mainGlobals mg → FnOk P w K mg base CX k fa fd [x] sp) (hbind : ∀ (s : Shared) (u : Value), BindsTo s fd ⟨[u], []⟩ [(x, u)])
    (hsp : ∀ H : Hp, Only H → SqL K H a (ns.map V.int) → sp [.ref a] H (fun v _ => v = .bl true) fun _ _ _ => False)
    (hCX : ∀ H e s', CX [] H s₁ (fun _ _ _ => False) e s' → False) :
    codeAny (model P w) callerA (.call (.ref fa) ⟨[.ref a], []⟩) (fun r s' => r = .ok (.ret (.bool true)) ∧ OldK s₁.heap s'.heap ∧ s'.os = s₁.os ∧ AllBare s'.gens) s₁ := by
  have rv := vals_ints hi
  have lenV := hi.length
  -- from an abstract heap in which nothing but the script may be tracked
  have core : ∀ H : Hp, Only H → SqL K H a (ns.map V.int) → HOk P w H s₁.heap → (∀ b, H b ≠ none → b = a) → (H a ≠ none → K.lookup a = none) →
      codeAny (model P w) callerA (.call (.ref fa) ⟨[.ref a], []⟩) (fun r s' => r = .ok (.ret (.bool true)) ∧ OldK s₁.heap s'.heap ∧ s'.os = s₁.os ∧ AllBare s'.gens) s₁ := by
    intro H hO hS hok hA hK
    have base_of : ∀ {b : Addr} {o : Obj}, s₁.heap.get? b = some o → H b = none → (hidT s₁.heap H).get? b = some o := fun e n => hidT_get e n
    have noA : ∀ {b : Addr} {o : Obj} {es : Array DictEntry} {ep : Nat}, s₁.heap.get? b = some o → o.data = .dict es ep → H b = none := fun {b o es ep} e d => by
      cases q : H b with
      | none => rfl
      | some u =>
        have e' : b = a := hA b (by rw [q]; simp)
        subst e'
        rw [ha] at e; cases e
        have d' : Data.seq vs.toArray _ = Data.dict es ep := d
        cases d'
    have nsK : ∀ {b : Addr} {m : Str → Option Value}, s₁.heap.Ns b m → (hidT s₁.heap H).Ns b m := fun {b m} ⟨o, es, ep, e, d, r⟩ => ⟨o, es, ep, base_of e (noA e d), d, r⟩
    have hKb : K.In (hidT s₁.heap H) := fun b o e => base_of (KX b o e) (by
      cases q : H b with
      | none => rfl
      | some u =>
        have e' : b = a := hA b (by rw [q]; simp)
        subst e'
        rw [hK (by rw [q]; simp)] at e; cases e)
    have hM : Mod K mg (hidT s₁.heap H) := ⟨hKb, nsK hns, ⟨mb, nsK hb, hbb⟩, let ⟨mc, h1, h2⟩ := hlim; ⟨mc, nsK h1, h2⟩⟩
    have e0 : Env0 P w K mg (hidT s₁.heap H) callerA [] s₁ H := ⟨rfl, hM, fun b o e => of_hidT e, Nat.le_of_eq (hidT_size _ _), trivial, fun b hb => absurd (show b ∈ ([] : List Addr) from hb) (by simp), hok, .of_eq hg⟩
    refine codeAny_mono ((F _ hKb (nsK hns)).run callerA [] s₁ H ⟨[.ref a], []⟩ [.ref a] [.ref a] _ _ hr e0 (hbind s₁ (.ref a)) (.cons rfl .nil) (hsp H hO hS)) fun r s' h => ?_
    cases r with
    | error e => exact (hCX H e s' h).elim
    | ok fl =>
      cases fl with
      | next => exact False.elim h
      | brk => exact False.elim h
      | cont => exact False.elim h
      | ret u =>
        obtain ⟨v, H', os, bare, un, hok', r', q⟩ := h
        have q' : v = .bl true := q
        subst q'
        obtain rfl : u = Value.bool true := r'
        refine ⟨rfl, OldK.of_keep fun b o e => ?_, os, bare⟩
        cases q : H b with
        | none => exact un.keep b o e q (by intro z; exact absurd (show b ∈ ([] : List Addr) from z) (by simp)) (by simp)
        | some u =>
          rcases hO b with z | ⟨ob, xs, z⟩
          · rw [q] at z; cases z
          · have z2 := un.frzs b ob _ z
            obtain ⟨e1, _⟩ := hok b _ z
            obtain ⟨e2, _⟩ := hok' b _ z2
            rw [e] at e1; cases e1
            exact e2
  cases hk : K.lookup a with
  | some o =>
    -- the script is one of the module's own objects
    have e := KX a o hk
    rw [ha] at e
    cases e
    refine core (fun _ => none) (fun _ => .inl rfl) (.inr ⟨_, vs.toArray, _, hk, rfl, rfl, rfl, by rw [List.size_toArray, lenV]; exact hl, by simpa using rv⟩) (fun b u z => by have z' : (none : Option HO) = some u := z; cases z') (fun b z => absurd rfl z) fun z => absurd rfl z
  | none =>
    refine core (fun b => if b = a then some (.frz { cls := .type "list", data := .seq vs.toArray } (.lst (ns.map V.int))) else none) (fun b => ?_) (.inl (.inr ⟨{ cls := .type "list", data := .seq vs.toArray }, if_pos rfl⟩)) (fun b u z => ?_) (fun b z => ?_) fun _ => hk
    · by_cases hb : b = a
      · exact .inr ⟨_, _, if_pos hb⟩
      · exact .inl (if_neg hb)
    · by_cases hb : b = a
      · have z' := (if_pos hb).symm.trans z
        cases z'
        subst hb
        exact ⟨ha, by rw [List.length_map]; exact hl, vs, _, rv, ha⟩
      · have z' := (if_neg hb).symm.trans z
        cases z'
    · by_cases hb : b = a
      · exact hb
      · exact absurd (if_neg hb) z
end L2

namespace L2
open PySem PySem.Spec PyProof.Rows

abbrev KOf {K : PySem.W.Frag} {h : Heap} (_ : K.In h) : PySem.W.Frag := K

/-- the goal that k_head leaves (case hc), from the law's promise. F gives the function object fd (K's own) once, then the promise over every base -/
theorem walk_of {l : PySem.W.OpenLaw} {n k : Nat} {q : Program} {loose : List Str} {XP : (Str → Option Value) → Heap → Prop} {YP : World → Heap → Prop} {d : DefRec} {K : Params → PySem.W.Frag} {CX : World → CXT} {sp : World → Sp} {x : Str}
    (hn : l.most = some n) (hn2 : n ≤ sizeLine) (hdf : d.params.defaults = []) (hr : Room k callerA)
    (hY : ∀ (w : World) (h : Heap), YP w h → (K w.params).In h)
    (F : ∀ (w : World) (mg : Str → Option Value) (fa : Addr) (h : Heap), (K w.params).In h → h.Ns mainGlobals mg → mg d.name = some (.ref fa) →
      ∃ fd : FuncData, (∀ (s : Shared) (u : Value), BindsTo s fd ⟨[u], []⟩ [(x, u)]) ∧
        ∀ base : Heap, (K w.params).In base → base.Ns mainGlobals mg → FnOk l.prog w (K w.params) mg base (CX w) k fa fd [x] (sp w))
    (hsp : ∀ (w : World) (H : Hp) (a : Addr) (ns : List Int), ns.length ≤ n → Only H → SqL (K w.params) H a (ns.map V.int) → sp w [.ref a] H (fun v _ => v = .bl true) fun _ _ _ => False)
    (hCX : ∀ (w : World) (H : Hp) (s : Shared) (e : Value) (s' : Shared), CX w [] H s (fun _ _ _ => False) e s' → False) :
    PySem.W.WalkO q loose XP YP l.row.toRowW d [] (fun f vs => PySem.call f vs) := by
  refine Att.attach_call hn hdf fun w s₀ s₁ mg mb fa o pm cd doc a vs ns G Y ho hd hcd hmg hobj hints hlen hg => ?_
  have KX := hY w _ Y
  obtain ⟨fd, hb, hF⟩ := F w mg fa _ KX G.T.g hmg
  exact law_call KX G.T.g G.T.b G.T.builtins G.T.nolimit hg hobj hints (Nat.le_trans hlen hn2) hr hF hb (fun H hO hS => hsp w H a ns hlen hO hS) fun H e s' => hCX w H s₁ e s'
/-- the same where the promise hangs on the written part alone: (sp := My.sp_law), no hole under a binder -/
theorem walk_ofK {l : PySem.W.OpenLaw} {n k : Nat} {q : Program} {loose : List Str} {XP : (Str → Option Value) → Heap → Prop} {YP : World → Heap → Prop} {d : DefRec} {K : Params → PySem.W.Frag} {CX : CXT} {sp : PySem.W.Frag → Sp} {x : Str}
    (hn : l.most = some n) (hn2 : n ≤ sizeLine) (hdf : d.params.defaults = []) (hr : Room k callerA)
    (hY : ∀ (w : World) (h : Heap), YP w h → (K w.params).In h)
    (F : ∀ (w : World) (mg : Str → Option Value) (fa : Addr) (h : Heap), (K w.params).In h → h.Ns mainGlobals mg → mg d.name = some (.ref fa) →
      ∃ fd : FuncData, (∀ (s : Shared) (u : Value), BindsTo s fd ⟨[u], []⟩ [(x, u)]) ∧
        ∀ base : Heap, (K w.params).In base → base.Ns mainGlobals mg → FnOk l.prog w (K w.params) mg base CX k fa fd [x] (sp (K w.params)))
    (hsp : ∀ (K : PySem.W.Frag) (H : Hp) (a : Addr) (ns : List Int), ns.length ≤ n → Only H → SqL K H a (ns.map V.int) → sp K [.ref a] H (fun v _ => v = .bl true) fun _ _ _ => False)
    (hCX : ∀ (H : Hp) (s : Shared) (e : Value) (s' : Shared), CX [] H s (fun _ _ _ => False) e s' → False) :
    PySem.W.WalkO q loose XP YP l.row.toRowW d [] (fun f vs => PySem.call f vs) :=
  walk_of (K := K) (CX := fun _ => CX) (sp := fun w => sp (K w.params)) hn hn2 hdf hr hY F (fun w H a ns h1 h2 h3 => hsp (K w.params) H a ns h1 h2 h3) fun _ H s e s' => hCX H s e s'
end L2

/- THE LAST THEOREM (shape; LID, My.* are yours):
   My.Adr: a structure of the addresses that your layer names (classes, functions); My.Txt K t: a structure (Prop) of the equations over K;
   My.txt_mk : {K} {implicit addresses ..} (e1 : nsIn K mainGlobals "law" = some (some (.ref f))) (e2 : K.lookup f = some ⟨oc, od, .func (fnOf "law" "law" params body scope dV kV doc pm an cdv ct), sl⟩) (e3 : codeIn K cdv "law" = true) .. : ∃ t, My.Txt K t

set_option maxRecDepth 100000 in
set_option maxHeartbeats 0 in
theorem PySem.Challenge.cw_LID_holds : PySem.Challenge.rw_LID.Holds := by
  w_on; o_law; k_head; (case hw => w_witness2)
  k_fill
  refine L2.walk_of (l := PySem.Challenge.rw_LID) (n := 63) (k := 40) (x := "script") (CX := fun w => ..) (sp := fun _ => My.sp_law) rfl (by decide) rfl ⟨rfl, by decide, by decide⟩ (fun w h Y => PySem.W.kIn_of Y) ?F ?S ?C
  case F =>
    intro w mg fa h KX G hmg
    have T : ∃ t, My.Txt (L2.KOf KX) t := by
      dsimp only [L2.KOf]                          -- K must stand as «<heap const> w.params» for k_is
      refine' My.txt_mk ?e1 ?e2 ?e3 ..
      (case e1 => PySem.W.k_is)                    -- in the order: a name -> its address -> its object -> its parts
      (case e2 => PySem.W.k_is)
      ..
    obtain ⟨t, T⟩ := T
    have e0 := hmg.symm.trans (PySem.W.mg_of KX G T.law)
    cases e0                                       -- fa is the law's own address
    exact ⟨_, fun s u => .of_eq rfl, fun base kb nb => My.law_fn T kb nb⟩     -- if «.of_eq rfl» comes too early: refine' ⟨_, ?b, fun base kb nb => My.law_fn T kb nb⟩; exact fun s u => .of_eq rfl
  case S => exact fun w H a ns hl hO hS => ..
  case C => exact ..
(the tactic k_is has no namespace: write k_is) -/

/-! SHORT WORDS over the layer: a def of the text, its body, what a loop and a test want. -/
namespace L2
open PySem PySem.Spec PyProof.Rows

/-! ### the text by places -/
/-- the j-th statement of a class's body -/
def inClass (s : Stmt) (j : Nat) : Stmt := match s with
  | .ClassDef _ _ _ body _ _ _ _ _ _ _ => body.getD j (.Pass ⟨0, 0, 0, 0⟩)
  | _ => .Pass ⟨0, 0, 0, 0⟩
def defArgs (s : Stmt) : Arguments := match s with
  | .FunctionDef _ a _ _ _ _ _ _ _ _ => a
  | _ => { posonlyargs := [], args := [], vararg := none, kwonlyargs := [], kw_defaults := [], kwarg := none, defaults := [] }
def defBody (s : Stmt) : List Stmt := match s with
  | .FunctionDef _ _ b _ _ _ _ _ _ _ => b
  | _ => []
def defScope (s : Stmt) : Scope := match s with
  | .FunctionDef _ _ _ _ _ _ sc _ _ _ => sc
  | _ => { kind := .function, names := [], isGenerator := false, isCoroutine := false }

/-! ### no exception leaves a def -/
abbrev CX0 : CXT := fun _ _ _ _ _ _ => False
abbrev E0 : XK := fun _ _ _ => False
theorem pass0 {X : Cx} : Passes CX0 X E0 := fun _ _ _ _ _ _ _ h => h.elim

/-! ### a def (or method) of the text as it stands behind the top -/
structure Fun (K : PySem.W.Frag) (x qual : Str) (st : Stmt) (f : Addr) (fd : FuncData) : Prop where
  ex : ∃ (oc : Value) (od : Option Addr) (kV doc pm : Value) (an : Option Addr) (cdv ct : Value) (osl : Array (Option Value)),
    fd = PySem.W.fnOf x qual (defArgs st) (defBody st) (defScope st) .none kV doc pm an cdv ct ∧ K.lookup f = some ⟨oc, od, .func fd, osl⟩ ∧ PySem.W.codeIn K cdv qual = true
  kp : PySem.W.keepIn K (.ref f) = true
section
variable {P : Program} {w : World} {K : PySem.W.Frag} {mg : Str → Option Value} {base : Heap}
/-- THE RULE for a def: its body as a term of rules, and the reading of that term -/
theorem Fun.ok {x qual : Str} {st : Stmt} {f : Addr} {fd : FuncData} {N ps : List Str} {k : Nat} {sp : Sp} (F : Fun K x qual st f fd) (S : FnScope N ps (defScope st)) (len : ∀ vs H Q E, sp vs H Q E → vs.length = ps.length)
    (hbody : ∀ (cdv : Value) (A : Around) (outer : List Env) (s : Shared) (H : Hp) (vs : List V) (Q : VK) (E : XK), Room k (A.deeper (envOfC qual (defScope st) s.heap.objs.size f cdv)) → sp vs H Q E →
      ∃ t, PSs (cxOf CX0 P w K mg base N qual (defScope st) f cdv A outer s H E).nox (defBody st) t ∧ t { nx := fun _ H' => Q .non H', rt := Q } (start N vs) H) : FnOk P w K mg base CX0 (k + 1) f fd ps sp := by
  obtain ⟨oc, od, kV, doc, pm, an, cdv, ct, osl, rfl, lk, hcd⟩ := F.ex
  refine fn_of lk hcd S len fun A outer s H vs Q E hr hsp => ?_
  obtain ⟨t, h, q⟩ := hbody cdv A outer s H vs Q E hr hsp
  exact ⟨t, h.nox, q⟩
/-- how its arguments bind (no defaults): h is «fun _ _ _ _ _ _ us hl => match us, hl with | [_, _], _ => rfl», one _ a parameter -/
theorem Fun.binds {x qual : Str} {st : Stmt} {f : Addr} {fd : FuncData} {ps : List Str} (F : Fun K x qual st f fd)
    (h : ∀ (kV doc pm : Value) (an : Option Addr) (cdv ct : Value) (us : List Value), us.length = ps.length → bindArgs (PySem.W.fnOf x qual (defArgs st) (defBody st) (defScope st) .none kV doc pm an cdv ct) ⟨us, []⟩ = pure (ps.zip us)) : Binds K fd ps [] := by
  obtain ⟨oc, od, kV, doc, pm, an, cdv, ct, osl, rfl, lk, hcd⟩ := F.ex
  exact .all (h kV doc pm an cdv ct)
theorem fun_mk {x qual : Str} {st : Stmt} {f : Addr} {oc : Value} {od an : Option Addr} {osl : Array (Option Value)} {kV doc pm cdv ct : Value} (l : K.lookup f = some ⟨oc, od, .func (PySem.W.fnOf x qual (defArgs st) (defBody st) (defScope st) .none kV doc pm an cdv ct), osl⟩)
    (c : PySem.W.codeIn K cdv qual = true) (k : PySem.W.keepIn K (.ref f) = true) : Fun K x qual st f (PySem.W.fnOf x qual (defArgs st) (defBody st) (defScope st) .none kV doc pm an cdv ct) := ⟨⟨oc, od, kV, doc, pm, an, cdv, ct, osl, rfl, l, c⟩, k⟩
end
theorem hu_of {A : Around} {k : Nat} (hr : Room k A) : A.units + 1 < cLine := Nat.lt_of_le_of_lt (Nat.add_le_add_left (by decide : 1 ≤ 64) _) hr.units
theorem small1000 {n : Nat} (h : n ≤ 1000) : n < sizeLine := Nat.lt_of_le_of_lt h (by decide)

/-! ### expressions in short: the name that stands in the i-th slot -/
section
variable {X : Cx}
theorem pv (i : Nat) {x : Str} {pos : Pos} (hN : X.N[i]? = some x := by rfl) (hv : Vis X.env.scope x := by first | exact Or.inl rfl | exact Or.inr (Or.inl rfl) | exact Or.inr (Or.inr rfl)) (hd : (x == ("__debug__" : Str)) = false := by decide)
    (hcd : (x == ("__classdict__" : Str)) = false := by decide) : PE X (.Name x pos) (tVar i) := pe_var hN hv hd hcd
end

/-! ### tests -/
theorem iteF {A B : Prop} (h : B) : if false = true then A else B := by
  rw [if_neg Bool.false_ne_true]
  exact h
theorem iteT {A B : Prop} (h : A) : if true = true then A else B := by
  rw [if_pos rfl]
  exact h
theorem ite2 {c A B : Prop} [Decidable c] (h1 : c → A) (h2 : ¬ c → B) : if c then A else B := by
  by_cases h : c
  · rw [if_pos h]
    exact h1 h
  · rw [if_neg h]
    exact h2 h
theorem iteNS {c A B : Prop} [Decidable c] (hc : c) (h : B) : if (!decide c) = true then A else B := by
  rw [decide_eq_true hc]
  exact iteF h

/-! ### heaps -/
/-- all that was tracked is as it was -/
def Same (H H' : Hp) : Prop := ∀ b o, H b = some o → H' b = some o
theorem Same.refl (H : Hp) : Same H H := fun _ _ h => h
theorem Same.trans {H H1 H2 : Hp} (a : Same H H1) (b : Same H1 H2) : Same H H2 := fun c o h => b c o (a c o h)
theorem Same.free {H H' : Hp} (e : Same H H') {l : Addr} (h : H' l = Option.none) : H l = Option.none := by
  cases q : H l with
  | none => rfl
  | some o =>
    rw [e l o q] at h
    cases h
theorem Same.seq {K : PySem.W.Frag} {H H' : Hp} {a : Addr} {xs : List V} (e : Same H H') (h : SqL K H a xs) : SqL K H' a xs := by
  rcases h with (h | ⟨o, h⟩) | h
  · exact .inl (.inl (e _ _ h))
  · exact .inl (.inr ⟨o, e _ _ h⟩)
  · exact .inr h

end L2

set_option Elab.async false
set_option linter.all false
set_option maxRecDepth 100000
/-! THE COMPREHENSION over the hand layer -/
namespace L2
open PySem PySem.Spec PyProof.Rows

/-- the loop of a list comprehension, any target -/
theorem compLoop_any {prog : Program} {w : World} {A : Around} {R : Result → Shared → Prop} {s : Shared} {elt target iter : Expr} {ifs : List Expr} {scope : Scope} {pos : Pos} {it acc : Value} {env : Env} (I : Nat → Shared → Prop)
    (turn : ∀ n s, I n s → wpAny (model prog w) A (pyNext it) (fun r s₁ => match r with
      | none => R (.ok .next) s₁
      | some v => wpAny (model prog w) A (letOwnedTupleGo target it v) (fun _ s₁' => wpAny (model prog w) A (assign target env v) (fun _ s₂ =>
          wpAny (model prog w) A (forIn ifs true fun c r => if r = true then do let ok ← isTrue c env (eval c env); pure (ForInStep.yield ok) else pure (ForInStep.yield r)) (fun ok s₃ =>
            if ok = true then wpAny (model prog w) A (eval elt env) (fun x s₄ =>
              wpAny (model prog w) A (call (.builtin "list.append") [acc, x]) (fun _ s₅ => ∃ m, m < n ∧ I m s₅) (notedBy (model prog w) A env fun e s' => R (.error e) s') s₄) (notedBy (model prog w) A env fun e s' => R (.error e) s') s₃
            else ∃ m, m < n ∧ I m s₃) (notedBy (model prog w) A env fun e s' => R (.error e) s') s₂) (notedBy (model prog w) A env fun e s' => R (.error e) s') s₁') (notedBy (model prog w) A env fun e s' => R (.error e) s') s₁) (notedBy (model prog w) A env fun e s' => R (.error e) s') s)
    (n : Nat) (h : I n s) :
    codeAny (model prog w) A (.compLoop (.ListComp elt [⟨target, iter, ifs, 0⟩] scope pos) 0 it acc env) R s := by
  refine codeAny_loop rfl I (fun n s hI => ?_) n h
  show wpAny _ A ((compTurn (.ListComp elt [⟨target, iter, ifs, 0⟩] scope pos) 0 it acc env).onRaise (fun x => do noteFrame x env; theTreesLotGoes x)) _ _ s
  refine wpAny_noted ?_
  rw [compTurn_list]
  refine wpAny_bind (wpAny_standAt (wpAny_bind (wpAny_mono (turn n s hI) (fun r s₁ h₁ => ?_) fun _ _ h' => h')))
  cases r with
  | none => exact wpAny_pure h₁
  | some v =>
    refine wpAny_bind (wpAny_mono h₁ (fun _ s₁' h₁' => ?_) fun _ _ h' => h')
    refine wpAny_bind (wpAny_mono h₁' (fun _ s₂ h₂ => wpAny_bind (wpAny_mono h₂ (fun ok s₃ h₃ => ?_) fun _ _ h' => h')) fun _ _ h' => h')
    cases ok with
    | false => exact wpAny_pure ⟨rfl, h₃⟩
    | true =>
      exact wpAny_bind (wpAny_bind (wpAny_mono h₃ (fun x s₄ h₄ => wpAny_bind (wpAny_mono h₄ (fun _ s₅ h₅ => wpAny_pure (wpAny_pure ⟨rfl, h₅⟩)) fun _ _ h' => h')) fun _ _ h' => h'))

/-- the tests of a comprehension's clause: none, or one -/
structure PTs (X : Cx) (ifs : List Expr) (t : TT) : Prop where
  run : ∀ (pins : List (Addr × Obj)) (s : Shared) (σ : St) (H : Hp) (Q : Bool → Hp → Prop), Inv X pins σ H s → t σ H Q →
    wpAny (model X.prog X.w) X.A (forIn ifs true fun c r => if r = true then do let ok ← isTrue c X.env (eval c X.env); pure (ForInStep.yield ok) else pure (ForInStep.yield r)) (TP X pins σ Q) X.xe s
instance {X : Cx} {ifs : List Expr} {t : TT} : CoeFun (PTs X ifs t) fun _ => ∀ (pins : List (Addr × Obj)) (s : Shared) (σ : St) (H : Hp) (Q : Bool → Hp → Prop), Inv X pins σ H s → t σ H Q → wpAny (model X.prog X.w) X.A (forIn ifs true fun c r => if r = true then do let ok ← isTrue c X.env (eval c X.env); pure (ForInStep.yield ok) else pure (ForInStep.yield r)) (TP X pins σ Q) X.xe s := ⟨PTs.run⟩
def tTrue : TT := fun _ H Q => Q true H
theorem pts_nil {X : Cx} : PTs X [] tTrue := .mk fun _ _ _ H _ I h => wpAny_tests_nil ⟨H, I, h⟩
theorem pts_one {X : Cx} {c : Expr} {t : TT} (h : PT X c t) : PTs X [c] t := .mk fun pins s σ H Q I q => wpAny_tests_one (h pins s σ H Q I q)

/-- the context of a comprehension's block -/
def compCx (X : Cx) (Nc : List Str) (scope : Scope) (cl : List (Str × Addr)) (C : Addr) (s : Shared) (H : Hp) (fp : List Addr) (E : Value → Shared → Prop) : Cx where
  prog := X.prog
  w := X.w
  K := X.K
  mg := X.mg
  base := X.base
  A := X.A
  N := Nc
  s₀ := s
  H₀ := H
  env := compEnvC scope cl C X.env
  outer := X.stack
  stack := X.stack
  ex := fp
  calm := X.calm
  fn := fun _ => false
  pn := []
  xe := E

/-- a name of the def that the block reads: slot j, a cell -/
def CapOk (X : Cx) (scope : Scope) (cl : List (Str × Addr)) (j : Nat) (x : Str) : Prop :=
  X.N[j]? = some x ∧ Vis X.env.scope x ∧ X.env.kindOf x ≠ some .local ∧ (relabel scope X.env).names.lookup x ≠ some .local ∧ ((relabel scope X.env).names.lookup x = some .cell ∨ (relabel scope X.env).names.lookup x = some .free)
/-- what a comprehension's scope must be -/
structure CompOk (X : Cx) (scope : Scope) (cl : List (Str × Addr)) (own : List Str) (cap : List (Nat × Str)) : Prop where
  clos : closureFor scope X.env = pure cl
  cell : ∀ y ∈ scope.names, y.2 ≠ .cell
  kind : scope.kind = .function
  names : ∀ y ∈ scope.names, y.2 = .local → scope.names.lookup y.1 = some .local
  sub : ∀ x c, cl.lookup x = some c → X.env.cells.lookup x = some c
  has : ∀ p ∈ (relabel scope X.env).names, p.2 = .cell ∨ p.2 = .free → (cl.lookup p.1).isSome = true
  caps : ∀ p ∈ cap, CapOk X scope cl p.1 p.2

def compSt (own : List Str) (cap : List (Nat × Str)) (σ : St) : St := List.replicate own.length none ++ cap.map fun p => (σ[p.1]?).getD none

theorem lookup_mem {α : Type} : ∀ {l : List (Str × α)} {n : Str} {c : α}, l.lookup n = some c → (n, c) ∈ l := fun h => mem_of_lookup h

section
variable {X : Cx} {pins : List (Addr × Obj)} {σ : St} {H : Hp} {s : Shared} {scope : Scope} {cl : List (Str × Addr)} {own : List Str} {cap : List (Nat × Str)} {fp : List Addr} {E : Value → Shared → Prop}

theorem CompOk.hasX (c : CompOk X scope cl own cap) (x : Str) (h : (relabel scope X.env).names.lookup x = some .cell ∨ (relabel scope X.env).names.lookup x = some .free) : ∃ a, cl.lookup x = some a := by
  have : (cl.lookup x).isSome = true := by
    rcases h with h | h
    · exact c.has (x, .cell) (lookup_mem h) (.inl rfl)
    · exact c.has (x, .free) (lookup_mem h) (.inr rfl)
  exact Option.isSome_iff_exists.mp this

theorem comp_ok (c : CompOk X scope cl own cap) (I : Inv X pins σ H s) (hf : ∀ b ∈ fp, FpOk X pins H b) (hlt : ∀ b ∈ fp, b < s.heap.objs.size) {C : Addr} (hC : s.heap.objs.size ≤ C) :
    (compCx X (own ++ cap.map (·.2)) scope cl C s H fp E).Ok where
  mod := I.ok.mod
  kind := c.kind
  glob := I.ok.glob
  blt := I.ok.blt
  above := hC
  inj := fun x y a h1 h2 => I.ok.inj x y a (c.sub x a h1) (c.sub y a h2)
  has := fun x h => c.hasX x h
  cab := fun x a h => absurd h (by intro z; exact Bool.noConfusion z)
  hd := I.ok.hd
  frames := I.ok.frames
  stk := .inl rfl
  exf := fun b hb => ⟨fun z => by
      have := hlt b hb
      rw [z] at this
      exact absurd (Nat.lt_of_lt_of_le this hC) (Nat.lt_irrefl _), fun x a h => (hf b hb).2.2.2.2.1 x a (c.sub x a h)⟩
  bs := I.bs
  bsz := Nat.le_trans I.ok.bsz I.sz
  noex := fun b o e hb => by
    rcases (hf b hb).2.2.2.1 with z | z
    · exact I.ok.noex b o e z
    · exact absurd (Nat.lt_of_lt_of_le (Heap.lt_size (I.ok.bs b o e).1) z) (Nat.lt_irrefl _)
  exfs := fun b hb hs => by
    rcases List.mem_cons.mp (I.stkSub b hs) with z | z
    · exact (hf b hb).2.1 z
    · exact (hf b hb).2.2.1 z
  funs := I.stack
  frf := I.stkFree

theorem compSt_get {own : List Str} {cap : List (Nat × Str)} {σ : St} {i : Nat} {x : Str} {v : V} (h1 : (own ++ cap.map (·.2))[i]? = some x) (h2 : (compSt own cap σ)[i]? = some (some v)) : ∃ p ∈ cap, p.2 = x ∧ σ[p.1]? = some (some v) := by
  unfold compSt at h2
  by_cases hi : i < own.length
  · rw [List.getElem?_append_left (by simpa using hi), List.getElem?_replicate] at h2
    split at h2 <;> cases h2
  · rw [List.getElem?_append_right (by simpa using hi)] at h2 h1
    rw [List.length_replicate, List.getElem?_map] at h2
    rw [List.getElem?_map] at h1
    cases e : cap[i - own.length]? with
    | none => rw [e] at h2; cases h2
    | some p =>
      rw [e] at h1 h2
      refine ⟨p, List.mem_of_getElem? e, Option.some.inj h1, ?_⟩
      have h3 : (σ[p.1]?).getD none = some v := Option.some.inj h2
      cases q : σ[p.1]? with
      | none => rw [q] at h3; cases h3
      | some z => rw [q] at h3; exact congrArg some h3

/-- the block's begin: the list at D, the block's names at C -/
theorem comp_inv (c : CompOk X scope cl own cap) (I : Inv X pins σ H s) (hf : ∀ b ∈ fp, FpOk X pins H b) (hlt : ∀ b ∈ fp, b < s.heap.objs.size) {h₁ : Heap} {tk : Nat} {m : Str → Option Value}
    (hk : ∀ b o, s.heap.get? b = some o → h₁.get? b = some o) (hD : h₁.get? s.heap.objs.size = some { cls := .type "list", data := .seq ([] : List Value).toArray }) (hn : h₁.Ns (s.heap.objs.size + 1) m) :
    Inv (compCx X (own ++ cap.map (·.2)) scope cl (s.heap.objs.size + 1) s H fp E) [] (compSt own cap σ) (upd H s.heap.objs.size (.lst [])) { s with heap := h₁, toks := tk } := by
  have hfr : H s.heap.objs.size = none := I.fresh
  have hfr1 : H (s.heap.objs.size + 1) = none := I.hok.fresh (Nat.le_succ _)
  have hnew : ObjOk X.prog X.w (upd H s.heap.objs.size (.lst [])) h₁ s.heap.objs.size (.lst []) := ⟨Nat.zero_le _, [], 0, .nil, hD⟩
  refine ⟨comp_ok c I hf hlt (Nat.le_succ _), rfl, I.bare, Un.laid hk (Nat.le_refl _) hfr, ⟨m, hn, fun i x v e1 e2 _ => ?_⟩, fun x a e => ?_, ?_, fun x a e => ?_, fun p hp => absurd (show p ∈ ([] : List (Addr × Obj)) from hp) (by simp), I.hok.laid hk (Nat.le_refl _) hnew, ?_⟩
  · obtain ⟨p, hp, ex, es⟩ := compSt_get e1 e2
    obtain ⟨q1, q2, q3, q4, q5⟩ := c.caps p hp
    rw [ex] at q1 q2 q3 q4 q5
    obtain ⟨m', hn', hl⟩ := I.loc
    obtain ⟨u, r, l⟩ := hl p.1 x v q1 es q2
    refine ⟨u, r, ?_⟩
    rcases l with l | ⟨k, a, e, z⟩
    · exact absurd l.1 q3
    · obtain ⟨a', e'⟩ := c.hasX x q5
      have ea := c.sub x a' e'
      rw [e] at ea
      cases ea
      exact .inr ⟨q5, a, e', z.keeps hk⟩
  · obtain ⟨v, z⟩ := I.cell x a (c.sub x a e)
    exact ⟨v, z.keeps hk⟩
  · show upd H s.heap.objs.size (.lst []) (s.heap.objs.size + 1) = none
    rw [upd_ne (Nat.succ_ne_self _)]
    exact hfr1
  · obtain ⟨v, z⟩ := I.cell x a (c.sub x a e)
    show upd H s.heap.objs.size (.lst []) a = none
    rw [upd_ne (Nat.ne_of_lt z.lt)]
    exact I.freeC x a (c.sub x a e)
  · show (compSt own cap σ).length = (own ++ cap.map (·.2)).length
    simp [compSt]

/-- the block's end -/
theorem comp_after {s2 : Shared} {H' : Hp} {σ' : St} {C : Addr} {Nc : List Str} {pins' : List (Addr × Obj)} (I : Inv X pins σ H s) (hf : ∀ b ∈ fp, FpOk X pins H b) (hC : s.heap.objs.size ≤ C) (J : Inv (compCx X Nc scope cl C s H fp E) pins' σ' H' s2) :
    Inv X pins σ H' s2 ∧ FpOk X pins H' C := by
  have os : s2.os = s.os := J.os
  have un : Un (frs X.stack) fp H H' s.heap s2.heap := J.base
  exact ⟨I.call' os un J.hok J.bare fun b hb => ⟨(hf b hb).2.2.2.1, (hf b hb).2.1, (hf b hb).2.2.2.2.1, (hf b hb).2.2.2.2.2⟩, I.fpOk hC J.free⟩
end

/-- W: the invariant by the turn, a measure, the block's names, the list so far, the heap -/
def tComp (wi : TI) (g : TG) (tc : TT) (te : TE) (own : List Str) (cap : List (Nat × Str)) : TE := fun σ H Q => wi σ H fun J H1 => ∀ D, H1 D = none →
  ∃ W : Nat → Nat → St → List V → Hp → Prop, (∃ m, W 0 m (compSt own cap σ) [] (upd H1 D (.lst []))) ∧ ∀ i m σ' ys H', W i m σ' ys H' → H' D = some (.lst ys) ∧
    ((J.stop i H' ∧ Q (.ref D) H') ∨ (J.go i H' ∧ ys.length < sizeLine ∧ ∃ N : St → List V → Hp → Prop, (∀ σ ys H, N σ ys H → ∃ m', m' < m ∧ W (i + 1) m' σ ys H) ∧ ∀ x H2, J.yld i H' x H2 → g x σ' H2 fun σ3 H3 => tc σ3 H3 fun b H4 => if b = true then te σ3 H4 fun y H5 => H5 D = some (.lst ys) ∧ N σ3 (ys ++ [y]) (upd H5 D (.lst (ys ++ [y])))
      else N σ3 ys H4))

section
variable {X : Cx} {scope : Scope} {cl : List (Str × Addr)} {own : List Str} {cap : List (Nat × Str)} {tg iter elt : Expr} {ifs : List Expr} {wi : TI} {g : TG} {tc : TT} {te : TE} {pos : Pos}
/-- the block, up to what is wanted behind it -/
theorem comp_block {pins : List (Addr × Obj)} {σ : St} {s2 : Shared} {H2 : Hp} {it : Addr} {fp : List Addr} {tn : Nat → Heap → Prop} {J : It} {Q : VK} {RR : Value → Addr → Result → Shared → Prop} {E' : Value → Shared → Prop}
    (c : CompOk X scope cl own cap) (hc : X.calm = true)
    (hg : ∀ C s H fp, PG (compCx X (own ++ cap.map (·.2)) scope cl C s H fp fun _ _ => False) tg g) (ht : ∀ C s H fp, PTs (compCx X (own ++ cap.map (·.2)) scope cl C s H fp fun _ _ => False) ifs tc)
    (he : ∀ C s H fp, PE (compCx X (own ++ cap.map (·.2)) scope cl C s H fp fun _ _ => False) elt te)
    (I2 : Inv X pins σ H2 s2) (T : Turn X.prog X.w X.K tg J fp it tn) (st2 : tn 0 s2.heap) (f2 : ∀ b ∈ fp, FpOk X pins H2 b)
    (hw : ∀ D, H2 D = none → ∃ W : Nat → Nat → St → List V → Hp → Prop, (∃ m, W 0 m (compSt own cap σ) [] (upd H2 D (.lst []))) ∧ ∀ i m σ' ys H', W i m σ' ys H' → H' D = some (.lst ys) ∧
      ((J.stop i H' ∧ Q (.ref D) H') ∨ (J.go i H' ∧ ys.length < sizeLine ∧ ∃ N : St → List V → Hp → Prop, (∀ σ ys H, N σ ys H → ∃ m', m' < m ∧ W (i + 1) m' σ ys H) ∧ ∀ x H2, J.yld i H' x H2 → g x σ' H2 fun σ3 H3 => tc σ3 H3 fun b H4 => if b = true then te σ3 H4 fun y H5 => H5 D = some (.lst ys) ∧ N σ3 (ys ++ [y]) (upd H5 D (.lst (ys ++ [y])))
        else N σ3 ys H4)))
    (hRR : ∀ D C s' H' m, Inv X pins σ H' s' → FpOk X pins H' C → s'.heap.Ns C m → Q (.ref D) H' → RR (.ref D) C (.ok .next) s') :
    wpAny (model X.prog X.w) X.A (newList []) (fun acc s₃ => wpAny (model X.prog X.w) X.A (newFunctionEnv scope X.env.globals cl [] X.env.qual none .none (some X.env)) (fun cenv s₄ =>
      codeAny (model X.prog X.w) X.A (.compStart (.ListComp elt [⟨tg, iter, ifs, 0⟩] scope pos) 0 (.ref it) acc { cenv with scope := relabel scope X.env }) (RR acc cenv.locals) s₄) E' s₃) E' s2 := by
  refine wpAny_newObj_type (wpAny_newFunctionEnv c.cell (by intro y hy; simp at hy) (fun h₁ hns₁ hsb₁ => ?_) c.kind)
  dsimp only at hns₁ hsb₁ ⊢
  have hsz : (s2.heap.push { cls := .type "list", dict := none, data := .seq ([] : List Value).toArray }).objs.size = s2.heap.objs.size + 1 := Heap.size_push _ _
  have kk : ∀ b o, s2.heap.get? b = some o → h₁.get? b = some o := fun b o e => hsb₁.extBut b o (by rw [hsz]; exact Nat.ne_of_lt (Nat.lt_succ_of_lt (Heap.lt_size e))) (Heap.get?_push_of_some _ (Heap.get?_push_of_some _ e))
  have hD : h₁.get? s2.heap.objs.size = some { cls := .type "list", data := .seq ([] : List Value).toArray } :=
    hsb₁.extBut _ _ (by rw [hsz]; exact Nat.ne_of_lt (Nat.lt_succ_self _)) (Heap.get?_push_of_some _ (Heap.get?_push_size _ rfl))
  rw [hsz] at hns₁ ⊢
  have hlt : ∀ b ∈ fp, b < s2.heap.objs.size := fun b hb => by
    obtain ⟨o, e, _⟩ := T.obj _ _ st2 b hb
    exact Heap.lt_size e
  obtain ⟨W, ⟨m0, w0⟩, turn⟩ := hw s2.heap.objs.size I2.fresh
  have J1 := comp_inv (E := fun _ _ => False) c I2 f2 hlt (tk := s2.toks + ([] : List (Str × Value)).length) kk hD hns₁
  generalize hX' : compCx X (own ++ cap.map (·.2)) scope cl (s2.heap.objs.size + 1) s2 H2 fp (fun _ _ => False) = X' at J1
  have hg' : PG X' tg g := hX' ▸ hg _ _ _ _
  have ht' : PTs X' ifs tc := hX' ▸ ht _ _ _ _
  have he' : PE X' elt te := hX' ▸ he _ _ _ _
  have pX : X'.prog = X.prog := by rw [← hX']; rfl
  have wX : X'.w = X.w := by rw [← hX']; rfl
  have kX : X'.K = X.K := by rw [← hX']; rfl
  have aX : X'.A = X.A := by rw [← hX']; rfl
  have cX : X'.calm = true := by rw [← hX']; exact hc
  have nX : X'.env = compEnvC scope cl (s2.heap.objs.size + 1) X.env := by rw [← hX']; rfl
  have xX : X'.xe = fun _ _ => False := by rw [← hX']; rfl
  have fX : ∀ b ∈ fp, ∀ {H' : Hp}, H' b = none → FpOk X' [] H' b := fun b hb {H'} hn => by
    have o1 := (comp_ok (E := fun _ _ => False) c I2 f2 hlt (C := s2.heap.objs.size + 1) (Nat.le_succ _)).exf b hb
    have o2 := (comp_ok (E := fun _ _ => False) c I2 f2 hlt (C := s2.heap.objs.size + 1) (Nat.le_succ _)).exfs b hb
    rw [← hX']
    exact ⟨hn, o1.1, o2, .inl hb, o1.2, fun p hp => absurd (show p ∈ ([] : List (Addr × Obj)) from hp) (by simp)⟩
  have fin : ∀ {σ' : St} {H' : Hp} {s' : Shared}, Inv X' [] σ' H' s' → Q (.ref s2.heap.objs.size) H' → RR (.ref s2.heap.objs.size) (s2.heap.objs.size + 1) (.ok .next) s' := fun {σ' H' s'} J' q => by
    rw [← hX'] at J'
    obtain ⟨A1, A2⟩ := comp_after I2 f2 (Nat.le_succ _) J'
    obtain ⟨m, hm, _⟩ := J'.loc
    exact hRR _ _ s' H' m A1 A2 hm q
  have loop : codeAny (model X.prog X.w) X.A (.compLoop (.ListComp elt [⟨tg, iter, ifs, 0⟩] scope pos) 0 (.ref it) (.ref s2.heap.objs.size) (compEnvC scope cl (s2.heap.objs.size + 1) X.env)) (RR (.ref s2.heap.objs.size) (s2.heap.objs.size + 1))
      { s2 with heap := h₁, toks := s2.toks + ([] : List (Str × Value)).length } := by
    refine compLoop_any (fun n s' => ∃ i σ' ys H', Inv X' [] σ' H' s' ∧ tn i s'.heap ∧ (∀ b ∈ fp, H' b = none) ∧ W i n σ' ys H') ?_ m0
      ⟨0, _, [], _, J1, T.keep _ _ _ st2 fun b _ o e => kk b o e, fun b hb => by rw [upd_ne (Nat.ne_of_lt (hlt b hb))]; exact (f2 b hb).1, w0⟩
    rintro n s3 ⟨i, σ3, ys, H3, I3, st3, fr3, w3⟩
    obtain ⟨hDl, w4⟩ := turn i n σ3 ys H3 w3
    rw [← nX, ← aX, ← pX, ← wX]
    have nox : ∀ {α : Type} {t : Sem α} {Q1 : α → Shared → Prop} {E1 : Value → Shared → Prop} {s : Shared}, wpAny (model X'.prog X'.w) X'.A t Q1 X'.xe s → wpAny (model X'.prog X'.w) X'.A t Q1 E1 s := fun {α t Q1 E1 s} h => by
      rw [xX] at h
      exact wpAny_mono h (fun _ _ q => q) fun _ _ f => f.elim
    rcases w4 with ⟨stop, qn⟩ | ⟨go, hys, N, hN, step⟩
    · have d := T.done X' pX wX kX cX i [] s3 σ3 H3 X'.xe I3 (fun b hb => fX b hb (fr3 b hb)) st3 stop
      rw [← pX, ← wX] at d
      refine nox (thn d fun r s4 ⟨hr, I4⟩ => ?_)
      subst hr
      exact fin I4 qn
    · have d := T.item X' pX wX kX cX i [] s3 σ3 H3 X'.xe I3 (fun b hb => fX b hb (fr3 b hb)) st3 go
      rw [← pX, ← wX] at d
      refine nox (thn d fun r s4 ⟨u, hr, h4⟩ => ?_)
      subst hr
      refine nox (thn h4 fun _ s5 ⟨x, H5, I5, r5, y5, st5, fr5⟩ => ?_)
      have I5' := I5.pinned (fun b hb => fX b hb (fr5 b hb)) (T.obj _ _ st5)
      have again : ∀ {σ7 : St} {H7 : Hp} {s7 : Shared} {ys' : List V}, Inv X' ([] ++ pinsAt fp s5.heap) σ7 H7 s7 → N σ7 ys' H7 →
          ∃ m, m < n ∧ ∃ i σ' ys H', Inv X' [] σ' H' s7 ∧ tn i s7.heap ∧ (∀ b ∈ fp, H' b = none) ∧ W i m σ' ys H' := fun {σ7 H7 s7 ys'} I7 n7 => by
        obtain ⟨m', hm, w7⟩ := hN _ _ _ n7
        refine ⟨m', hm, i + 1, σ7, ys', H7, I7.unpinned, T.keep _ _ _ st5 fun b hb o e => (I7.pin (b, o) (List.mem_append_right _ (List.mem_append_right _ (mem_pinsAt hb e)))).1, fun b hb => ?_, w7⟩
        obtain ⟨o, e, d⟩ := T.obj _ _ st5 b hb
        exact (I7.pin (b, o) (List.mem_append_right _ (List.mem_append_right _ (mem_pinsAt hb e)))).2.1
      refine nox (thn (hg' _ s5 σ3 H5 x u _ I5' r5 (step x H5 y5)) fun _ s6 ⟨σ6, H6, I6, q6⟩ => ?_)
      refine nox (thn (ht' _ s6 σ6 H6 _ I6 q6) fun b s7 ⟨H7, I7, q7⟩ => ?_)
      cases b with
      | false =>
        rw [if_neg Bool.false_ne_true] at q7 ⊢
        exact again I7 q7
      | true =>
        rw [if_pos rfl] at q7 ⊢
        refine nox (thn (he' _ s7 σ6 H7 _ I7 q7) fun u8 s8 ⟨y8, H8, I8, r8, d8, q8⟩ => ?_)
        refine nox (thn (mt_append _ s8 σ6 H8 (.ref s2.heap.objs.size) [y8] (.ref s2.heap.objs.size) [u8] (fun _ H9 => N σ6 (ys ++ [y8]) H9) I8 rfl (.cons r8 .nil) ⟨_, ys, y8, rfl, rfl, d8, hys, q8⟩) fun _ s9 ⟨_, H9, I9, _, q9⟩ => ?_)
        exact again I9 q9
  exact codeAny_compStart_list loop (T.self X.A 0 _ _ _ (T.keep _ _ _ st2 fun b _ o e => kk b o e) loop)

theorem pe_comp (c : CompOk X scope cl own cap) (hc : X.calm = true) (hi : PI X tg iter wi)
    (hg : ∀ C s H fp, PG (compCx X (own ++ cap.map (·.2)) scope cl C s H fp fun _ _ => False) tg g) (ht : ∀ C s H fp, PTs (compCx X (own ++ cap.map (·.2)) scope cl C s H fp fun _ _ => False) ifs tc)
    (he : ∀ C s H fp, PE (compCx X (own ++ cap.map (·.2)) scope cl C s H fp fun _ _ => False) elt te) (hs : ∀ x, foldedSetIterable iter X.env x = pure x := by intro _; rfl) :
    PE X (.ListComp elt [⟨tg, iter, ifs, 0⟩] scope pos) (tComp wi g tc te own cap) := by
  refine .mk ?_
  intro pins s σ H Q I h
  rw [eval_ListComp]
  refine wpAny_comprehension_free (use := none) rfl hs c.clos c.kind c.names (thn (hi pins s σ H _ I h) fun v s1 h1 => thn h1 fun itv s2 h2 => ?_)
  obtain ⟨it, fp, tn, J, H2, e, I2, T, st2, f2, hw⟩ := h2
  subst e
  refine comp_block (Q := Q) (RR := fun acc C => compPost (model X.prog X.w) X.A X.xe none (EP X pins σ Q) acc C) c hc hg ht he I2 T st2 f2 hw ?_
  intro D C s' H' m I' hC hm q
  refine ⟨m, hm, fun h' hs' => ⟨.ref D, H', ?_, rfl, q⟩⟩
  exact I'.turned (t' := s'.toks) (fun b o hb e => (hs'.2 b hb).trans e) hC.1 hC.2.1 hC.2.2.2.1 hC.2.2.2.2.1 hC.2.2.2.2.2

/-- name = [.. for ..] -/
def tCompS (i : Nat) (t : TE) : TS := fun D σ H => t σ H fun x H1 => D.nx (σ.set i (some x)) H1
theorem ps_comp {i : Nat} {y : Str} {py spos : Pos} (c : CompOk X scope cl own cap) (hc : X.calm = true) (hi : PI X tg iter wi)
    (hg : ∀ C s H fp, PG (compCx X (own ++ cap.map (·.2)) scope cl C s H fp fun _ _ => False) tg g) (ht : ∀ C s H fp, PTs (compCx X (own ++ cap.map (·.2)) scope cl C s H fp fun _ _ => False) ifs tc)
    (he : ∀ C s H fp, PE (compCx X (own ++ cap.map (·.2)) scope cl C s H fp fun _ _ => False) elt te)
    (hN : X.N.Nodup) (hy : X.N[i]? = some y) (hl : X.env.scope.names.lookup y = some .local)
    (hsw : swapsWith (.ListComp elt [⟨tg, iter, ifs, 0⟩] scope pos) (some (.Name y py)) spos.line X.env = pure true := by rfl) (hs : ∀ x, foldedSetIterable iter X.env x = pure x := by intro _; rfl) :
    PS X (.Assign [.Name y py] (.ListComp elt [⟨tg, iter, ifs, 0⟩] scope pos) spos) (tCompS i (tComp wi g tc te own cap)) := by
  refine .mk ?_
  intro pins s σ H D I h
  rw [exec_Assign_Name_used _ _ _ _ hsw]
  refine wpAny_bind (wpAny_standAt (wpAny_bind ?_))
  show wpAny _ X.A (do let _ ← comprehension (.ListComp elt [⟨tg, iter, ifs, 0⟩] scope pos) scope X.env _ (newList []) false (eval iter X.env) (some (assign (.Name y py) X.env))) _ _ s
  refine wpAny_bind (wpAny_mono (wpAny_comprehension_free (use := some (assign (.Name y py) X.env)) (Q := fun _ s' => SP X pins D .next s') rfl hs c.clos c.kind c.names (thn (hi pins s σ H _ I h) fun v s1 h1 => thn h1 fun itv s2 h2 => ?_)) (fun _ s' hq => wpAny_pure (wpAny_pure hq)) fun _ _ e => e)
  obtain ⟨it, fp, tn, J, H2, e, I2, T, st2, f2, hw⟩ := h2
  subst e
  refine comp_block (Q := fun x H1 => D.nx (σ.set i (some x)) H1) (RR := fun acc C => compPost (model X.prog X.w) X.A X.xe (some (assign (.Name y py) X.env)) (fun _ s' => SP X pins D .next s') acc C) c hc hg ht he I2 T st2 f2 hw ?_
  intro D' C s' H' m I' hC hm q
  show wpAny _ X.A (assign (.Name y py) X.env (.ref D')) _ _ _
  refine wpAny_assign_Name (store_ok2 (v := .ref D') I' hN hy (.inl hl) rfl (fun s'' I'' ch => ?_) (.inr hl))
  obtain ⟨a, sb, ha⟩ := ch
  have hCa : C ≠ a := by
    rcases ha with ha | ha
    · rw [ha]; exact hC.2.1
    · exact fun z => hC.2.2.2.2.1 _ _ ha z.symm
  refine ⟨m, hm.sameBut sb hCa, fun h' hs' => ⟨_, H', ?_, q⟩⟩
  exact I''.turned (t' := s''.toks) (fun b o hb e => (hs'.2 b hb).trans e) hC.1 hC.2.1 hC.2.2.2.1 hC.2.2.2.2.1 hC.2.2.2.2.2
end

/-! ### the forms one uses: the body leaves the walked sequence as it is -/
section
variable {K : PySem.W.Frag} {a : Addr} {xs : List V} {g : TG} {tc : TT} {te : TE} {own : List Str} {cap : List (Nat × Str)} {σ : St} {H1 : Hp} {QD : Hp → Prop} {D : Addr}
theorem comp_seq {J : It} (Pv : Nat → St → List V → Hp → Prop) (h0 : Pv 0 (compSt own cap σ) [] (upd H1 D (.lst [])))
    (hD : ∀ i σ ys H, i ≤ xs.length → Pv i σ ys H → H D = some (.lst ys) ∧ ys.length ≤ i)
    (hz : xs.length ≤ sizeLine)
    (hgo : ∀ i σ ys H, i < xs.length → Pv i σ ys H → J.go i H) (hst : ∀ σ ys H, Pv xs.length σ ys H → J.stop xs.length H)
    (hyl : ∀ i σ ys H x H', i < xs.length → Pv i σ ys H → J.yld i H x H' → H' = H ∧ xs[i]? = some x)
    (hs : ∀ i x σ ys H, xs[i]? = some x → Pv i σ ys H → g x σ H fun σ3 H3 => tc σ3 H3 fun b H4 => if b = true then te σ3 H4 fun y H5 => H5 D = some (.lst ys) ∧ Pv (i + 1) σ3 (ys ++ [y]) (upd H5 D (.lst (ys ++ [y]))) else Pv (i + 1) σ3 ys H4)
    (hd : ∀ σ ys H, Pv xs.length σ ys H → QD H) :
    ∃ W : Nat → Nat → St → List V → Hp → Prop, (∃ m, W 0 m (compSt own cap σ) [] (upd H1 D (.lst []))) ∧ ∀ i m σ' ys H', W i m σ' ys H' → H' D = some (.lst ys) ∧
      ((J.stop i H' ∧ QD H') ∨ (J.go i H' ∧ ys.length < sizeLine ∧ ∃ N : St → List V → Hp → Prop, (∀ σ ys H, N σ ys H → ∃ m', m' < m ∧ W (i + 1) m' σ ys H) ∧ ∀ x H2, J.yld i H' x H2 → g x σ' H2 fun σ3 H3 => tc σ3 H3 fun b H4 => if b = true then te σ3 H4 fun y H5 => H5 D = some (.lst ys) ∧ N σ3 (ys ++ [y]) (upd H5 D (.lst (ys ++ [y])))
        else N σ3 ys H4)) := by
  refine ⟨fun i m σ ys H => m = xs.length - i ∧ i ≤ xs.length ∧ Pv i σ ys H, ⟨xs.length, by simp, Nat.zero_le _, h0⟩, ?_⟩
  rintro i m σ' ys H' ⟨rfl, hi, p⟩
  have q := hD i σ' ys H' hi p
  refine ⟨q.1, ?_⟩
  by_cases hlt : i < xs.length
  · refine .inr ⟨hgo i σ' ys H' hlt p, by omega, Pv (i + 1), fun σ' ys' H' p' => ⟨xs.length - (i + 1), by omega, rfl, hlt, p'⟩, fun x H2 y => ?_⟩
    obtain ⟨e, hx⟩ := hyl i σ' ys H' x H2 hlt p y
    subst e
    exact hs i x σ' ys _ hx p
  · have e : i = xs.length := by omega
    subst e
    exact .inl ⟨hst σ' ys H' p, hd σ' ys H' p⟩
theorem comp_tup (Pv : Nat → St → List V → Hp → Prop) (h0 : Pv 0 (compSt own cap σ) [] (upd H1 D (.lst [])))
    (hD : ∀ i σ ys H, i ≤ xs.length → Pv i σ ys H → H D = some (.lst ys) ∧ ys.length ≤ i ∧ SqT K H a xs)
    (hz : xs.length ≤ sizeLine)
    (hs : ∀ i x σ ys H, xs[i]? = some x → Pv i σ ys H → g x σ H fun σ3 H3 => tc σ3 H3 fun b H4 => if b = true then te σ3 H4 fun y H5 => H5 D = some (.lst ys) ∧ Pv (i + 1) σ3 (ys ++ [y]) (upd H5 D (.lst (ys ++ [y]))) else Pv (i + 1) σ3 ys H4)
    (hd : ∀ σ ys H, Pv xs.length σ ys H → QD H) :
    ∃ W : Nat → Nat → St → List V → Hp → Prop, (∃ m, W 0 m (compSt own cap σ) [] (upd H1 D (.lst []))) ∧ ∀ i m σ' ys H', W i m σ' ys H' → H' D = some (.lst ys) ∧
      (((Itt K a).stop i H' ∧ QD H') ∨ ((Itt K a).go i H' ∧ ys.length < sizeLine ∧ ∃ N : St → List V → Hp → Prop, (∀ σ ys H, N σ ys H → ∃ m', m' < m ∧ W (i + 1) m' σ ys H) ∧ ∀ x H2, (Itt K a).yld i H' x H2 → g x σ' H2 fun σ3 H3 => tc σ3 H3 fun b H4 => if b = true then te σ3 H4 fun y H5 => H5 D = some (.lst ys) ∧ N σ3 (ys ++ [y]) (upd H5 D (.lst (ys ++ [y])))
        else N σ3 ys H4)) :=
  comp_seq (xs := xs) Pv h0 (fun i σ ys H hi p => ⟨(hD i σ ys H hi p).1, (hD i σ ys H hi p).2.1⟩) hz
    (fun i σ ys H hi p => ⟨xs, xs[i], (hD i σ ys H (Nat.le_of_lt hi) p).2.2, by simp [hi]⟩) (fun σ ys H p => ⟨xs, (hD _ σ ys H (Nat.le_refl _) p).2.2, Nat.le_refl _⟩)
    (fun i σ ys H x H' hi p y => ⟨y.1, y.2 xs (hD i σ ys H (Nat.le_of_lt hi) p).2.2⟩) hs hd
theorem comp_list (Pv : Nat → St → List V → Hp → Prop) (h0 : Pv 0 (compSt own cap σ) [] (upd H1 D (.lst [])))
    (hD : ∀ i σ ys H, i ≤ xs.length → Pv i σ ys H → H D = some (.lst ys) ∧ ys.length ≤ i ∧ SqL K H a xs)
    (hz : xs.length ≤ sizeLine)
    (hs : ∀ i x σ ys H, xs[i]? = some x → Pv i σ ys H → g x σ H fun σ3 H3 => tc σ3 H3 fun b H4 => if b = true then te σ3 H4 fun y H5 => H5 D = some (.lst ys) ∧ Pv (i + 1) σ3 (ys ++ [y]) (upd H5 D (.lst (ys ++ [y]))) else Pv (i + 1) σ3 ys H4)
    (hd : ∀ σ ys H, Pv xs.length σ ys H → QD H) :
    ∃ W : Nat → Nat → St → List V → Hp → Prop, (∃ m, W 0 m (compSt own cap σ) [] (upd H1 D (.lst []))) ∧ ∀ i m σ' ys H', W i m σ' ys H' → H' D = some (.lst ys) ∧
      (((Itl K a).stop i H' ∧ QD H') ∨ ((Itl K a).go i H' ∧ ys.length < sizeLine ∧ ∃ N : St → List V → Hp → Prop, (∀ σ ys H, N σ ys H → ∃ m', m' < m ∧ W (i + 1) m' σ ys H) ∧ ∀ x H2, (Itl K a).yld i H' x H2 → g x σ' H2 fun σ3 H3 => tc σ3 H3 fun b H4 => if b = true then te σ3 H4 fun y H5 => H5 D = some (.lst ys) ∧ N σ3 (ys ++ [y]) (upd H5 D (.lst (ys ++ [y])))
        else N σ3 ys H4)) :=
  comp_seq (xs := xs) Pv h0 (fun i σ ys H hi p => ⟨(hD i σ ys H hi p).1, (hD i σ ys H hi p).2.1⟩) hz
    (fun i σ ys H hi p => ⟨xs, xs[i], (hD i σ ys H (Nat.le_of_lt hi) p).2.2, by simp [hi]⟩) (fun σ ys H p => ⟨xs, (hD _ σ ys H (Nat.le_refl _) p).2.2, Nat.le_refl _⟩)
    (fun i σ ys H x H' hi p y => ⟨y.1, y.2 xs (hD i σ ys H (Nat.le_of_lt hi) p).2.2⟩) hs hd
end
end L2

set_option Elab.async false
set_option linter.all false
set_option maxRecDepth 100000
/-! MORE RULES over the hand layer: products of great ints, sum, max with a default, != [] of a list, slices of texts, isinstance -/
namespace L2
open PySem PySem.Spec PyProof.Rows

section
variable {X : Cx}
/-- a product of two ints of at most 2^20 bits each -/
theorem op_mulB : OpR X (binaryOp .Mult) (rI (fun i j => i.natAbs < 2 ^ 200 ∧ j.natAbs < 2 ^ 200) fun i j => .int (i * j)) :=
  opI fun i j _ _ _ _ _ hc q => mul_int q (.of_bits (Nat.le_trans (intBits_le hc.1) (by decide)) (Nat.le_trans (intBits_le hc.2) (by decide)))
/-- // by a positive divisor of any size, the dividend not too great -/
theorem call_sumL (hc : X.calm = true) : CallR X (.builtin "sum") (fun xs H Q => ∃ (p : Addr) (ns : List Int), xs = [.ref p] ∧ SqL X.K H p (ns.map V.int) ∧ Q (.int ns.sum) H) := by
  intro pins s σ H xs us Q I r h
  obtain ⟨p, ns, rfl, hq, q⟩ := h
  obtain ⟨u, rfl, ru⟩ := vals1 r
  cases ru
  obtain ⟨its, rv, pl, hz⟩ := I.list hq
  have hi := intsAre_of rv
  have hall : AllInts its.toArray := hi.allInts
  obtain ⟨zs, hzs⟩ := hall.items
  have hn : numsOf its = ns := hi.numsOf
  have hl : s.heap.IsList p (intItems zs) := by rw [← hzs]; exact pl.isList
  refine sum_intListG (I.ok.hd hc) hl fun h' tk t' k => ⟨.int ns.sum, H, I.kept k, ⟨t', ?_⟩, q⟩
  have e : numsOf (intItems zs).toList = ns := by rw [← hzs]; exact hn
  rw [nums_intItems] at e
  rw [preSum_eq, List.take_of_length_le (by simp), e]
end

/-! ### max(xs, default = d) -/
section
variable {prog : Program} {w : World} {A : Around} {R : Result → Shared → Prop} {I : Addr} {fp wr : List Addr} {n : Nat} {P : Nat → Value → Prop} {St : Nat → Heap → Prop}
theorem maxd_loop {kw : List (Str × Value)} (W : Walks prog w A.in1 I fp wr n P St) (bt : Nat → Nat → Bool) (hcmp : CmpOf prog w A.in1 .Gt P bt) (S : Addr) (hSf : S ∉ fp) :
    ∀ (k j : Nat) (s : Shared) (vb : Value) (c : Nat), n - (j + 1) = k → j + 1 ≤ n → St (j + 1) s.heap → P (argBest bt j) vb →
    s.heap.get? S = some { cls := .type "list", dict := none, data := .seq #[vb, vb] c, slots := #[] } →
    (∀ v h' tk, P (argBest bt (n - 1)) v → (∀ b o, b ∉ wr → b ≠ S → s.heap.get? b = some o → h'.get? b = some o) → R (.ok (.ret v)) { s with heap := h', toks := tk }) →
    codeAny (model prog w) A (.builtin "max.loop" ⟨[.ref I, .none, .ref S], kw⟩) R s := by
  have hSw : S ∉ wr := fun h => hSf (W.sub _ h)
  have nm : (toString "max" ++ toString ".loop" : String) = "max.loop" := by decide
  intro k
  induction k with
  | zero =>
    intro j s vb c hk hj hst hPb hS hR
    have hin : j + 1 = n := by omega
    refine codeAny_builtin F.entry_max_loop ?_
    rw [Around.under_plainId F.plain_max_loop _]
    show wpAny _ A.in1 (seqItems? (.ref S) >>= _) _ _ s
    refine wpAny_bind (wpAny_seqItems hS rfl ?_)
    show wpAny _ A.in1 (tryCatch (pyNext (.ref I)) _ >>= _) _ _ s
    refine wpAny_bind (wpAny_tryCatch (W.done s _ _ (hin ▸ hst) fun h' tk hk' => ?_))
    have hS' := hk' S _ hSw hS
    show wpAny _ A.in1 (updateSeq S (fun _ => #[]) >>= _) _ _ _
    refine wpAny_bind (wpAny_updateSeq hS' rfl (wpAny_bind (wpAny_letGo (wpAny_pure ?_))))
    exact hR vb _ tk (by rw [← hin]; exact hPb) fun b o hbw hbS e => (Heap.get?_update_other _ _ (Ne.symm hbS)).trans (hk' b o hbw e)
  | succ k ih =>
    intro j s vb c hk hj hst hPb hS hR
    have hlt : j + 1 < n := by omega
    refine codeAny_builtin F.entry_max_loop ?_
    rw [Around.under_plainId F.plain_max_loop _]
    show wpAny _ A.in1 (seqItems? (.ref S) >>= _) _ _ s
    refine wpAny_bind (wpAny_seqItems hS rfl ?_)
    show wpAny _ A.in1 (tryCatch (pyNext (.ref I)) _ >>= _) _ _ s
    refine wpAny_bind (wpAny_tryCatch (W.item (j + 1) s _ _ hlt hst fun v h' tk hP hst' hk' => ?_))
    have hS' := hk' S _ hSw hS
    show wpAny _ A.in1 (tryCatch (holding [v, v] (richCompare .Gt v vb >>= _)) _ >>= _) _ _ _
    refine wpAny_bind (wpAny_tryCatch (wpAny_holding (wpAny_bind (hcmp (j + 1) (argBest bt j) v vb _ _ _ hP hPb ?_))))
    refine wpAny_bind (wpAny_holding (wpAny_truthy_bool ?_))
    refine wpAny_bind (wpAny_letGo (wpAny_pure ?_))
    by_cases hb : bt (j + 1) (argBest bt j) = true
    · rw [hb]
      simp only [if_true]
      refine wpAny_bind (wpAny_updateSeq hS' rfl (wpAny_bind (wpAny_letGo ?_)))
      rw [nm]
      refine wpAny_pure ⟨plainId_quiet F.plain_max_loop _, ih (j + 1) _ v _ (by omega) hlt (W.frame _ _ _ hst' fun b hbf o e => ?_) (by rw [argBest, if_pos hb]; exact hP) (Heap.get?_update_self _ hS' rfl) fun v' h2 tk2 hP' hk2 => ?_⟩
      · exact (Heap.get?_update_other _ _ (fun h : S = b => hSf (by rw [h]; exact hbf))).trans e
      · exact hR v' h2 tk2 hP' fun b o hbw hbS e => hk2 b o hbw hbS ((Heap.get?_update_other _ _ (Ne.symm hbS)).trans (hk' b o hbw e))
    · have hb' : bt (j + 1) (argBest bt j) = false := by simpa using hb
      rw [hb']
      simp only [Bool.false_eq_true, if_false]
      refine wpAny_bind (wpAny_letGo ?_)
      rw [nm]
      refine wpAny_pure ⟨plainId_quiet F.plain_max_loop _, ih (j + 1) _ vb c (by omega) hlt hst' (by rw [argBest, if_neg hb]; exact hPb) hS' fun v' h2 tk2 hP' hk2 => ?_⟩
      exact hR v' h2 tk2 hP' fun b o hbw hbS e => hk2 b o hbw hbS (hk' b o hbw e)

theorem argsOk_maxd (a d : Value) : argsOk "max" ⟨[a], [(Str.ofString "default", d)]⟩ := by unfold argsOk; kernel_rfl
theorem call_maxd {E : Value → Shared → Prop} {s : Shared} {l : Addr} {xs : Array (Int × Tok)} {d : Value} {Q : Value → Shared → Prop} (hh : A.handled = none) (hl : s.heap.IsList l (intItems xs)) (hne : 0 < xs.size)
    (h : ∀ v h' tk, (intItems xs)[argBest (fun i j => decide (numAt xs i > numAt xs j)) (xs.size - 1)]? = some v → (∀ b o, s.heap.get? b = some o → h'.get? b = some o) → Q v { s with heap := h', toks := tk }) :
    wpAny (model prog w) A (call (.builtin "max") [.ref l] [(Str.ofString "default", d)]) Q E s := by
  have nm : (toString "max" ++ toString ".loop" : String) = "max.loop" := by decide
  refine PyProof.Rows.kmk_tree PySem.F.kind_max PySem.F.plain_max PySem.F.entry_max (argsOk_maxd _ _) ?_
  show wpAny _ A.in1 (Builtin.Builtins.bindParams "max" ["key", "default"] 0 ⟨[], [(Str.ofString "default", d)]⟩ >>= _) _ _ s
  refine wpAny_bind (wpAny_of_eq (show Builtin.Builtins.bindParams "max" ["key", "default"] 0 ⟨[], [(Str.ofString "default", d)]⟩ = pure [none, some d] from rfl) ?_)
  refine wpAny_bind (wpAny_pure ?_)
  refine wpAny_bind (iter_intList hl fun s₂ e st hfp hlI => ?_)
  subst e
  refine wpAny_bind (wpAny_newObj_type ?_)
  rw [nm]
  have W := Walks.list (prog := prog) (w := w) (A := A.in1) hh s.heap.objs.size l hlI (intItems xs)
  have hSf : (s.heap.push { cls := .type "list_iterator", data := .fields #[.ref l, .int 0 0] }).objs.size ∉ [s.heap.objs.size, l] := fun hm => Nat.lt_irrefl _ (hfp _ hm)
  have hn : 0 < (intItems xs).size := by simpa [intItems] using hne
  refine wpAny_pure ⟨plainId_quiet F.plain_max_loop _, codeAny_builtin F.entry_max_loop ?_⟩
  rw [Around.under_plainId F.plain_max_loop _]
  show wpAny _ A.in1 (seqItems? (.ref _) >>= _) _ _ _
  refine wpAny_bind (wpAny_seqItems (Heap.get?_push_size _ rfl) rfl ?_)
  show wpAny _ A.in1 (tryCatch (pyNext (.ref s.heap.objs.size)) _ >>= _) _ _ _
  refine wpAny_bind (wpAny_tryCatch (W.item 0 _ _ _ hn (W.frame _ _ _ st fun b _ o e => Heap.get?_push_of_some _ e) fun v h' tk hP hst' hk' => ?_))
  have hSw : (s.heap.push { cls := .type "list_iterator", data := .fields #[.ref l, .int 0 0] }).objs.size ∉ [s.heap.objs.size] := fun z => hSf (List.mem_cons.mpr (.inl (List.mem_singleton.mp z)))
  have hS' := hk' _ _ hSw (Heap.get?_push_size _ rfl)
  show wpAny _ A.in1 (updateSeq _ (fun _ => #[v, v]) >>= _) _ _ _
  refine wpAny_bind (wpAny_updateSeq hS' rfl ?_)
  rw [nm]
  refine wpAny_pure ⟨plainId_quiet F.plain_max_loop _, maxd_loop W (fun i j => decide (numAt xs i > numAt xs j)) (CmpOf.ints_gt (numAt xs) (fun _ _ => intItems_at)) _ hSf _ 0 _ v _ rfl hn (W.frame _ _ _ hst' fun b hbf o e => ?_) hP (Heap.get?_update_self _ hS' rfl) fun v' h2 tk2 hP' hk2 => ?_⟩
  · exact (Heap.get?_update_other _ _ (fun h : _ = b => hSf (by rw [h]; exact hbf))).trans e
  · refine h v' h2 tk2 (by simpa [intItems] using hP') fun b o e => ?_
    have hb := Heap.lt_size e
    have hbI : b ≠ s.heap.objs.size := Nat.ne_of_lt hb
    have hbS : b ≠ (s.heap.push { cls := .type "list_iterator", data := .fields #[.ref l, .int 0 0] }).objs.size := by rw [Heap.size_push]; exact Nat.ne_of_lt (Nat.lt_succ_of_lt hb)
    exact hk2 b o (by simpa using hbI) hbS ((Heap.get?_update_other _ _ (Ne.symm hbS)).trans (hk' b o (by simpa using hbI) (Heap.get?_push_of_some _ (Heap.get?_push_of_some _ e))))
end

def topOf : List Int → Int
  | [] => 0
  | [x] => x
  | x :: y :: r => max x (topOf (y :: r))
theorem topOf_mem : ∀ {ns : List Int}, ns ≠ [] → topOf ns ∈ ns
  | [x], _ => by simp [topOf]
  | x :: y :: r, _ => by
    have ih := topOf_mem (ns := y :: r) (by simp)
    rw [topOf]
    by_cases h : x ≤ topOf (y :: r)
    · rw [Int.max_eq_right h]; exact List.mem_cons_of_mem _ ih
    · rw [Int.max_eq_left (by omega)]; exact List.mem_cons_self
theorem topOf_ge : ∀ {ns : List Int} {a : Int}, a ∈ ns → a ≤ topOf ns
  | [x], a, h => by simp at h; subst h; simp [topOf]
  | x :: y :: r, a, h => by
    rw [topOf]
    rcases List.mem_cons.mp h with rfl | h
    · exact Int.le_max_left _ _
    · exact Int.le_trans (topOf_ge h) (Int.le_max_right _ _)
theorem topOf_of {ns : List Int} {M : Int} (h1 : M ∈ ns) (h2 : ∀ a ∈ ns, a ≤ M) : M = topOf ns :=
  Int.le_antisymm (topOf_ge h1) (h2 _ (topOf_mem (by intro z; rw [z] at h1; cases h1)))

section
variable {X : Cx} {x : Str} {e v : Expr} {te tv : TE} {p pos kpos : Pos}
/-- max(xs, default = v), xs a list of ints that is not empty -/
theorem pe_maxd {ta : TA} {tk : TA} (hc : X.calm = true) (hg : Gl X "max") (hm : X.mg "max" = none) (ha : PA X [e] ta) (hv : PK X [⟨some "default", v, kpos⟩] tk)
    (he : backTo pos (starEach [e] X.env) = (false, eval e X.env) :: backTo pos (starEach [] X.env) := by rfl) (hpl : (backTo pos (starEach [e] X.env)).any (·.1) = false := by rfl) :
    PE X (.Call (.Name "max" p) [e] [⟨some "default", v, kpos⟩] pos) (fun σ H Q => ta σ H fun xs H1 => tk σ H1 fun ys H2 => ∃ (d : V) (a : Addr) (ns : List Int), ys = [d] ∧ xs = [.ref a] ∧ SqL X.K H2 a (ns.map V.int) ∧ ns ≠ [] ∧ Q (.int (topOf ns)) H2) := by
  refine .mk ?_
  intro pins s σ H Q I h
  refine wpAny_Call_Name_kw (ld_blt I hg hm boot_max ?_ (by decide) (by decide))
  refine callWith_kw (e := e) (rest := []) ?_ he hpl rfl rfl
  refine thn (ha pos pins s σ H _ I h) fun us s1 ⟨vs, H1, I1, r1, q1⟩ => ?_
  refine thn (hv pos pins s1 σ H1 _ I1 q1) fun ws s2 ⟨zs, H2, I2, r2, q2⟩ => ?_
  obtain ⟨d, a, ns, rfl, rfl, hq, hne, q⟩ := q2
  obtain ⟨u, rfl, ru⟩ := vals1 r1
  cases ru
  obtain ⟨its, rv, pl, hz⟩ := I2.list hq
  have hi := intsAre_of rv
  obtain ⟨xs, hxs⟩ := hi.allInts.items
  have hn : numsOf its = ns := hi.numsOf
  have hl : s2.heap.IsList a (intItems xs) := by rw [← hxs]; exact pl.isList
  have hlen : 0 < xs.size := by
    have e1 := rv.length
    have e2 : its.length = xs.size := by have := congrArg Array.size hxs; simpa [intItems] using this
    have e3 : ns.length ≠ 0 := fun z => hne (List.eq_nil_of_length_eq_zero z)
    simp at e1
    omega
  have fin : ∀ d : Value, wpAny (model X.prog X.w) X.A (call (.builtin "max") [.ref a] [(Str.ofString "default", d)]) (EP X pins σ Q) X.xe s2 := fun d => by
    refine call_maxd (I2.ok.hd hc) hl hlen fun v h' tk hv hk => ?_
    obtain ⟨t, rfl⟩ := intItems_at hv
    obtain ⟨h1, h2⟩ := argBest_gt (numAt xs) (xs.size - 1)
    have e : numsOf (intItems xs).toList = ns := by rw [← hxs]; exact hn
    rw [nums_intItems] at e
    have M1 : numAt xs (argBest (fun i j => decide (numAt xs i > numAt xs j)) (xs.size - 1)) ∈ ns := by
      rw [← e, numAt_eq]; exact getD_mem (by rw [List.length_map, Array.length_toList]; omega)
    have M2 : ∀ b ∈ ns, b ≤ numAt xs (argBest (fun i j => decide (numAt xs i > numAt xs j)) (xs.size - 1)) := fun b hb => by
      rw [← e] at hb
      obtain ⟨j, hj, rfl⟩ := mem_getD hb
      rw [List.length_map, Array.length_toList] at hj
      rw [← numAt_eq]; exact h2 j (by omega)
    exact ⟨.int (topOf ns), H2, I2.kept hk, ⟨t, by rw [topOf_of M1 M2]⟩, q⟩
  cases r2 with
  | cons r3 r4 => cases r4; exact fin _
end

/-! ### xs != [] , xs == [] -/
section
variable {X : Cx}
theorem op_neNil (hu : X.A.units < cLine) : OpR X (compareOp .NotEq) (fun x y H Q => ∃ a b xs, x = .ref a ∧ y = .ref b ∧ SqL X.K H a xs ∧ SqL X.K H b [] ∧ Q (.bl (!xs.isEmpty)) H) := by
  intro pins s σ H x y v u Q I rx ry h
  obtain ⟨a, b, xs, rfl, rfl, ha, hb, q⟩ := h
  cases rx
  cases ry
  obtain ⟨its, rv, pl, hz⟩ := I.list ha
  obtain ⟨its2, rv2, pl2, hz2⟩ := I.list hb
  cases rv2
  cases xs with
  | nil =>
    cases rv
    exact SeqAt.RcNeAt.lists (e := fun _ => true) pl.isList pl2.isList rfl hu (fun j h1 _ => absurd h1 (by simp)) _ _ _ _ ⟨.bl false, H, I, rfl, q⟩
  | cons x r =>
    cases rv with
    | cons r1 r2 => exact SeqAt.RcNeAt.lists_lengths pl.isList pl2.isList (by simp) hu _ _ _ _ ⟨.bl true, H, I, rfl, q⟩
end

/-! ### slices of texts -/
def cutN {α : Type} (xs : List α) (lo hi : Option Int) : List α := (xs.drop (HT.sIx xs.length 0 lo)).take (HT.sIx xs.length xs.length hi - HT.sIx xs.length 0 lo)
theorem cutN_length {α : Type} (xs : List α) (lo hi : Option Int) : (cutN xs lo hi).length ≤ xs.length := by
  unfold cutN
  rw [List.length_take, List.length_drop]
  omega
theorem clip1 (v : Int) (n d : Nat) : max (0 : Int) (min (if v < 0 then v + (n : Int) else v) (n : Int)) = ((HT.sIx n d (some v) : Nat) : Int) := by
  show _ = (((if v < 0 then (v + (n : Int)).toNat else min v.toNat n) : Nat) : Int)
  by_cases hv : v < 0
  · rw [if_pos hv, if_pos hv]; omega
  · rw [if_neg hv, if_neg hv]; omega
theorem idx_clip (lo hi : Option Int) (n : Nat) : Builtin.Str.strSliceIndices lo hi 1 n = Builtin.Str.strSliceIndices (some ((HT.sIx n 0 lo : Nat) : Int)) (some ((HT.sIx n n hi : Nat) : Int)) 1 n := by
  have a1 := HT.sIx_le n 0 (Nat.zero_le _) lo
  have a2 := HT.sIx_le n n (Nat.le_refl _) hi
  have n1 : ¬ (((HT.sIx n 0 lo : Nat) : Int) < 0) := by omega
  have n2 : ¬ (((HT.sIx n n hi : Nat) : Int) < 0) := by omega
  have e1 : max (0 : Int) (min ((HT.sIx n 0 lo : Nat) : Int) (n : Int)) = ((HT.sIx n 0 lo : Nat) : Int) := by omega
  have e2 : max (0 : Int) (min ((HT.sIx n n hi : Nat) : Int) (n : Int)) = ((HT.sIx n n hi : Nat) : Int) := by omega
  have p1 : ((1 : Int) > 0) = True := by simp
  simp only [Builtin.Str.strSliceIndices, n1, n2, if_false, e1, e2, p1, if_true]
  cases lo with
  | none =>
    cases hi with
    | none => rfl
    | some v => simp only [clip1 v n n]; rfl
  | some u =>
    cases hi with
    | none => simp only [clip1 u n 0]; rfl
    | some v => simp only [clip1 u n 0, clip1 v n n]
theorem idx_none {a b n : Nat} (h : b ≤ a) : Builtin.Str.strSliceIndices (some (a : Int)) (some (b : Int)) 1 n = [] := by
  have n1 : ¬ ((a : Int) < 0) := by omega
  have n2 : ¬ ((b : Int) < 0) := by omega
  have p1 : ((1 : Int) > 0) = True := by simp
  have p2 : ¬ (max (0 : Int) (min (a : Int) (n : Int)) < max (0 : Int) (min (b : Int) (n : Int))) := by omega
  simp only [Builtin.Str.strSliceIndices, PySem.sliceRange, n1, n2, if_false, p1, if_true, p2]
  rfl
theorem strIdx_cut (x : Str) (lo hi : Option Int) : (StrLaws.sliceText x lo hi).cps.toList = cutN x.cps.toList lo hi := by
  have hn : x.cps.toList.length = x.length := by simp [Str.length]
  unfold cutN
  rw [hn]
  have a2 := HT.sIx_le x.length x.length (Nat.le_refl _) hi
  by_cases h : HT.sIx x.length 0 lo ≤ HT.sIx x.length x.length hi
  · have q := StrLaws.sliceText_nat x h a2
    have e : StrLaws.sliceText x lo hi = StrLaws.sliceText x (some ((HT.sIx x.length 0 lo : Nat) : Int)) (some ((HT.sIx x.length x.length hi : Nat) : Int)) := by
      unfold StrLaws.sliceText
      rw [idx_clip lo hi x.length]
    rw [e, q]
  · have z : HT.sIx x.length x.length hi - HT.sIx x.length 0 lo = 0 := by omega
    rw [z, List.take_zero]
    unfold StrLaws.sliceText
    rw [idx_clip lo hi x.length, idx_none (by omega)]
    split
    · rename_i c
      have c' : (0 : Nat) = x.length := by simpa using c
      exact List.eq_nil_of_length_eq_zero (by rw [hn]; exact c'.symm)
    · rfl
def rSlS : V → Option Int → Option Int → Hp → VK → Prop := fun x lo hi H Q => ∃ z : Str, x = .str z ∧ z.length ≤ sizeLine ∧ ∀ y : Str, y.cps.toList = cutN z.cps.toList lo hi → Q (.str y) H
theorem sl_str {X : Cx} : SlR X rSlS := by
  intro pins s σ H x v vl vu lo hi sl Q I rx hs pl pu h
  obtain ⟨z, rfl, hz, q⟩ := h
  obtain ⟨t, rfl⟩ := rx
  refine ⟨"str", _, F.slot_str_getitem.lookup, typeIs_str _ z t, ?_⟩
  have fin : ∀ (l u : Option (Int × Tok)), l.map (·.1) = lo → u.map (·.1) = hi → s.heap.IsSlice sl l u none → wpAny (model X.prog X.w) X.A (getItem (.str z t) (.ref sl)) (EP X pins σ Q) X.xe s := fun l u el eu hq => by
    refine wpAny_getItem_str_slice hq rfl ?_
    have hc := strIdx_cut z lo hi
    unfold StrLaws.sliceText at hc
    unfold sliceMade slicePicked
    rw [el, eu]
    show (if ((1 : Int) == 1 && (Builtin.Str.strSliceIndices lo hi 1 z.length).length == z.length) = true then Made.val (.str z t) else .str ⟨((Builtin.Str.strSliceIndices lo hi 1 z.length).filterMap (z.cps[·]?)).toArray⟩).post (EP X pins σ Q) s
    split
    · rename_i c
      rw [if_pos c] at hc
      exact ⟨.str z, H, I, ⟨t, rfl⟩, q z hc⟩
    · rename_i c
      rw [if_neg c] at hc
      have hl : (Str.mk ((Builtin.Str.strSliceIndices lo hi 1 z.length).filterMap (z.cps[·]?)).toArray).length ≤ z.length := by
        have e := cutN_length z.cps.toList lo hi
        rw [← hc] at e
        simpa [Str.length] using e
      exact ⟨Nat.le_trans hl hz, .str ⟨((Builtin.Str.strSliceIndices lo hi 1 z.length).filterMap (z.cps[·]?)).toArray⟩, H, I.tok _, ⟨_, rfl⟩, q _ hc⟩
  cases pl with
  | none =>
    cases pu with
    | none => exact fin none none rfl rfl hs
    | int j t' => exact fin none (some (j, t')) rfl rfl hs
  | int i t'' =>
    cases pu with
    | none => exact fin (some (i, t'')) none rfl rfl hs
    | int j t' => exact fin (some (i, t'')) (some (j, t')) rfl rfl hs

/-! ### isinstance(x, T) for a built-in type T -/
section
variable {X : Cx} {x : Expr} {te : TE} {p p2 pos : Pos} {T : Str} {Ty : String}
def tInst (K : PySem.W.Frag) (Ty : String) (te : TE) : TE := fun σ H Q => te σ H fun v H1 => ∃ v', [v, V.ty Ty] = [v', V.ty Ty] ∧ ∃ t b, TyOf K H1 v' t ∧ PySem.W.kitOne K t (.type Ty) = some b ∧ Q (.bl b) H1
theorem pe_inst (hg : Gl X "isinstance") (hm : X.mg "isinstance" = none) (hgT : Gl X T) (hmT : X.mg T = none) (hvT : bootBuiltins T = some (.type Ty)) (he : PE X x te) (hn : T ≠ "__name__" := by decide) (hdT : (T == ("__debug__" : Str)) = false := by decide)
    (hs : starEach [x, .Name T p2] X.env = (false, eval x X.env) :: starEach [.Name T p2] X.env := by rfl) (hs2 : starEach [.Name T p2] X.env = [(false, eval (.Name T p2) X.env)] := by rfl)
    (hpl : (backTo pos (starEach [.Name T p2] X.env)).any (·.1) = false := by rfl) :
    PE X (.Call (.Name "isinstance" p) [x, .Name T p2] [] pos) (tInst X.K Ty te) := by
  have c : CallR X (.builtin "isinstance") (fun xs H Q => ∃ v, xs = [v, .ty Ty] ∧ ∃ t b, TyOf X.K H v t ∧ PySem.W.kitOne X.K t (.type Ty) = some b ∧ Q (.bl b) H) := by
    intro pins s σ H xs us Q I r h
    obtain ⟨v, rfl, t, b, ty, e, q⟩ := h
    obtain ⟨u, w', rfl, ru, rw'⟩ := vals2 r
    cases (show w' = Value.type Ty from rw')
    exact isinst_ok I ru ty e fun tk => ⟨.bl b, H, I.tok tk, rfl, q⟩
  have pa : PA X [x, .Name T p2] (tCons te (tCons (tC (.ty Ty)) tNil)) := pa_cons he (pa_cons (pe_bltn hgT hmT hvT rfl hn hdT) pa_nil hs2) hs
  exact pe_callB (p := p) (pos := pos) c hg hm PyProof.Rows.boot_isinstance pa (by decide) (by decide) hs hpl
end
end L2

set_option Elab.async false
set_option linter.all false
set_option maxRecDepth 100000
/-! CALLEES, comprehensions' scopes, built-in names -/
namespace L2
open PySem PySem.Spec PyProof.Rows

/-- the def called x keeps its promise, within k calls -/
def Callee (P : Program) (w : World) (K : PySem.W.Frag) (mg : Str → Option Value) (base : Heap) (x : Str) (k : Nat) (ps : List Str) (sp : Sp) : Prop :=
  ∃ f fd, FnOk P w K mg base CX0 k f fd ps sp ∧ mg x = some (.ref f) ∧ PySem.W.keepIn K (.ref f) = true ∧ Binds K fd ps []
theorem Callee.mono {P : Program} {w : World} {K : PySem.W.Frag} {mg : Str → Option Value} {base : Heap} {x : Str} {j k : Nat} {ps : List Str} {sp : Sp} (c : Callee P w K mg base x j ps sp) (h : j ≤ k) : Callee P w K mg base x k ps sp := by
  obtain ⟨f, fd, F, m, kp, b⟩ := c
  exact ⟨f, fd, F.mono h, m, kp, b⟩
theorem Callee.imp {P : Program} {w : World} {K : PySem.W.Frag} {mg : Str → Option Value} {base : Heap} {x : Str} {k : Nat} {ps : List Str} {sp sp' : Sp} (c : Callee P w K mg base x k ps sp) (h : ∀ vs H Q E, sp' vs H Q E → sp vs H Q E) : Callee P w K mg base x k ps sp' := by
  obtain ⟨f, fd, F, m, kp, b⟩ := c
  exact ⟨f, fd, F.imp h, m, kp, b⟩
section
variable {X : Cx} {x : Str} {k j : Nat} {ps : List Str} {sp : Sp} {p pos : Pos} {e : Expr} {es : List Expr} {t : TA}
theorem pe_callC (c : Callee X.prog X.w X.K X.mg X.base x k ps sp) (hr : Room j X.A) (hk : k ≤ j) (hg : Gl X x) (ha : PA X (e :: es) t) (hdb : (x == ("__debug__" : Str)) = false := by decide)
    (he : starEach (e :: es) X.env = (false, eval e X.env) :: starEach es X.env := by rfl) (hpl : (backTo pos (starEach es X.env)).any (·.1) = false := by rfl) : PE X (.Call (.Name x p) (e :: es) [] pos) (tCall sp [] E0 t) := by
  obtain ⟨f, fd, F, m, kp, b⟩ := c
  exact pe_call F (hr.mono hk) hg m kp b .nil pass0 ha hdb he hpl
theorem pe_callC0 (c : Callee X.prog X.w X.K X.mg X.base x k ps sp) (hr : Room j X.A) (hk : k ≤ j) (hg : Gl X x) (hdb : (x == ("__debug__" : Str)) = false := by decide) : PE X (.Call (.Name x p) [] [] pos) (tCall sp [] E0 tNil) := by
  obtain ⟨f, fd, F, m, kp, b⟩ := c
  exact pe_call0 F (hr.mono hk) hg m kp b .nil pass0 hdb
end

section
variable {X : Cx} {scope : Scope} {own : List Str}
theorem mem_relabel {env : Env} {p : Str × NameKind} (h : p ∈ (relabel scope env).names) : ∃ q ∈ scope.names, q.1 = p.1 ∧ (p.2 = q.2 ∨ (q.2 = .free ∧ p.2 = .cell)) := by
  obtain ⟨q, hq, e⟩ := List.mem_map.mp (show p ∈ scope.names.map _ from h)
  refine ⟨q, hq, ?_⟩
  obtain ⟨n, k⟩ := q
  dsimp only at e
  split at e
  · rename_i c
    subst e
    refine ⟨rfl, .inr ⟨?_, rfl⟩⟩
    simp only [Bool.and_eq_true, beq_iff_eq] at c
    exact c.1.1
  · subst e
    exact ⟨rfl, .inl rfl⟩
/-- a comprehension that reads no name of the def -/
theorem compOk0 (hk : scope.kind = .function) (hn : ∀ y ∈ scope.names, y.2 ≠ .free ∧ y.2 ≠ .cell) (hl : ∀ y ∈ scope.names, y.2 = .local → scope.names.lookup y.1 = some .local) : CompOk X scope [] own [] where
  clos := closureFor_none fun y hy => (hn y hy).1
  cell := fun y hy => (hn y hy).2
  kind := hk
  names := hl
  sub := fun x c h => nomatch h
  has := fun p hp h => by
    obtain ⟨q, hq, e1, e2⟩ := mem_relabel hp
    have n := hn q hq
    rcases e2 with e2 | ⟨e2, _⟩
    · rw [e2] at h
      rcases h with h | h
      · exact absurd h n.2
      · exact absurd h n.1
    · exact absurd e2 n.1
  caps := fun p hp => nomatch hp
def AllCl (cells : List (Str × Addr)) : List (Str × Addr) → Prop
  | [] => True
  | p :: r => cells.lookup p.1 = some p.2 ∧ AllCl cells r
theorem AllCl.mem {cells : List (Str × Addr)} : ∀ {cl : List (Str × Addr)}, AllCl cells cl → ∀ p ∈ cl, cells.lookup p.1 = some p.2
  | [], _, p, h => nomatch h
  | q :: r, h, p, hp => by
    rcases List.mem_cons.mp hp with rfl | hp
    · exact h.1
    · exact AllCl.mem h.2 p hp
def AllCap (X : Cx) (scope : Scope) : List (Nat × Str) → Prop
  | [] => True
  | p :: r => (X.N[p.1]? = some p.2 ∧ X.env.kindOf p.2 = some .cell ∧ (relabel scope X.env).names.lookup p.2 = some .cell) ∧ AllCap X scope r
theorem AllCap.mem : ∀ {cap : List (Nat × Str)}, AllCap X scope cap → ∀ p ∈ cap, X.N[p.1]? = some p.2 ∧ X.env.kindOf p.2 = some .cell ∧ (relabel scope X.env).names.lookup p.2 = some .cell
  | [], _, p, h => nomatch h
  | q :: r, h, p, hp => by
    rcases List.mem_cons.mp hp with rfl | hp
    · exact h.1
    · exact AllCap.mem h.2 p hp
/-- a comprehension that reads names of the def (cells) -/
theorem compOkC {cl : List (Str × Addr)} {cap : List (Nat × Str)} (hk : scope.kind = .function) (hn : ∀ y ∈ scope.names, y.2 ≠ .cell) (hl : ∀ y ∈ scope.names, y.2 = .local → scope.names.lookup y.1 = some .local)
    (hc : closureFor scope X.env = pure cl) (ha : AllCl X.env.cells cl) (hh : ((relabel scope X.env).names.all fun p => !(p.2 == .cell || p.2 == .free) || (cl.lookup p.1).isSome) = true) (hcap : AllCap X scope cap) : CompOk X scope cl own cap where
  clos := hc
  cell := hn
  kind := hk
  names := hl
  sub := fun x c h => ha.mem _ (mem_of_lookup h)
  has := fun p hp h => by
    have q := List.all_eq_true.mp hh p hp
    rcases h with h | h <;> · rw [h] at q; simpa using q
  caps := fun p hp => by
    obtain ⟨h1, h2, h3⟩ := hcap.mem p hp
    exact ⟨h1, .inr (.inl h2), by rw [h2]; decide, by rw [h3]; decide, .inl h3⟩
end
/-- what is wanted behind a statement, said anew -/
def tCut (t : TS) : TS := fun D σ H => ∃ P : St → Hp → Prop, t { D with nx := P } σ H ∧ ∀ σ H, P σ H → D.nx σ H
theorem ps_cut {X : Cx} {st : Stmt} {t : TS} (h : PS X st t) : PS X st (tCut t) := by
  refine .mk ?_
  intro pins s σ H D I q
  obtain ⟨P, q1, q2⟩ := q
  refine thn (h pins s σ H _ I q1) fun f s' z => ?_
  cases f with
  | next => obtain ⟨σ', H', I', p⟩ := z; exact ⟨σ', H', I', q2 _ _ p⟩
  | brk => exact z
  | cont => exact z
  | ret u => exact z
theorem bt_bool : bootBuiltins "bool" = some (.type "bool") := by decide +kernel
theorem bt_int : bootBuiltins "int" = some (.type "int") := by decide +kernel
theorem bt_str : bootBuiltins "str" = some (.type "str") := by decide +kernel
theorem bt_tuple : bootBuiltins "tuple" = some (.type "tuple") := by decide +kernel
theorem bt_list : bootBuiltins "list" = some (.type "list") := by decide +kernel
theorem bt_dict : bootBuiltins "dict" = some (.type "dict") := by decide +kernel
/-- what was tracked stays, but at l -/
def Kp (l : List Addr) (H H' : Hp) : Prop := ∀ b o, b ∉ l → H b = some o → H' b = some o
theorem Kp.refl {l : List Addr} (H : Hp) : Kp l H H := fun _ _ _ h => h
theorem Kp.trans {l : List Addr} {H H1 H2 : Hp} (a : Kp l H H1) (b : Kp l H1 H2) : Kp l H H2 := fun c o n h => b c o n (a c o n h)
theorem Kp.mono {l l' : List Addr} {H H1 : Hp} (a : Kp l H H1) (s : ∀ b ∈ l, b ∈ l') : Kp l' H H1 := fun c o n h => a c o (fun z => n (s c z)) h
theorem Kp.new {l : List Addr} {H : Hp} {p : Addr} (h : H p = none) (o : HO) : Kp l H (upd H p o) := fun b u _ q => by rw [upd_ne (ne_of_none q h)]; exact q
theorem Kp.set {l : List Addr} {H : Hp} {p : Addr} (h : p ∈ l) (o : HO) : Kp l H (upd H p o) := fun b u n q => by
  have e : b ≠ p := fun z => n (by rw [z]; exact h)
  rw [upd_ne e]; exact q
/-- a tuple stays -/
def Tp (H H' : Hp) : Prop := ∀ b xs, H b = some (.tup xs) → H' b = some (.tup xs)
theorem Tp.refl (H : Hp) : Tp H H := fun _ _ h => h
theorem Tp.trans {H H1 H2 : Hp} (a : Tp H H1) (b : Tp H1 H2) : Tp H H2 := fun c o h => b c o (a c o h)
theorem Kp.tp {l : List Addr} {H H' : Hp} (k : Kp l H H') (n : ∀ b ∈ l, ∀ xs, H b ≠ some (.tup xs)) : Tp H H' := fun b xs h => k b _ (fun z => n b z xs h) h
end L2

set_option Elab.async false
set_option linter.all false
set_option maxRecDepth 100000
set_option maxHeartbeats 1000000
/-! EXCEPTIONS: raised, and passed on through a frame -/
namespace L2
open PySem PySem.Spec PyProof.Rows PySem.W

/-- an own exception class, as the written part has it -/
theorem exc_obj {K : Frag} {h : Heap} {C : Addr} {bmB : List Value} {newId : String} (X : K.In h) (q : excIn K C bmB newId = true) :
    ∃ bm N nm q bs hdct sn sub ab col dd k0 k1 k2 k3 k5 mN, h.get? C = some (excClassObj nm q C N bs bm hdct sn sub ab col dd k0 k1 k2 k3 k5 newId) ∧ h.Ns N mN ∧ mN "__init__" = none ∧ OwnTail h bmB bm := by
  unfold excIn at q
  split at q
  · rename_i dd cd sl ho
    split at q
    · rename_i C' bm k0 k1 k2 k3 n k5 hm hs
      simp only [Bool.and_eq_true, beq_iff_eq, Bool.not_eq_true'] at q
      obtain ⟨⟨⟨⟨⟨rfl, rfl⟩, hdel⟩, ht⟩, hok⟩, hni⟩ := q
      obtain ⟨nm, bs, mro, ns, qn, hd, sn, sub, ab, col, del⟩ := cd
      dsimp only at hm hdel hok hni
      subst hm hdel
      have hsl : sl = #[k0, k1, k2, k3, some (.builtin n), k5] := by
        obtain ⟨l⟩ := sl
        simp only at hs
        rw [hs]
      subst hsl
      exact ⟨bm, ns, nm, qn, bs, hd, sn, sub, ab, col, dd, k0, k1, k2, k3, k5, _, X _ _ ho, .of_isNs (isNs_of_in X hok), nsMap_none_of_in X hok hni, tail_of_in X ht⟩
    · cases q
  · cases q

/-- what is kept in B, the part of the heap that no passing of an exception touches -/
structure UnB (fs : List Addr) (H H' : Hp) (h B h' : Heap) : Prop where
  keep : ∀ b o, h.get? b = some o → H b = none → b ∉ fs → B.get? b = some o
  slot : ∀ b o, h.get? b = some o → H b = none → b ∈ fs → ∃ sl, h'.get? b = some { o with slots := sl }
  free : ∀ b o, h.get? b = some o → H b = none → H' b = none
  there : ∀ b o, h.get? b = some o → b ∉ fs → ∃ o', B.get? b = some o'
  tups : ∀ b xs, H b = some (.tup xs) → H' b = some (.tup xs)
  frzs : ∀ b o u, H b = some (.frz o u) → H' b = some (.frz o u)
  tbls : ∀ b ps, H b = some (.tbl ps) → ∃ more, H' b = some (.tbl (ps ++ more))
theorem UnB.un {fs : List Addr} {H H' : Hp} {h B h' : Heap} (u : UnB fs H H' h B h') (st : B.StaysIn h') (hf : ∀ b ∈ fs, H b = none) : Un fs [] H H' h h' :=
  ⟨fun b o e n hb _ => st b o (u.keep b o e n hb), fun b o e n hb _ => u.slot b o e n hb, fun b o e n _ => u.free b o e n, fun b o e _ => by
    by_cases hb : b ∈ fs
    · obtain ⟨sl, q⟩ := u.slot b o e (hf b hb) hb
      exact ⟨_, q⟩
    · obtain ⟨o', q⟩ := u.there b o e hb
      exact ⟨o', st b o' q⟩, u.tups, u.frzs, u.tbls⟩

/-- an exception of a callee, in flight over the callers' frames -/
def CXe (P : Program) (w : World) : CXT := fun outer H s E e s' => ∃ (x : Addr) (C a0 : Value) (H' : Hp) (B : Heap), e = .ref x ∧ s'.os = s.os ∧ AllBare s'.gens ∧
  Heap.FlyingW B outer x C a0 s'.heap ∧ HOk P w H' B ∧ UnB (frs outer) H H' s.heap B s'.heap ∧ E C none H'

/-- a new exception that this body makes reaches what it wants of exceptions -/
def Raises (X : Cx) (E : XK) : Prop := ∀ (pins : List (Addr × Obj)) (σ : St) (H : Hp) (s : Shared) (h' : Heap) (x : Addr) (C : Value) (vs : List Value), Inv X pins σ H s → Heap.MadeExcOf s.heap h' x C vs → E C none H → X.xe (.ref x) { s with heap := h' }

section
variable {X : Cx} {x : Str} {C : Addr} {bmB : List Value} {B newId initId : String} {np cpos pos : Pos} {e₀ : Expr} {rest : List Expr} {t : TA} {E : XK}
def tRaise (E : XK) (C : Addr) (t : TA) : TS := fun _ σ H => t σ H fun vs H1 => vs.length ≤ sizeLine ∧ E (.ref C) none H1
theorem ps_raise (hc : X.calm = true) (hg : Gl X x) (hm : X.mg x = some (.ref C)) (hx : excIn X.K C bmB newId = true) (FB : ExcBaseFacts B newId initId bmB) (ha : PA X (e₀ :: rest) t) (hE : Raises X E)
    (hd : (x == ("__debug__" : Str)) = false := by decide) (he : starEach (e₀ :: rest) X.env = (false, eval e₀ X.env) :: starEach rest X.env := by rfl) (hpl : (backTo cpos (starEach rest X.env)).any (·.1) = false := by rfl) :
    PS X (.Raise (some (.Call (.Name x np) (e₀ :: rest) [] cpos)) none pos) (tRaise E C t) := by
  refine .mk ?_
  intro pins s σ H D I h
  obtain ⟨bm, N, nm, q, bs, hdct, sn, sub, ab, col, dd, k0, k1, k2, k3, k5, mN, hC, hN, hni, T⟩ := exc_obj I.mod.kin hx
  refine wpAny_Raise_call_subT (C := C) (nm := nm) (q := q) (N := N) (bs := bs) (bm := bm) (hdct := hdct) (sn := sn) (sub := sub) (ab := ab) (col := col) (dd := dd) (k0 := k0) (k1 := k1) (k2 := k2) (k3 := k3) (k5 := k5)
    FB (mN := mN) (T.hasType FB.hasBase) (I.ok.hd hc) (by rw [he]; show (false || (backTo cpos (starEach rest X.env)).any (·.1)) = false; rw [hpl]; rfl) hni (ld_glob I hg hm ⟨rfl, ?_⟩ hd)
  have hA := ha cpos pins s σ H _ I h
  rw [he] at hA ⊢
  refine Calls.evalArgs_plain (thn hA fun us s2 ⟨vs, H1, I1, r1, hz, q1⟩ => ?_)
  refine ⟨rfl, by rw [← r1.length]; exact hz, I1.bk _ _ hC, hN.keeps I1.bk, T.keeps I1.bk, fun h' e hM => hE pins σ H1 s2 h' e _ _ I1 hM q1⟩
end

section
variable {P : Program} {w : World} {K : PySem.W.Frag} {mg : Str → Option Value} {base : Heap} {N : List Str} {qual : Str} {scope : Scope} {f : Addr} {cd : Value} {A : Around} {outer : List Env} {s : Shared} {H : Hp} {E : XK}
abbrev cxE (P : Program) (w : World) (K : PySem.W.Frag) (mg : Str → Option Value) (base : Heap) (N : List Str) (qual : Str) (scope : Scope) (f : Addr) (cd : Value) (A : Around) (outer : List Env) (s : Shared) (H : Hp) (E : XK) : Cx :=
  cxOf (CXe P w) P w K mg base N qual scope f cd A outer s H E
theorem entry_notin {pins : List (Addr × Obj)} {σ : St} {H1 : Hp} {s1 : Shared} (I : Inv (cxE P w K mg base N qual scope f cd A outer s H E) pins σ H1 s1) {b : Addr} {o : Obj} (e : s.heap.get? b = some o) (hb : b ∉ frs outer) :
    b ∉ frs (envOfC qual scope s.heap.objs.size f cd :: outer) := fun hm => by
  rcases List.mem_cons.mp (I.stkSub b hm) with z | z
  · exact absurd (Heap.lt_size e) (by rw [z]; exact Nat.lt_irrefl _)
  · exact hb z
theorem frame_data {pins : List (Addr × Obj)} {σ : St} {H1 : Hp} {s1 : Shared} (I : Inv (cxE P w K mg base N qual scope f cd A outer s H E) pins σ H1 s1) {b : Addr} {o : Obj} (e : s.heap.get? b = some o) (hb : b ∈ frs outer) : ∀ vs, o.data ≠ .fields vs := by
  obtain ⟨_, o', ho', hd'⟩ := I.ok.funs.mem hb
  have e' : s.heap.get? b = some o' := ho'
  rw [e] at e'
  cases e'
  exact hd'
/-- raise in a def's body -/
theorem raise_def : Raises (cxE P w K mg base N qual scope f cd A outer s H E) E := by
  intro pins σ H1 s1 h' x C vs I M hE
  show wpAny (model P w) (A.deeper (envOfC qual scope s.heap.objs.size f cd)) (leaving (envOfC qual scope s.heap.objs.size f cd) (.ref x)) (fun _ s'' => CXe P w outer H s E (.ref x) s'') (fun e' s'' => CXe P w outer H s E e' s'') { s1 with heap := h' }
  have hin : ∀ env' ∈ envOfC qual scope s.heap.objs.size f cd :: outer, ∀ a, env'.frame = some a → a ∈ frs (envOfC qual scope s.heap.objs.size f cd :: outer) := fun env' he a ha => List.mem_filterMap.mpr ⟨env', he, ha⟩
  refine wpAny_leaves_madeW (base := hideAll s1.heap (frs (envOfC qual scope s.heap.objs.size f cd :: outer))) (h := s1.heap) I.ok.frames rfl (fun b o q => of_hideAll _ q) (funFrames_hide I.stack hin) M fun h2 t x1 x2 x3 x4 => ?_
  have nf : ∀ b u, H1 b = some u → b ∉ frs (envOfC qual scope s.heap.objs.size f cd :: outer) := fun b u q hm => by
    have z := I.stkFree b hm
    rw [q] at z; cases z
  refine ⟨x, C, .ref t, H1, _, rfl, I.os, I.bare, x1, fun a o q => ?_, ⟨fun b o q n hb => ?_, fun b o q n hb => ?_, fun b o q n => ?_, fun b o q hb => ?_, I.base.tups, I.base.frzs, I.base.tbls⟩, hE⟩
  · refine (I.hok a o q).stay (fun b u hb z => hideAll_get _ z ?_) (fun _ z => z) fun _ _ z => z
    rcases hb with rfl | hb
    · exact nf _ _ q
    · exact nf _ _ hb
  · exact hideAll_get _ (I.base.keep b o q n hb (by exact List.not_mem_nil)) (entry_notin I q hb)
  · obtain ⟨sl, z⟩ := I.base.slot b o q n hb (by exact List.not_mem_nil)
    obtain ⟨sl2, z2⟩ := x4 b _ (M.keeps _ _ z) (have fd := frame_data I q hb; fun vs => fd vs)
    exact ⟨sl2, z2⟩
  · exact I.base.free b o q n (by exact List.not_mem_nil)
  · obtain ⟨o', z⟩ := I.base.there b o q (by exact List.not_mem_nil)
    exact ⟨o', hideAll_get _ z (entry_notin I q hb)⟩
/-- a callee's exception goes through a def's body -/
theorem pass_def : Passes (CXe P w) (cxE P w K mg base N qual scope f cd A outer s H E) E := by
  intro pins σ H1 s1 e s2 I h
  obtain ⟨x, C, a0, H', B, rfl, os, bare, fl, hok, u, hE⟩ := h
  show wpAny (model P w) (A.deeper (envOfC qual scope s.heap.objs.size f cd)) (leaving (envOfC qual scope s.heap.objs.size f cd) (.ref x)) (fun _ s'' => CXe P w outer H s E (.ref x) s'') (fun e' s'' => CXe P w outer H s E e' s'') s2
  refine wpAny_leaves_onW I.ok.frames rfl fl fun h2 f2 up => ?_
  refine ⟨x, C, a0, H', B, rfl, os.trans I.os, bare, f2, hok, ⟨fun b o q n hb => ?_, fun b o q n hb => ?_, fun b o q n => ?_, fun b o q hb => ?_, fun b xs q => u.tups b xs (I.base.tups b xs q), fun b o v q => u.frzs b o v (I.base.frzs b o v q), fun b ps q => ?_⟩, hE⟩
  · exact u.keep b o (I.base.keep b o q n hb (by exact List.not_mem_nil)) (I.base.free b o q n (by exact List.not_mem_nil)) (entry_notin I q hb)
  · obtain ⟨sl, z⟩ := I.base.slot b o q n hb (by exact List.not_mem_nil)
    have hm : b ∈ frs (envOfC qual scope s.heap.objs.size f cd :: outer) := by
      obtain ⟨env', he, ha⟩ := List.mem_filterMap.mp hb
      exact List.mem_filterMap.mpr ⟨env', List.mem_cons_of_mem _ he, ha⟩
    obtain ⟨sl2, z2⟩ := u.slot b _ z (I.base.free b o q n (by exact List.not_mem_nil)) hm
    obtain ⟨sl3, z3⟩ := up b _ z2 (have fd := frame_data I q hb; fun vs => fd vs)
    exact ⟨sl3, z3⟩
  · obtain ⟨o', z⟩ := I.base.there b o q (by exact List.not_mem_nil)
    exact u.free b o' z (I.base.free b o q n (by exact List.not_mem_nil))
  · obtain ⟨o', z⟩ := I.base.there b o q (by exact List.not_mem_nil)
    exact u.there b o' z (entry_notin I q hb)
  · obtain ⟨m1, z1⟩ := I.base.tbls b ps q
    obtain ⟨m2, z2⟩ := u.tbls b _ z1
    exact ⟨m1 ++ m2, by rw [z2, Array.append_assoc]⟩
theorem own_def : PassesOwn (model P w) (cxE P w K mg base N qual scope f cd A outer s H E).A (cxE P w K mg base N qual scope f cd A outer s H E).env (cxE P w K mg base N qual scope f cd A outer s H E).xe := PassesOwn.leaving
end

/-- a def that may raise: what it wants of exceptions is handed on -/
theorem Fun.okX {P : Program} {w : World} {K : PySem.W.Frag} {mg : Str → Option Value} {base : Heap} {x qual : Str} {st : Stmt} {f : Addr} {fd : FuncData} {N ps : List Str} {k : Nat} {sp : Sp} (F : Fun K x qual st f fd) (S : FnScope N ps (defScope st)) (len : ∀ vs H Q E, sp vs H Q E → vs.length = ps.length)
    (hbody : ∀ (cdv : Value) (A : Around) (outer : List Env) (s : Shared) (H : Hp) (vs : List V) (Q : VK) (E : XK), Room k (A.deeper (envOfC qual (defScope st) s.heap.objs.size f cdv)) → sp vs H Q E →
      ∃ t, PSs (cxE P w K mg base N qual (defScope st) f cdv A outer s H E) (defBody st) t ∧ t { nx := fun _ H' => Q .non H', rt := Q } (start N vs) H) : FnOk P w K mg base (CXe P w) (k + 1) f fd ps sp := by
  obtain ⟨oc, od, kV, doc, pm, an, cdv, ct, osl, rfl, lk, hcd⟩ := F.ex
  exact fn_of lk hcd S len fun A outer s H vs Q E hr hsp => hbody cdv A outer s H vs Q E hr hsp
/-- the def called x, that may raise, keeps its promise within k calls -/
def CalleeX (P : Program) (w : World) (K : PySem.W.Frag) (mg : Str → Option Value) (base : Heap) (x : Str) (k : Nat) (ps : List Str) (sp : Sp) : Prop :=
  ∃ f fd, FnOk P w K mg base (CXe P w) k f fd ps sp ∧ mg x = some (.ref f) ∧ PySem.W.keepIn K (.ref f) = true ∧ Binds K fd ps []
section
variable {X : Cx} {x : Str} {k j : Nat} {ps : List Str} {sp : Sp} {p pos : Pos} {e : Expr} {es : List Expr} {t : TA} {E : XK}
theorem pe_callX (c : CalleeX X.prog X.w X.K X.mg X.base x k ps sp) (hr : Room j X.A) (hk : k ≤ j) (hg : Gl X x) (hx : Passes (CXe X.prog X.w) X E) (ha : PA X (e :: es) t) (hdb : (x == ("__debug__" : Str)) = false := by decide)
    (he : starEach (e :: es) X.env = (false, eval e X.env) :: starEach es X.env := by rfl) (hpl : (backTo pos (starEach es X.env)).any (·.1) = false := by rfl) : PE X (.Call (.Name x p) (e :: es) [] pos) (tCall sp [] E t) := by
  obtain ⟨f, fd, F, m, kp, b⟩ := c
  exact pe_call F (hr.mono hk) hg m kp b .nil hx ha hdb he hpl
end
end L2

set_option Elab.async false
set_option linter.all false
set_option maxRecDepth 100000
set_option maxHeartbeats 1000000
/-! EXCEPTIONS CAUGHT: try .. except C as e, try .. except C -/
namespace L2
open PySem PySem.Spec PyProof.Rows PySem.W

theorem ObjOk.got {P : Program} {w : World} {H : Hp} {h : Heap} {a : Addr} {o : HO} (x : ObjOk P w H h a o) : ∃ u, h.get? a = some u := by
  cases o with
  | lst xs => obtain ⟨_, _, _, _, e⟩ := x; exact ⟨_, e⟩
  | tup xs => obtain ⟨_, _, _, o, e, _⟩ := x; exact ⟨_, e⟩
  | dK kvs => obtain ⟨_, _, _, _, o, _, _, e, _⟩ := x; exact ⟨_, e⟩
  | dT kvs => obtain ⟨_, _, _, _, o, _, _, e, _⟩ := x; exact ⟨_, e⟩
  | set S n => obtain ⟨o, _, _, _, e, _⟩ := x; exact ⟨_, e⟩
  | ins C dx fs => obtain ⟨_, _, _, e, _⟩ := x; exact ⟨_, e⟩
  | own y => exact x
  | xd fs => obtain ⟨_, ⟨_, _, _, e, _⟩, _⟩ := x; exact ⟨_, e⟩
  | rng lo hi => obtain ⟨_, _, _, e⟩ := x; exact ⟨_, e⟩
  | frz ob u => obtain ⟨e, _⟩ := x; exact ⟨_, e⟩
  | tbl ps => exact ⟨_, (show h.get? a = some _ from x)⟩
  | met f y => exact ⟨_, (show h.get? a = some _ from x)⟩
  | ext φ => obtain ⟨_, e, _⟩ := x; exact e

/-- an exception object, known by its class -/
def excAt (x : Addr) (C : Value) : Heap → Prop := fun h => ∃ ob, h.get? x = some ob ∧ ob.cls = C

section
variable {X : Cx} {pins : List (Addr × Obj)} {σ : St} {H : Hp} {s : Shared}
/-- an object that stands there, tracked from now on -/
theorem Inv.track {a : Addr} {φ : Heap → Prop} (I : Inv X pins σ H s) (hn : H a = none) (h0 : ∀ b o, X.s₀.heap.get? b = some o → b ∉ X.ex → b ≠ a) (hL : a ≠ X.env.locals) (hC : ∀ x c, X.env.cells.lookup x = some c → c ≠ a)
    (hp : ∀ p ∈ X.pn ++ pins, p.1 ≠ a) (new : ObjOk X.prog X.w (upd H a (.ext φ)) s.heap a (.ext φ)) : Inv X pins σ (upd H a (.ext φ)) s where
  ok := I.ok
  os := I.os
  bare := I.bare
  base := ⟨I.base.keep, I.base.slot, fun b o e n hx => by rw [upd_ne (h0 b o e hx)]; exact I.base.free b o e n hx, I.base.there,
    fun b xs q => by have z := I.base.tups b xs q; rw [upd_ne (ne_of_none z hn)]; exact z, fun b o u q => by have z := I.base.frzs b o u q; rw [upd_ne (ne_of_none z hn)]; exact z,
    fun b ps q => by obtain ⟨m, z⟩ := I.base.tbls b ps q; exact ⟨m, by rw [upd_ne (ne_of_none z hn)]; exact z⟩⟩
  loc := I.loc
  cell := I.cell
  free := by rw [upd_ne hL.symm]; exact I.free
  freeC := fun x c e => by rw [upd_ne (hC x c e)]; exact I.freeC x c e
  pin := fun p hp' => by
    obtain ⟨a1, a2, a3⟩ := I.pin p hp'
    exact ⟨a1, by rw [upd_ne (hp p hp')]; exact a2, a3⟩
  hok := fun b o e => by
    by_cases hb : b = a
    · subst hb; rw [upd_same] at e; cases e; exact new
    · rw [upd_ne hb] at e
      exact (I.hok b o e).stay (fun _ _ _ q => q) (fun c q => by rw [upd_ne (ne_of_none q hn)]; exact q) fun c xs q => by rw [upd_ne (ne_of_none q hn)]; exact q
  len := I.len

abbrev Cx.tr (X : Cx) (E' : Value → Shared → Prop) (pn : List (Addr × Obj)) : Cx := { X with xe := E', pn := pn }
abbrev Cx.su (X : Cx) (x : Addr) : Cx := { X with A := X.A.mark (some (.ref x)), calm := false, xe := fun _ _ => False }
theorem Cx.Ok.tr (ok : X.Ok) (E' : Value → Shared → Prop) (pn : List (Addr × Obj)) : (X.tr E' pn).Ok :=
  ⟨ok.mod, ok.kind, ok.glob, ok.blt, ok.above, ok.inj, ok.has, ok.cab, ok.hd, ok.frames, ok.stk, ok.exf, ok.bs, ok.bsz, ok.noex, ok.exfs, ok.funs, ok.frf⟩
theorem Cx.Ok.su (ok : X.Ok) (x : Addr) : (X.su x).Ok :=
  ⟨ok.mod, ok.kind, ok.glob, ok.blt, ok.above, ok.inj, ok.has, ok.cab, (fun z => absurd (show false = true from z) (by decide)), ok.frames, ok.stk, ok.exf, ok.bs, ok.bsz, ok.noex, ok.exfs, ok.funs, ok.frf⟩
theorem Inv.tr (I : Inv X pins σ H s) (E' : Value → Shared → Prop) : Inv (X.tr E' (X.pn ++ pins)) [] σ H s :=
  ⟨I.ok.tr E' _, I.os, I.bare, I.base, I.loc, I.cell, I.free, I.freeC, fun p hp => I.pin p (by simpa using hp), I.hok, I.len⟩
theorem Inv.untr {E' : Value → Shared → Prop} {pins' : List (Addr × Obj)} (ok : X.Ok) (I : Inv (X.tr E' (X.pn ++ pins)) pins' σ H s) : Inv X pins σ H s :=
  ⟨ok, I.os, I.bare, I.base, I.loc, I.cell, I.free, I.freeC, fun p hp => I.pin p (List.mem_append_left _ hp), I.hok, I.len⟩
theorem Inv.su (I : Inv X pins σ H s) (x : Addr) : Inv (X.su x) pins σ H s := ⟨I.ok.su x, I.os, I.bare, I.base, I.loc, I.cell, I.free, I.freeC, I.pin, I.hok, I.len⟩
theorem Inv.unsu {x : Addr} (ok : X.Ok) (I : Inv (X.su x) pins σ H s) : Inv X pins σ H s := ⟨ok, I.os, I.bare, I.base, I.loc, I.cell, I.free, I.freeC, I.pin, I.hok, I.len⟩

/-- the name of an except clause goes behind its suite -/
theorem goes_ok {M : Model} {A : Around} {E : Value → Shared → Prop} {j : Nat} {n : Str} {pos : Pos} {Q : Unit → Shared → Prop} (I : Inv X pins σ H s) (hN : X.N.Nodup) (hi : X.N[j]? = some n) (hk : X.env.scope.names.lookup n = some .local)
    (h : ∀ s', Inv X pins (σ.set j none) H s' → Q () s') : wpAny M A (do bindName X.env n .none; unbindBehindTheSuite X.env n pos) Q E s := by
  obtain ⟨m, hn, hl⟩ := id I.loc
  have hcls : (X.env.scope.kind == .class || (X.env.scope.kind == .module && X.env.locals != X.env.globals)) = false := by rw [I.ok.kind]; rfl
  have hjσ : j < σ.length := by rw [I.len]; exact (List.getElem?_eq_some_iff.mp hi).1
  refine wpAny_nameGoes_keeps hk hn hcls fun h' v hn' hs => h _ ?_
  have nL : ∀ b o, X.s₀.heap.get? b = some o → b ≠ X.env.locals := fun b o e => Nat.ne_of_lt (Nat.lt_of_lt_of_le (Heap.lt_size e) I.ok.above)
  refine ⟨I.ok, I.os, I.bare, ⟨fun b o e n' hb hx => (hs.2 b (nL b o e)).trans (I.base.keep b o e n' hb hx), fun b o e n' hb hx => ?_, I.base.free, fun b o e hx => ?_, I.base.tups, I.base.frzs, I.base.tbls⟩, ⟨_, hn', fun i y v' e1 e2 e3 => ?_⟩, fun y c e => ?_, I.free, I.freeC, fun p hp => ?_, fun b ob e => ?_, by simpa using I.len⟩
  · obtain ⟨sl, e1⟩ := I.base.slot b o e n' hb hx
    exact ⟨sl, (hs.2 b (nL b o e)).trans e1⟩
  · obtain ⟨o', e1⟩ := I.base.there b o e hx
    exact ⟨o', (hs.2 b (nL b o e)).trans e1⟩
  · by_cases hj : i = j
    · subst hj
      rw [List.getElem?_set_self hjσ] at e2
      cases e2
    · rw [List.getElem?_set_ne (Ne.symm hj)] at e2
      obtain ⟨u', r', q⟩ := hl i y v' e1 e2 e3
      refine ⟨u', r', ?_⟩
      rcases q with ⟨k, e⟩ | ⟨k, c, e, z⟩
      · refine .inl ⟨k, ?_⟩
        have ny : y ≠ n := fun e => hj (nodup_ix hN e1 (e ▸ hi))
        simp [ny, e]
      · exact .inr ⟨k, c, e, z.sameBut hs (I.cne y c e)⟩
  · obtain ⟨w', z⟩ := I.cell y c e
    exact ⟨w', z.sameBut hs (I.cne y c e)⟩
  · obtain ⟨e, n', ne, nf, d⟩ := I.pin p hp
    exact ⟨(hs.2 p.1 ne).trans e, n', ne, nf, d⟩
  · refine (I.hok b ob e).stay (fun c w' hc q => (hs.2 c ?_).trans q) (fun _ q => q) fun _ _ q => q
    rintro rfl
    rcases hc with z | z
    · rw [← z, I.free] at e; cases e
    · rw [I.free] at z; cases z
end

section
variable {X : Cx} {body suite : List Stmt} {b₀ : Stmt} {y n : Str} {np hpos pos : Pos} {Cy : Addr} {j : Nat} {tb : (St → XK) → TS} {ts : TS}
/-- what is wanted of an exception in a try's body: the clause fits it, and its suite is done -/
def wTry (K : PySem.W.Frag) (Cy : Addr) (j : Nat) (ts : TS) (D : Ends) : St → XK := fun σ C _ H' => exmOne K C (.ref Cy) = some true ∧ ∀ x, H' x = none →
  ts { nx := fun σ2 H2 => D.nx (σ2.set j none) H2, rt := D.rt, bk := fun σ2 H2 => D.bk (σ2.set j none) H2, ct := fun σ2 H2 => D.ct (σ2.set j none) H2 } (σ.set j (some (.ref x))) (upd H' x (.ext (excAt x C)))
def tTry (K : PySem.W.Frag) (Cy : Addr) (j : Nat) (tb : (St → XK) → TS) (ts : TS) : TS := fun D σ H => tb (wTry K Cy j ts D) D σ H
/-- what an exception in the body meets -/
def eTry (X : Cx) (pins : List (Addr × Obj)) (D : Ends) (hs : List ExceptHandler) : Value → Shared → Prop := fun e s₁ =>
  wpAny (model X.prog X.w) X.A (noteFrame e X.env) (fun _ s₂ => wpAny (model X.prog X.w) X.A (setFlight e none) (fun _ s₃ => wpAny (model X.prog X.w) X.A (handleBy e X.env hs) (SP X pins D) X.xe s₃) X.xe s₂) X.xe s₁
theorem catch_as {pins : List (Addr × Obj)} {D : Ends} (ok : X.Ok) (hst : X.stack = X.env :: X.outer) (hfr : X.env.frame = some X.env.locals) (hy : Gl X y) (hmy : X.mg y = some (.ref Cy)) (hN : X.N.Nodup) (hj : X.N[j]? = some n) (hl : X.env.scope.names.lookup n = some .local)
    (hs : ∀ x, PSs (X.su x) (b₀ :: suite) ts) (hd : (y == ("__debug__" : Str)) = false) {σ1 : St} {H1 : Hp} {s1 : Shared} {e : Value} {s2 : Shared} (J1 : Inv X pins σ1 H1 s1) (hcx : CXe X.prog X.w X.stack H1 s1 (wTry X.K Cy j ts D σ1) e s2) :
    eTry X pins D [.ExceptHandler (some (.Name y np)) (some n) (b₀ :: suite) hpos] e s2 := by
  obtain ⟨x, C, a0, H', B, rfl, os, bare, fl, hok, u, hm, hw⟩ := hcx
  have hfrm : X.A.frames = some (X.env :: X.outer) := by rw [← hst]; exact ok.frames
  have fl' : Heap.FlyingW B (X.env :: X.outer) x C a0 s2.heap := by rw [← hst]; exact fl
  have data : ∀ b ∈ frs X.stack, ∀ o, s1.heap.get? b = some o → ∀ vs, o.data ≠ .fields vs := fun b hb o q => by
    obtain ⟨_, o', ho', hd'⟩ := J1.stack.mem hb
    rw [q] at ho'; cases ho'; exact hd'
  have mkI : ∀ h5 : Heap, B.StaysIn h5 → s2.heap.UpToSlots h5 → Inv X pins σ1 H' { s2 with heap := h5 } := fun h5 st up => by
    have u5 : UnB (frs X.stack) H1 H' s1.heap B h5 := ⟨u.keep, fun b o q n' hb => by
      obtain ⟨sl, z⟩ := u.slot b o q n' hb
      obtain ⟨sl2, z2⟩ := up b _ z (have dd := data b hb o q; fun vs => dd vs)
      exact ⟨sl2, z2⟩, u.free, u.there, u.tups, u.frzs, u.tbls⟩
    exact J1.call' (s' := { s2 with heap := h5 }) (ch := []) os (u5.un st J1.stkFree) (hok.kept st) bare (fun b hb => nomatch hb)
  have hxB : B.get? x = none := fl'.2.1
  have Hx : H' x = none := by
    cases q : H' x with
    | none => rfl
    | some o =>
      obtain ⟨z, hz⟩ := (hok x o q).got
      rw [hxB] at hz; cases hz
  refine wpAny_looks_onW hfrm hfr fl' fun h4 held4 up4 => ?_
  refine wpAny_landsW held4 fun h5 fl5 up5 => ?_
  have nx1 : ∀ o, s1.heap.get? x = some o → False := fun o q => by
    by_cases hm' : x ∈ frs X.stack
    · rw [hst] at hm'
      obtain ⟨_, o', ho', hd'⟩ := fl5.2.2.1.mem hm'
      obtain ⟨oe, vs, _, _, _, he, _, hdat, _⟩ := fl5.2.2.2
      rw [ho'] at he; cases he
      exact hd' vs hdat
    · obtain ⟨o', z⟩ := u.there x o q hm'
      rw [hxB] at z; cases z
  have I5 := mkI h5 fl5.1 (up4.trans up5)
  obtain ⟨ob, hob, hoc⟩ := fl5.there
  have LT : Looks (model X.prog X.w) h5 (typeOf (.ref x)) C := by rw [← hoc]; exact (Looks.ld hob).andThen .now
  refine wpAny_handleBy_cons (codeAny_handlers_test (ld_glob (X := X.su x) (I5.su x) hy hmy ?_ hd)) (by intro q; cases q)
  refine (exm_one I5.kIn LT hm).here ?_
  refine codeAny_handlers_suite_as ?_
  refine lands_againW fl5 fun h6 fl6 up6 => ?_
  have I6 := mkI h6 fl6.1 ((up4.trans up5).trans up6)
  obtain ⟨ob6, hob6, hoc6⟩ := fl6.there
  have It : Inv X pins σ1 (upd H' x (.ext (excAt x C))) { s2 with heap := h6 } := by
    refine I6.track Hx (fun b o q hx' z => ?_) (fun z => ?_) (fun x' c q z => ?_) (fun p hp z => ?_) ⟨⟨ob6, hob6, hoc6⟩, ⟨ob6, hob6⟩, fun h1 h2 ⟨o, a, b⟩ k => ⟨o, k o a, b⟩⟩
    · subst z
      obtain ⟨o', z⟩ := J1.base.there _ o q hx'
      exact nx1 o' z
    · obtain ⟨m, ⟨o, _, _, ho, _⟩, _⟩ := J1.loc
      rw [← z] at ho
      exact nx1 o ho
    · obtain ⟨v, o, ho, _⟩ := J1.cell x' c q
      rw [z] at ho
      exact nx1 o ho
    · have q := (J1.pin p hp).1
      rw [z] at q
      exact nx1 _ q
  refine store_ok (X := X.su x) (v := .ref x) (It.su x) hN hj (.inl hl) rfl (fun s7 I7 => ?_) (.inr hl)
  refine wpAny_mono ((hs x).run pins s7 _ _ _ I7 (hw x Hx)) (fun f s8 q => ?_) (fun _ _ z => z.elim)
  cases f with
  | next => obtain ⟨σ2, H2, I8, q⟩ := q; exact goes_ok (Inv.unsu ok I8) hN hj hl fun s9 I9 => ⟨_, _, I9, q⟩
  | brk => obtain ⟨σ2, H2, I8, q⟩ := q; exact goes_ok (Inv.unsu ok I8) hN hj hl fun s9 I9 => ⟨_, _, I9, q⟩
  | cont => obtain ⟨σ2, H2, I8, q⟩ := q; exact goes_ok (Inv.unsu ok I8) hN hj hl fun s9 I9 => ⟨_, _, I9, q⟩
  | ret v => obtain ⟨v', σ2, H2, I8, r, q⟩ := q; exact goes_ok (Inv.unsu ok I8) hN hj hl fun s9 I9 => ⟨v', _, _, I9, r, q⟩
theorem ps_try (hst : X.stack = X.env :: X.outer) (hfr : X.env.frame = some X.env.locals) (hy : Gl X y) (hmy : X.mg y = some (.ref Cy)) (hN : X.N.Nodup) (hj : X.N[j]? = some n) (hl : X.env.scope.names.lookup n = some .local)
    (hb : ∀ (E' : Value → Shared → Prop) (pn : List (Addr × Obj)) (W : St → XK), (∀ pins σ H s e s', Inv (X.tr E' pn) pins σ H s → CXe X.prog X.w X.stack H s (W σ) e s' → E' e s') → PSs (X.tr E' pn) body (tb W))
    (hs : ∀ x, PSs (X.su x) (b₀ :: suite) ts) (hd : (y == ("__debug__" : Str)) = false := by decide) :
    PS X (.Try body [.ExceptHandler (some (.Name y np)) (some n) (b₀ :: suite) hpos] [] [] pos) (tTry X.K Cy j tb ts) := by
  refine .mk ?_
  intro pins s σ H D I h
  have ok := I.ok
  refine wpAny_Try_except ?_
  have fin := (hb (eTry X pins D [.ExceptHandler (some (.Name y np)) (some n) (b₀ :: suite) hpos]) (X.pn ++ pins) (wTry X.K Cy j ts D) (fun pins' σ1 H1 s1 e s2 J hcx => catch_as ok hst hfr hy hmy hN hj hl hs hd (Inv.untr ok J) hcx)).run [] s σ H D (I.tr _) h
  refine wpAny_mono fin (fun f s1 q => ?_) fun e s1 q => q
  cases f with
  | next =>
    obtain ⟨σ', H', I', q⟩ := q
    exact wpAny_execs_nil ⟨σ', H', Inv.untr ok I', q⟩
  | brk => obtain ⟨σ', H', I', q⟩ := q; exact ⟨σ', H', Inv.untr ok I', q⟩
  | cont => obtain ⟨σ', H', I', q⟩ := q; exact ⟨σ', H', Inv.untr ok I', q⟩
  | ret v => obtain ⟨v', σ', H', I', r, q⟩ := q; exact ⟨v', σ', H', Inv.untr ok I', r, q⟩
end
end L2

set_option Elab.async false
set_option linter.all false
set_option maxRecDepth 100000
set_option maxHeartbeats 1000000
/-! A CALL IN A TRY: what is wanted of its exception may hang on the names' values -/
namespace L2
open PySem PySem.Spec PyProof.Rows PySem.W
section
variable {X : Cx} {x : Str} {k j : Nat} {ps : List Str} {sp : Sp} {p pos : Pos} {e : Expr} {es : List Expr} {t : TA} {W : St → XK}
def tCallW (sp : Sp) (W : St → XK) (t : TA) : TE := fun σ H Q => t σ H fun vs H1 => sp vs H1 Q (W σ)
/-- an exception of a callee reaches what this body wants, by the names' values -/
def PassesW (X : Cx) (W : St → XK) : Prop := ∀ (pins : List (Addr × Obj)) (σ : St) (H : Hp) (s : Shared) (e : Value) (s' : Shared), Inv X pins σ H s → CXe X.prog X.w X.stack H s (W σ) e s' → X.xe e s'
theorem pe_callW (c : CalleeX X.prog X.w X.K X.mg X.base x k ps sp) (hr : Room j X.A) (hk : k ≤ j) (hg : Gl X x) (hx : PassesW X W) (ha : PA X (e :: es) t) (hdb : (x == ("__debug__" : Str)) = false := by decide)
    (he : starEach (e :: es) X.env = (false, eval e X.env) :: starEach es X.env := by rfl) (hpl : (backTo pos (starEach es X.env)).any (·.1) = false := by rfl) : PE X (.Call (.Name x p) (e :: es) [] pos) (tCallW sp W t) := by
  refine .mk ?_
  obtain ⟨f, fd, F, m, kp, b⟩ := c
  intro pins s σ H Q I h
  refine wpAny_Call_Name_kw (ld_glob I hg m ?_ hdb)
  refine PySem.W.callWith_K (h₀ := X.base) I.ok.mod.kin kp (thn (ha pos pins s σ H _ I h) fun us s1 ⟨vs, H1, I1, r, q⟩ => ⟨I1.kIn, ?_⟩) he hpl
  have hl : us.length = ps.length := by rw [← r.length]; exact F.len _ _ _ _ q
  have hb := b s1 us I1.kIn (by rw [List.append_nil]; exact hl)
  rw [List.append_nil] at hb
  refine wpAny_call (codeAny_mono (F.run X.A X.stack s1 H1 ⟨us, []⟩ us vs Q (W σ) (hr.mono hk) I1.env0 hb r q) fun r' s' hq => ?_)
  cases r' with
  | error e => exact hx pins σ H1 s1 e s' I1 hq
  | ok fl =>
    cases fl with
    | ret u => exact I1.after hq
    | next => exact False.elim hq
    | brk => exact False.elim hq
    | cont => exact False.elim hq
end

/-! try .. except C: without a name -/
section
variable {X : Cx} {body suite : List Stmt} {b₀ : Stmt} {y : Str} {np hpos pos : Pos} {Cy : Addr} {tb : (St → XK) → TS} {ts : TS}
def wTry0 (K : PySem.W.Frag) (Cy : Addr) (ts : TS) (D : Ends) : St → XK := fun σ C _ H' => exmOne K C (.ref Cy) = some true ∧ ts D σ H'
def tTry0 (K : PySem.W.Frag) (Cy : Addr) (tb : (St → XK) → TS) (ts : TS) : TS := fun D σ H => tb (wTry0 K Cy ts D) D σ H
theorem catch_0 {pins : List (Addr × Obj)} {D : Ends} (ok : X.Ok) (hst : X.stack = X.env :: X.outer) (hfr : X.env.frame = some X.env.locals) (hy : Gl X y) (hmy : X.mg y = some (.ref Cy))
    (hs : ∀ x, PSs (X.su x) (b₀ :: suite) ts) (hd : (y == ("__debug__" : Str)) = false) {σ1 : St} {H1 : Hp} {s1 : Shared} {e : Value} {s2 : Shared} (J1 : Inv X pins σ1 H1 s1) (hcx : CXe X.prog X.w X.stack H1 s1 (wTry0 X.K Cy ts D σ1) e s2) :
    eTry X pins D [.ExceptHandler (some (.Name y np)) none (b₀ :: suite) hpos] e s2 := by
  obtain ⟨x, C, a0, H', B, rfl, os, bare, fl, hok, u, hm, hw⟩ := hcx
  have hfrm : X.A.frames = some (X.env :: X.outer) := by rw [← hst]; exact ok.frames
  have fl' : Heap.FlyingW B (X.env :: X.outer) x C a0 s2.heap := by rw [← hst]; exact fl
  have data : ∀ b ∈ frs X.stack, ∀ o, s1.heap.get? b = some o → ∀ vs, o.data ≠ .fields vs := fun b hb o q => by
    obtain ⟨_, o', ho', hd'⟩ := J1.stack.mem hb
    rw [q] at ho'; cases ho'; exact hd'
  have mkI : ∀ h5 : Heap, B.StaysIn h5 → s2.heap.UpToSlots h5 → Inv X pins σ1 H' { s2 with heap := h5 } := fun h5 st up => by
    have u5 : UnB (frs X.stack) H1 H' s1.heap B h5 := ⟨u.keep, fun b o q n' hb => by
      obtain ⟨sl, z⟩ := u.slot b o q n' hb
      obtain ⟨sl2, z2⟩ := up b _ z (have dd := data b hb o q; fun vs => dd vs)
      exact ⟨sl2, z2⟩, u.free, u.there, u.tups, u.frzs, u.tbls⟩
    exact J1.call' (s' := { s2 with heap := h5 }) (ch := []) os (u5.un st J1.stkFree) (hok.kept st) bare (fun b hb => nomatch hb)
  have hxB : B.get? x = none := fl'.2.1
  have Hx : H' x = none := by
    cases q : H' x with
    | none => rfl
    | some o =>
      obtain ⟨z, hz⟩ := (hok x o q).got
      rw [hxB] at hz; cases hz
  refine wpAny_looks_onW hfrm hfr fl' fun h4 held4 up4 => ?_
  refine wpAny_landsW held4 fun h5 fl5 up5 => ?_
  have I5 := mkI h5 fl5.1 (up4.trans up5)
  obtain ⟨ob, hob, hoc⟩ := fl5.there
  have LT : Looks (model X.prog X.w) h5 (typeOf (.ref x)) C := by rw [← hoc]; exact (Looks.ld hob).andThen .now
  refine wpAny_handleBy_cons (codeAny_handlers_test (ld_glob (X := X.su x) (I5.su x) hy hmy ?_ hd)) (by intro q; cases q)
  refine (exm_one I5.kIn LT hm).here ?_
  refine codeAny_handlers_suite ?_
  refine lands_againW fl5 fun h6 fl6 up6 => ?_
  have I6 := mkI h6 fl6.1 ((up4.trans up5).trans up6)
  refine wpAny_mono ((hs x).run pins { s2 with heap := h6 } _ _ _ (I6.su x) hw) (fun f s8 q => ?_) (fun _ _ z => z.elim)
  cases f with
  | next => obtain ⟨σ2, H2, I8, q⟩ := q; exact ⟨_, _, Inv.unsu ok I8, q⟩
  | brk => obtain ⟨σ2, H2, I8, q⟩ := q; exact ⟨_, _, Inv.unsu ok I8, q⟩
  | cont => obtain ⟨σ2, H2, I8, q⟩ := q; exact ⟨_, _, Inv.unsu ok I8, q⟩
  | ret v => obtain ⟨v', σ2, H2, I8, r, q⟩ := q; exact ⟨v', _, _, Inv.unsu ok I8, r, q⟩
theorem ps_try0 (hst : X.stack = X.env :: X.outer) (hfr : X.env.frame = some X.env.locals) (hy : Gl X y) (hmy : X.mg y = some (.ref Cy))
    (hb : ∀ (E' : Value → Shared → Prop) (pn : List (Addr × Obj)) (W : St → XK), (∀ pins σ H s e s', Inv (X.tr E' pn) pins σ H s → CXe X.prog X.w X.stack H s (W σ) e s' → E' e s') → PSs (X.tr E' pn) body (tb W))
    (hs : ∀ x, PSs (X.su x) (b₀ :: suite) ts) (hd : (y == ("__debug__" : Str)) = false := by decide) :
    PS X (.Try body [.ExceptHandler (some (.Name y np)) none (b₀ :: suite) hpos] [] [] pos) (tTry0 X.K Cy tb ts) := by
  refine .mk ?_
  intro pins s σ H D I h
  have ok := I.ok
  refine wpAny_Try_except ?_
  have fin := (hb (eTry X pins D [.ExceptHandler (some (.Name y np)) none (b₀ :: suite) hpos]) (X.pn ++ pins) (wTry0 X.K Cy ts D) (fun pins' σ1 H1 s1 e s2 J hcx => catch_0 ok hst hfr hy hmy hs hd (Inv.untr ok J) hcx)).run [] s σ H D (I.tr _) h
  refine wpAny_mono fin (fun f s1 q => ?_) fun e s1 q => q
  cases f with
  | next =>
    obtain ⟨σ', H', I', q⟩ := q
    exact wpAny_execs_nil ⟨σ', H', Inv.untr ok I', q⟩
  | brk => obtain ⟨σ', H', I', q⟩ := q; exact ⟨σ', H', Inv.untr ok I', q⟩
  | cont => obtain ⟨σ', H', I', q⟩ := q; exact ⟨σ', H', Inv.untr ok I', q⟩
  | ret v => obtain ⟨v', σ', H', I', r, q⟩ := q; exact ⟨v', σ', H', Inv.untr ok I', r, q⟩
end
end L2

set_option Elab.async false
set_option linter.all false
set_option maxRecDepth 100000
/-! MORE RULES: // and divmod by great divisors, [::-1], all(list), min(tuple), max(tuple), == of tuples -/
namespace L2
open PySem PySem.Spec PyProof.Rows

theorem fm_congr {α β : Type} {f g : α → Option β} : ∀ {l : List α}, (∀ x ∈ l, f x = g x) → l.filterMap f = l.filterMap g
  | [], _ => rfl
  | x :: r, h => by rw [List.filterMap_cons, List.filterMap_cons, h x List.mem_cons_self, fm_congr fun y hy => h y (List.mem_cons_of_mem _ hy)]
section
variable {X : Cx}
def CDivG (i j : Int) : Prop := 0 < j ∧ j < 2 ^ 200
theorem CDivG.noPy {i j : Int} (h : CDivG i j) : Builtin.divisionGoesByPylong i j = false := by
  refine PyProof.noPylong_of_log2 ?_
  have h1 : j.natAbs < 2 ^ 200 := by have := h.1; have := h.2; omega
  have h2 : j.natAbs ≠ 0 := by have := h.1; omega
  have := (Nat.log2_lt h2).mpr h1
  omega
/-- // by a positive divisor of up to 200 bits -/
theorem op_fdivG : OpR X (binaryOp .FloorDiv) (rI CDivG fun i j => .int (i / j)) := opI fun i j _ _ _ _ _ hc q => by
  have h1 : (0 : Int) < j := hc.1
  exact floordiv_int (by omega) (by rw [Int.fdiv_eq_ediv_of_nonneg i (by omega)]; exact q) (.inl hc.noPy)

/-! ### [::-1] -/
/-- a[::-1], by values: the slice object stands at sl -/
def SlB (X : Cx) (r : V → Hp → VK → Prop) : Prop :=
  ∀ (pins : List (Addr × Obj)) (s : Shared) (σ : St) (H : Hp) (x : V) (v vs : Value) (sl : Addr) (Q : VK), Inv X pins σ H s → RelV x v → s.heap.IsSliceOf sl .none .none vs → IsPart vs (some (-1)) → r x H Q →
    ∃ T id, typeLookup (.type T) "__getitem__" = pure (some (.builtin id)) ∧ s.TypeIs v T ∧ wpAny (model X.prog X.w) X.A (getItem v (.ref sl)) (EP X pins σ Q) X.xe s
theorem pe_rev {r : V → Hp → VK → Prop} {e st : Expr} {te ts : TE} {p2 pos : Pos} (hr : SlB X r) (he : PE X e te) (hs : PE X st ts) :
    PE X (.Subscript e (.Slice none none (some st) p2) pos) (fun σ H Q => te σ H fun x H1 => ts σ H1 fun y H2 => y = .int (-1) ∧ r x H2 Q) := by
  refine .mk ?_
  intro pins s σ H Q I h
  refine Subscript_ (thn (he pins s σ H _ I h) fun v s1 ⟨x, H1, I1, r1, q1⟩ => ?_)
  refine wpAny_Slice ?_
  rw [evalPart_none]
  refine wpAny_pure ?_
  refine wpAny_pure ?_
  rw [evalPart_some]
  refine thn (hs pins s1 σ H1 _ I1 q1) fun vs s2 ⟨y, H2, I2, r2, q2⟩ => ?_
  obtain ⟨rfl, q3⟩ := q2
  obtain ⟨t, rfl⟩ := r2
  have I4 : Inv X pins σ H2 { s2 with heap := s2.heap.push { cls := .type "slice", data := .fields #[.none, .none, .int (-1) t] } } := I2.kept (t' := s2.toks) fun b ob q => Heap.get?_push_of_some _ q
  obtain ⟨T, id, hT, ht, hg⟩ := hr pins { s2 with heap := s2.heap.push { cls := .type "slice", data := .fields #[.none, .none, .int (-1) t] } } σ H2 x v _ s2.heap.objs.size Q I4 r1 (Heap.IsSliceOf.new ..) (.int (-1) t) q3
  show wpAny (model X.prog X.w) X.A (subscriptTail e (.Slice none none (some st) p2) v (.ref s2.heap.objs.size)) (EP X pins σ Q) X.xe { s2 with heap := s2.heap.push { cls := .type "slice", data := .fields #[.none, .none, .int (-1) t] } }
  exact tail_any (ops := [v, .ref s2.heap.objs.size]) ht hT hg (by with_unfolding_all rfl)

theorem rev_pick (its : List Value) : ((List.range its.length).map fun k => its.length - 1 - k).filterMap (its.toArray[·]?) = its.reverse := by
  apply List.ext_getElem?
  intro i
  have e : ((List.range its.length).map fun k => its.length - 1 - k).filterMap (its.toArray[·]?) = (List.range its.length).map fun k => its.getD (its.length - 1 - k) .none := by
    rw [List.filterMap_map]
    rw [← List.filterMap_eq_map]
    apply fm_congr
    intro k hk
    have hk' : k < its.length := List.mem_range.mp hk
    show its.toArray[its.length - 1 - k]? = some (its.getD (its.length - 1 - k) .none)
    have h2 : its.length - 1 - k < its.length := by omega
    simp [List.getD, List.getElem?_eq_getElem h2]
  rw [e, List.getElem?_map]
  by_cases h : i < its.length
  · rw [List.getElem?_range h, List.getElem?_reverse h]
    have h2 : its.length - 1 - i < its.length := by omega
    simp [List.getD, List.getElem?_eq_getElem h2]
  · rw [List.getElem?_eq_none (by simpa using h), List.getElem?_eq_none (by simpa using h)]
    rfl
theorem slicePick_rev (its : List Value) : slicePick its.toArray none none (some (-1)) = its.reverse.toArray := by
  unfold slicePick
  have e : sliceRange (sliceBounds none none (some (-1)) its.toArray.size).1 (sliceBounds none none (some (-1)) its.toArray.size).2.1 (sliceBounds none none (some (-1)) its.toArray.size).2.2 = (List.range its.length).map fun k => its.length - 1 - k := picked_rev its.length
  rw [e, rev_pick]
theorem Vals.rev {xs : List V} {us : List Value} (r : Vals xs us) : Vals xs.reverse us.reverse := by
  induction r with
  | nil => exact .nil
  | cons r1 r2 ih =>
    rw [List.reverse_cons, List.reverse_cons]
    exact ih.append (.cons r1 .nil)
/-- xs[::-1] of a list: a new list -/
def rRevL (K : PySem.W.Frag) : V → Hp → VK → Prop := fun x H Q => ∃ a xs, x = .ref a ∧ SqL K H a xs ∧ ∀ p, H p = none → Q (.ref p) (upd H p (.lst xs.reverse))
theorem rv_list : SlB X (rRevL X.K) := by
  intro pins s σ H x v vs sl Q I rx hs ps h
  obtain ⟨a, xs, rfl, hx, q⟩ := h
  cases rx
  obtain ⟨its, r, ht, hz⟩ := I.list hx
  have hlen := r.length
  refine ⟨"list", _, slot_list_getitem.lookup, ht.isList.typeIs, ?_⟩
  refine wpAny_getItem_list_slice ht.isList hs .none .none ps (by decide) ?_ (by rw [List.size_toArray] <;> omega)
  rw [slicePick_rev]
  refine ⟨.ref s.heap.objs.size, _, I.laid (t' := s.toks) (o := .lst xs.reverse) (fun b ob q => Heap.get?_push_of_some _ q) (Nat.le_refl _) ?_, rfl, q _ (I.hok.fresh (Nat.le_refl _))⟩
  exact ⟨by rw [List.length_reverse]; exact hz, _, 0, Vals.rev r, Heap.get?_push_size _ rfl⟩
/-- t[::-1] of a tuple: a new tuple -/
def rRevT (K : PySem.W.Frag) : V → Hp → VK → Prop := fun x H Q => ∃ a xs, x = .ref a ∧ SqT K H a xs ∧ ∀ p, H p = none → Q (.ref p) (upd H p (.tup xs.reverse))
theorem sliceApplied_rev {prog : Program} {w : World} {A : Around} {E : Value → Shared → Prop} {s : Shared} {sl : Addr} {vs : Value} {n : Nat} {Q : Int × Int × Nat → Shared → Prop} (hs : s.heap.IsSliceOf sl .none .none vs) (ps : IsPart vs (some (-1)))
    (h : Q ((n : Int) - 1, -1, n) s) : wpAny (model prog w) A (Builtin.Slice.sliceApplied (.ref sl) (pure (n : Int))) Q E s := by
  obtain ⟨os, hos, hcs, hds⟩ := id hs
  unfold Builtin.Slice.sliceApplied Builtin.Slice.sliceFields
  refine wpAny_bind (wpAny_bind (wpAny_field hos hds (x := .none) rfl (wpAny_bind (wpAny_field hos hds (x := .none) rfl (wpAny_bind (wpAny_field hos hds (x := vs) rfl (wpAny_pure ?_)))))))
  refine wpAny_bind (HT.slicePart_ ps ?_)
  show wpAny _ _ (if ((-1 : Int) == 0) = true then _ else _) _ _ s
  rw [if_neg (by decide)]
  refine wpAny_bind (slicePart_none (wpAny_bind (slicePart_none (wpAny_bind (wpAny_pure ?_)))))
  show wpAny _ _ (match Builtin.Slice.sliceAdjust none none (-1) (n : Int) with | (lo, hi) => pure (lo, (-1 : Int), Builtin.Slice.slicePlaces lo hi (-1))) _ _ s
  have e : Builtin.Slice.sliceAdjust none none (-1) (n : Int) = ((n : Int) - 1, -1) := rfl
  rw [e]
  show wpAny _ _ (pure ((n : Int) - 1, (-1 : Int), Builtin.Slice.slicePlaces ((n : Int) - 1) (-1) (-1))) _ _ s
  have e2 : Builtin.Slice.slicePlaces ((n : Int) - 1) (-1) (-1) = n := by
    unfold Builtin.Slice.slicePlaces
    have h1 : ¬ ((-1 : Int) > 0) := by omega
    have h3 : (-(-1) : Int) = 1 := rfl
    simp only [h1, if_false, h3, Int.ediv_one]
    split <;> omega
  rw [e2]
  exact wpAny_pure h
theorem getItem_tuple_rev {prog : Program} {w : World} {A : Around} {E : Value → Shared → Prop} {s : Shared} {t sl : Addr} {its : List Value} {vs : Value} {Q : Value → Shared → Prop} (ht : IsTup s.heap t its.toArray) (hs : s.heap.IsSliceOf sl .none .none vs) (ps : IsPart vs (some (-1)))
    (h : Q (.ref s.heap.objs.size) { s with heap := s.heap.push { cls := .type "tuple", data := .seq its.reverse.toArray } })
    (hsz : its.length ≤ sizeLine) : wpAny (model prog w) A (getItem (.ref t) (.ref sl)) Q E s := by
  have htake : sizeOk (.seq its.reverse.toArray) := by
    show its.reverse.toArray.size ≤ sizeLine
    rw [List.size_toArray, List.length_reverse]
    exact hsz
  obtain ⟨os, hos, hcs, hds⟩ := id hs
  have hTs : s.TypeIs (.ref sl) "slice" := ⟨os, hos, hcs⟩
  unfold getItem
  try with_reducible refine wpAny_holding ?_
  first | refine wpAny_bind (wpAny_pure ?_) | skip
  refine wpAny_bind (wpAny_sequenceKey ht.typeIs (by decide) ?_)
  refine wpAny_bind (wpAny_callSpecial?_slot (name := Str.ofString "__getitem__") ht.typeIs PyProof.Rows.slot_tuple_getitem
    (wpAny_call_entry PyProof.Rows.slot_tuple_getitem ht.typeIs entry_tuple_getitem ?_ (args_tuple_getitem _ _)))
  show wpAny _ _ (Builtin.Tuple.tupleItemsOf (.ref t) >>= _) _ _ s
  refine wpAny_bind (tupleItemsOf_ ht ?_)
  refine wpAny_bind (wpAny_typeOf hTs ?_)
  rw [if_pos (by decide)]
  refine wpAny_bind (sliceApplied_rev hs ps ?_)
  have hno : ¬ (((((its.toArray.size : Nat) : Int) - 1) == 0 && (-1 : Int) == 1 && its.toArray.size == its.toArray.size) = true) := by
    have : ((-1 : Int) == 1) = false := rfl
    rw [this, Bool.and_false, Bool.false_and]
    exact Bool.false_ne_true
  show wpAny _ _ (if ((((its.toArray.size : Nat) : Int) - 1) == 0 && (-1 : Int) == 1 && its.toArray.size == its.toArray.size) = true then _ else _) _ _ s
  rw [if_neg hno]
  have e : ((List.range its.toArray.size).filterMap fun (m : Nat) => its.toArray[((((its.toArray.size : Nat) : Int) - 1) + (m : Int) * (-1)).toNat]?).toArray = its.reverse.toArray := by
    rw [← rev_pick its, List.filterMap_map, List.size_toArray]
    congr 1
    apply fm_congr
    intro k hk
    have hk' : k < its.length := List.mem_range.mp hk
    have e1 : (((its.length : Nat) : Int) - 1 + (k : Int) * (-1)).toNat = its.length - 1 - k := by omega
    show its.toArray[(((its.length : Nat) : Int) - 1 + (k : Int) * (-1)).toNat]? = its.toArray[its.length - 1 - k]?
    rw [e1]
  rw [e]
  first
    | exact wpAny_bind (m := Builtin.Tuple.tupleExact _) (wpAny_newObj_type (wpAny_pure ⟨_, rfl, wpAny_pure h⟩) htake)
    | exact wpAny_bind (m := Builtin.Tuple.tupleExact _) (wpAny_newObj_type (wpAny_bind (wpAny_pure (wpAny_pure ⟨_, rfl, wpAny_pure h⟩))) htake)
    | exact wpAny_bind (wpAny_bind (m := Builtin.Tuple.tupleExact _) (wpAny_newObj_type (wpAny_pure (wpAny_pure ⟨_, rfl, wpAny_pure h⟩)) htake))
    | exact wpAny_bind (wpAny_bind (m := Builtin.Tuple.tupleExact _) (wpAny_newObj_type (wpAny_pure ⟨_, rfl, wpAny_pure h⟩) htake))
theorem rv_tup : SlB X (rRevT X.K) := by
  intro pins s σ H x v vs sl Q I rx hs ps h
  obtain ⟨a, xs, rfl, hx, q⟩ := h
  cases rx
  obtain ⟨its, r, ht, hz⟩ := I.tuple hx
  have hlen := r.length
  refine ⟨"tuple", _, PyProof.Rows.slot_tuple_getitem.lookup, ht.typeIs, ?_⟩
  refine getItem_tuple_rev ht hs ps ?_ (by omega)
  refine ⟨.ref s.heap.objs.size, _, I.laid (t' := s.toks) (o := .tup xs.reverse) (fun b ob q => Heap.get?_push_of_some _ q) (Nat.le_refl _) ?_, rfl, q _ (I.hok.fresh (Nat.le_refl _))⟩
  exact ⟨by rw [List.length_reverse]; exact hz, _, Vals.rev r, IsTup.new _ _⟩

/-! ### all(list of truths) -/
theorem bools_of {bs : List Bool} : ∀ {us : List Value}, Vals (bs.map V.bl) us → us = bs.map Value.bool := by
  induction bs with
  | nil => intro us r; rw [List.map_nil] at r; cases r; rfl
  | cons n ns ih =>
    intro us r
    rw [List.map_cons] at r
    cases r with
    | cons r1 r2 =>
      rw [ih r2]
      cases r1
      rfl
theorem range_all {bs : List Bool} : (List.range bs.length).all (fun i => bs.getD i true) = bs.all id := by
  rw [Bool.eq_iff_iff, List.all_eq_true, List.all_eq_true]
  constructor
  · intro h b hb
    obtain ⟨i, hi, rfl⟩ := List.getElem_of_mem hb
    have := h i (List.mem_range.mpr hi)
    simpa [List.getD, List.getElem?_eq_getElem hi] using this
  · intro h i hi
    have hi' := List.mem_range.mp hi
    have := h bs[i] (List.getElem_mem hi')
    simpa [List.getD, List.getElem?_eq_getElem hi'] using this
theorem kept_it {s : Shared} {o₀ : Obj} {h' : Heap} (hk : ∀ b o, b ∉ [s.heap.objs.size] → (s.heap.push o₀).get? b = some o → h'.get? b = some o) : ∀ b o, s.heap.get? b = some o → h'.get? b = some o := fun b o e => by
  refine hk b o (fun hm => ?_) (Heap.get?_push_of_some _ e)
  exact absurd ((List.mem_singleton.mp hm) ▸ Heap.lt_size e) (Nat.lt_irrefl _)
theorem call_allL (hc : X.calm = true) : CallR X (.builtin "all") (fun xs H Q => ∃ (p : Addr) (bs : List Bool), xs = [.ref p] ∧ SqL X.K H p (bs.map V.bl) ∧ Q (.bl (bs.all id)) H) := by
  intro pins s σ H xs us Q I r h
  obtain ⟨p, bs, rfl, hq, q⟩ := h
  obtain ⟨u, rfl, ru⟩ := vals1 r
  cases ru
  obtain ⟨its, rv, pl, hz⟩ := I.list hq
  have eb := bools_of rv
  have hl : s.heap.IsList p its.toArray := pl.isList
  have hlt : p < s.heap.objs.size := by obtain ⟨_, e, _⟩ := hl; exact Heap.lt_size e
  refine call_all_walk (wpAny_pyIter_list hl ?_)
  refine ⟨s.heap.objs.size, _, _, _, _, _, fun i => bs.getD i true, rfl, Walks.list (prog := X.prog) (w := X.w) (A := X.A.in1) (I.ok.hd hc) s.heap.objs.size p (Nat.ne_of_lt hlt) its.toArray, ⟨⟨_, Heap.get?_push_size _ rfl, rfl, rfl⟩, hl.push _⟩, ?_, ?_⟩
  · intro i v s' Q' E' hP hQ
    have e : v = .bool (bs.getD i true) := by
      rw [eb] at hP
      simp only [List.getElem?_toArray, List.getElem?_map, Option.map_eq_some_iff] at hP
      obtain ⟨b, hb, rfl⟩ := hP
      simp [List.getD, hb]
    rw [e]
    exact wpAny_truthy_bool hQ
  · intro h' tk hk
    refine ⟨.bl (bs.all id), H, I.kept (kept_it hk), ?_, q⟩
    have e2 : its.toArray.size = bs.length := by rw [eb]; simp
    rw [e2, range_all]
    rfl

/-! ### min, max of a tuple of ints -/
theorem call_maxT (hc : X.calm = true) : CallR X (.builtin "max") (fun xs H Q => ∃ (p : Addr) (ns : List Int), xs = [.ref p] ∧ SqT X.K H p (ns.map V.int) ∧ ns ≠ [] ∧ ∀ m ∈ ns, Q (.int m) H) := by
  intro pins s σ H xs us Q I r h
  obtain ⟨p, ns, rfl, hq, hne, q⟩ := h
  obtain ⟨u, rfl, ru⟩ := vals1 r
  cases ru
  obtain ⟨its, rv, pl, hz⟩ := I.tuple hq
  have hi := intsAre_of rv
  obtain ⟨xs, hxs⟩ := hi.allInts.items
  have hn : numsOf its = ns := hi.numsOf
  have hl : s.heap.IsTuple p (intItems xs) := by rw [← hxs]; exact pl
  obtain ⟨o, ho, _⟩ := id hl
  have hlt : p < s.heap.objs.size := Heap.lt_size ho
  have hlen : 0 < (intItems xs).size := by
    rw [← hxs, List.size_toArray, ← rv.length, List.length_map]
    exact List.length_pos_iff.mpr hne
  refine call_max_walk (wpAny_pyIter_tuple hl ?_)
  refine ⟨s.heap.objs.size, _, _, _, _, _, _, rfl, Walks.tuple (prog := X.prog) (w := X.w) (A := X.A.in1) (I.ok.hd hc) s.heap.objs.size p (Nat.ne_of_lt hlt) (intItems xs), ⟨⟨_, Heap.get?_push_size _ rfl, rfl, rfl⟩, hl.at fun o e => Heap.get?_push_of_some _ e⟩, fun b hb => ?_, hlen, CmpOf.ints_gt (numAt xs) (fun _ _ => intItems_at), fun v h' tk hP hk => ?_⟩
  · rcases List.mem_cons.mp hb with rfl | hb
    · exact Heap.lt_size (Heap.get?_push_size _ rfl)
    · obtain rfl := List.mem_singleton.mp hb
      exact Heap.lt_size (Heap.get?_push_of_some _ ho)
  · obtain ⟨t, rfl⟩ := intItems_at hP
    refine ⟨.int _, H, I.kept (kept_it hk), ⟨t, rfl⟩, q _ ?_⟩
    have e : numsOf (intItems xs).toList = ns := by rw [← hxs]; exact hn
    rw [nums_intItems] at e
    rw [← e, numAt_eq]
    refine getD_mem ?_
    obtain ⟨h1, _⟩ := argBest_gt (numAt xs) ((intItems xs).size - 1)
    have e3 : (intItems xs).size = xs.size := by simp [intItems]
    rw [List.length_map, Array.length_toList]
    omega
theorem call_minT (hc : X.calm = true) : CallR X (.builtin "min") (fun xs H Q => ∃ (p : Addr) (ns : List Int), xs = [.ref p] ∧ SqT X.K H p (ns.map V.int) ∧ ns ≠ [] ∧ ∀ m ∈ ns, Q (.int m) H) := by
  intro pins s σ H xs us Q I r h
  obtain ⟨p, ns, rfl, hq, hne, q⟩ := h
  obtain ⟨u, rfl, ru⟩ := vals1 r
  cases ru
  obtain ⟨its, rv, pl, hz⟩ := I.tuple hq
  have hi := intsAre_of rv
  obtain ⟨xs, hxs⟩ := hi.allInts.items
  have hn : numsOf its = ns := hi.numsOf
  have hl : s.heap.IsTuple p (intItems xs) := by rw [← hxs]; exact pl
  obtain ⟨o, ho, _⟩ := id hl
  have hlt : p < s.heap.objs.size := Heap.lt_size ho
  have hlen : 0 < (intItems xs).size := by
    rw [← hxs, List.size_toArray, ← rv.length, List.length_map]
    exact List.length_pos_iff.mpr hne
  refine call_min_walk (wpAny_pyIter_tuple hl ?_)
  refine ⟨s.heap.objs.size, _, _, _, _, _, _, rfl, Walks.tuple (prog := X.prog) (w := X.w) (A := X.A.in1) (I.ok.hd hc) s.heap.objs.size p (Nat.ne_of_lt hlt) (intItems xs), ⟨⟨_, Heap.get?_push_size _ rfl, rfl, rfl⟩, hl.at fun o e => Heap.get?_push_of_some _ e⟩, fun b hb => ?_, hlen, CmpOf.ints_lt (numAt xs) (fun _ _ => intItems_at), fun v h' tk hP hk => ?_⟩
  · rcases List.mem_cons.mp hb with rfl | hb
    · exact Heap.lt_size (Heap.get?_push_size _ rfl)
    · obtain rfl := List.mem_singleton.mp hb
      exact Heap.lt_size (Heap.get?_push_of_some _ ho)
  · obtain ⟨t, rfl⟩ := intItems_at hP
    refine ⟨.int _, H, I.kept (kept_it hk), ⟨t, rfl⟩, q _ ?_⟩
    have e : numsOf (intItems xs).toList = ns := by rw [← hxs]; exact hn
    rw [nums_intItems] at e
    rw [← e, numAt_eq]
    refine getD_mem ?_
    obtain ⟨h1, _⟩ := argBest_lt (numAt xs) ((intItems xs).size - 1)
    have e3 : (intItems xs).size = xs.size := by simp [intItems]
    rw [List.length_map, Array.length_toList]
    omega

/-! ### == of two tuples of flat things -/
def eqL (xs ys : List V) : Bool := (List.range (min xs.length ys.length)).all (fun j => eqV (xs.getD j .non) (ys.getD j .non)) && xs.length == ys.length
theorem Vals.at {xs : List V} {us : List Value} (r : Vals xs us) : ∀ {j : Nat} (h : j < us.length), RelV (xs.getD j .non) us[j] := by
  induction r with
  | nil => intro j h; exact absurd h (Nat.not_lt_zero _)
  | cons r1 r2 ih =>
    intro j h
    cases j with
    | zero => exact r1
    | succ j => exact ih (Nat.lt_of_succ_lt_succ h)
theorem flat_at {xs : List V} (h : xs.all flatV = true) (j : Nat) : flatV (xs.getD j .non) = true := by
  by_cases hj : j < xs.length
  · simp only [List.getD, List.getElem?_eq_getElem hj, Option.getD_some]
    exact List.all_eq_true.mp h _ (List.getElem_mem hj)
  · rw [List.getD, List.getElem?_eq_none (Nat.le_of_not_lt hj)]
    rfl
theorem op_eqT (hu : X.A.units < cLine) : OpR X (compareOp .Eq) (fun x y H Q => ∃ a b xs ys, x = .ref a ∧ y = .ref b ∧ SqT X.K H a xs ∧ SqT X.K H b ys ∧ xs.all flatV = true ∧ ys.all flatV = true ∧ Q (.bl (eqL xs ys)) H) := by
  intro pins s σ H x y v u Q I rx ry h
  obtain ⟨a, b, xs, ys, rfl, rfl, ha, hb, fa, fb, q⟩ := h
  cases rx
  cases ry
  obtain ⟨its, rv, pl, hz⟩ := I.tuple ha
  obtain ⟨its2, rv2, pl2, hz2⟩ := I.tuple hb
  refine SeqAt.eq_tupleAt (e := fun j => eqV (xs.getD j .non) (ys.getD j .non)) pl pl2 hu (fun j h1 h2 => ?_) ?_
  · exact eqAt_V (Vals.at rv (by simpa using h1)) (Vals.at rv2 (by simpa using h2)) (flat_at fa j) (flat_at fb j)
  · refine ⟨.bl (eqL xs ys), H, I, ?_, q⟩
    unfold eqL
    rw [rv.length, rv2.length]
    rfl
theorem eqL_ints (ns : List Int) : eqL (ns.map V.int) (ns.map V.int) = true := by
  unfold eqL
  rw [Bool.and_eq_true]
  refine ⟨List.all_eq_true.mpr fun j hj => ?_, by simp⟩
  have hj' : j < ns.length := by have := List.mem_range.mp hj; simpa using this
  simp [List.getD, List.getElem?_eq_getElem hj', eqV]
theorem flat_ints (ns : List Int) : (ns.map V.int).all flatV = true := by
  rw [List.all_eq_true]
  intro v hv
  obtain ⟨i, _, rfl⟩ := List.mem_map.mp hv
  rfl
/-! ### t[a:b], the whole of it too (then t itself) -/
theorem getItem_tuple_whole {prog : Program} {w : World} {A : Around} {E : Value → Shared → Prop} {s : Shared} {t sl : Addr} {items : Array Value} {vl vu : Value} {lo hi : Option Int} {Q : Value → Shared → Prop} (ht : IsTup s.heap t items) (hs : s.heap.IsSliceOf sl vl vu .none) (pl : IsPart vl lo) (pu : IsPart vu hi)
    (h0 : HT.sIx items.size 0 lo = 0) (h1 : HT.sIx items.size items.size hi = items.size) (h : Q (.ref t) s) : wpAny (model prog w) A (getItem (.ref t) (.ref sl)) Q E s := by
  obtain ⟨os, hos, hcs, hds⟩ := id hs
  have hTs : s.TypeIs (.ref sl) "slice" := ⟨os, hos, hcs⟩
  unfold getItem
  try with_reducible refine wpAny_holding ?_
  first | refine wpAny_bind (wpAny_pure ?_) | skip
  refine wpAny_bind (wpAny_sequenceKey ht.typeIs (by decide) ?_)
  refine wpAny_bind (wpAny_callSpecial?_slot (name := Str.ofString "__getitem__") ht.typeIs PyProof.Rows.slot_tuple_getitem
    (wpAny_call_entry PyProof.Rows.slot_tuple_getitem ht.typeIs entry_tuple_getitem ?_ (args_tuple_getitem _ _)))
  show wpAny _ _ (Builtin.Tuple.tupleItemsOf (.ref t) >>= _) _ _ s
  refine wpAny_bind (tupleItemsOf_ ht ?_)
  refine wpAny_bind (wpAny_typeOf hTs ?_)
  rw [if_pos (by decide)]
  refine wpAny_bind (HT.sliceApplied_gen hs pl pu ?_)
  have hyes : ((((HT.sIx items.size 0 lo : Nat) : Int) == 0 && (1 : Int) == 1 && (HT.sIx items.size items.size hi - HT.sIx items.size 0 lo) == items.size) = true) := by
    rw [h0, h1]
    simp
  show wpAny _ _ (if (((HT.sIx items.size 0 lo : Nat) : Int) == 0 && (1 : Int) == 1 && (HT.sIx items.size items.size hi - HT.sIx items.size 0 lo) == items.size) = true then _ else _) _ _ s
  rw [if_pos hyes]
  unfold Builtin.Tuple.tupleIsExact
  refine wpAny_bind (wpAny_bind (wpAny_typeOf ht.typeIs ?_))
  refine wpAny_pure ?_
  rw [if_pos (by decide)]
  refine wpAny_bind (wpAny_rule ?_)
  exact wpAny_pure ⟨_, rfl, wpAny_pure h⟩
def rSlA (K : PySem.W.Frag) : V → Option Int → Option Int → Hp → VK → Prop := fun x lo hi H Q => ∃ a xs, x = .ref a ∧ SqT K H a xs ∧
  ((HT.sIx xs.length 0 lo = 0 ∧ HT.sIx xs.length xs.length hi = xs.length) → Q (.ref a) H) ∧ (¬ (HT.sIx xs.length 0 lo = 0 ∧ HT.sIx xs.length xs.length hi = xs.length) → ∀ p, H p = none → Q (.ref p) (upd H p (.tup (cutV xs lo hi))))
theorem sl_tupA : SlR X (rSlA X.K) := by
  intro pins s σ H x v vl vu lo hi sl Q I rx hs pl pu h
  obtain ⟨a, xs, rfl, hx, q1, q2⟩ := h
  by_cases hw : HT.sIx xs.length 0 lo = 0 ∧ HT.sIx xs.length xs.length hi = xs.length
  · cases rx
    obtain ⟨its, r, ht, hz⟩ := I.tuple hx
    have hlen : its.toArray.size = xs.length := by rw [List.size_toArray]; exact r.length.symm
    refine ⟨"tuple", _, PyProof.Rows.slot_tuple_getitem.lookup, ht.typeIs, ?_⟩
    exact getItem_tuple_whole ht hs pl pu (by rw [hlen]; exact hw.1) (by rw [hlen]; exact hw.2) ⟨.ref a, H, I, rfl, q1 hw⟩
  · exact sl_tup pins s σ H _ v vl vu lo hi sl Q I rx hs pl pu ⟨a, xs, rfl, hx, hw, q2 hw⟩
end
section
variable {own : List Str} {cap : List (Nat × Str)} {σ : St} {H1 : Hp} {D : Addr} {g : TG} {tc : TT} {te : TE} {QD : Hp → Prop}
theorem comp_range {lo : Int} {n : Nat} (Pv : Nat → St → List V → Hp → Prop) (h0 : Pv 0 (compSt own cap σ) [] (upd H1 D (.lst [])))
    (hD : ∀ i σ ys H, i ≤ n → Pv i σ ys H → H D = some (.lst ys) ∧ ys.length ≤ i)
    (hz : n ≤ sizeLine)
    (hs : ∀ i σ ys H, i < n → Pv i σ ys H → g (.int (lo + i)) σ H fun σ3 H3 => tc σ3 H3 fun b H4 => if b = true then te σ3 H4 fun y H5 => H5 D = some (.lst ys) ∧ Pv (i + 1) σ3 (ys ++ [y]) (upd H5 D (.lst (ys ++ [y]))) else Pv (i + 1) σ3 ys H4)
    (hd : ∀ σ ys H, Pv n σ ys H → QD H) :
    ∃ W : Nat → Nat → St → List V → Hp → Prop, (∃ m, W 0 m (compSt own cap σ) [] (upd H1 D (.lst []))) ∧ ∀ i m σ' ys H', W i m σ' ys H' → H' D = some (.lst ys) ∧
      (((Itr lo n).stop i H' ∧ QD H') ∨ ((Itr lo n).go i H' ∧ ys.length < sizeLine ∧ ∃ N : St → List V → Hp → Prop, (∀ σ ys H, N σ ys H → ∃ m', m' < m ∧ W (i + 1) m' σ ys H) ∧ ∀ x H2, (Itr lo n).yld i H' x H2 → g x σ' H2 fun σ3 H3 => tc σ3 H3 fun b H4 => if b = true then te σ3 H4 fun y H5 => H5 D = some (.lst ys) ∧ N σ3 (ys ++ [y]) (upd H5 D (.lst (ys ++ [y])))
        else N σ3 ys H4)) := by
  have len : ((List.range n).map fun k : Nat => V.int (lo + (k : Int))).length = n := by simp
  have get : ∀ i, i < n → ((List.range n).map fun k : Nat => V.int (lo + (k : Int)))[i]? = some (V.int (lo + (i : Int))) := fun i hi => by
    rw [List.getElem?_map, List.getElem?_range hi]; rfl
  refine comp_seq (xs := (List.range n).map fun k : Nat => V.int (lo + (k : Int))) Pv h0 (by rw [len]; exact hD) (by rw [len]; exact hz) (by rw [len]; exact fun i σ ys H hi _ => hi) (by rw [len]; exact fun σ ys H _ => Nat.le_refl _) ?_ ?_ (by rw [len]; exact hd)
  · rw [len]
    intro i σ ys H x H' hi _ y
    obtain ⟨e, y⟩ := y
    exact ⟨e, by rw [get i hi, y]⟩
  · intro i x σ ys H hx p
    have hi : i < n := by
      have := (List.getElem?_eq_some_iff.mp hx).1
      rwa [len] at this
    rw [get i hi] at hx
    cases hx
    exact hs i σ ys H hi p
end
end L2

set_option Elab.async false
set_option linter.all false
set_option maxRecDepth 100000
/-! MORE RULES: any, tuples joined and cut (any), != (), == of lists of ints, {}, texts and tuples repeated, join -/
namespace L2
open PySem PySem.Spec PyProof.Rows

section
variable {X : Cx}
theorem range_any {bs : List Bool} : (List.range bs.length).any (fun i => bs.getD i true) = bs.any id := by
  rw [Bool.eq_iff_iff, List.any_eq_true, List.any_eq_true]
  constructor
  · rintro ⟨i, hi, h⟩
    have hi' := List.mem_range.mp hi
    refine ⟨bs[i], List.getElem_mem hi', ?_⟩
    simpa [List.getD, List.getElem?_eq_getElem hi'] using h
  · rintro ⟨b, hb, h⟩
    obtain ⟨i, hi, rfl⟩ := List.getElem_of_mem hb
    refine ⟨i, List.mem_range.mpr hi, ?_⟩
    simpa [List.getD, List.getElem?_eq_getElem hi] using h
theorem call_anyL (hc : X.calm = true) : CallR X (.builtin "any") (fun xs H Q => ∃ (p : Addr) (bs : List Bool), xs = [.ref p] ∧ SqL X.K H p (bs.map V.bl) ∧ Q (.bl (bs.any id)) H) := by
  intro pins s σ H xs us Q I r h
  obtain ⟨p, bs, rfl, hq, q⟩ := h
  obtain ⟨u, rfl, ru⟩ := vals1 r
  cases ru
  obtain ⟨its, rv, pl, hz⟩ := I.list hq
  have eb := bools_of rv
  have hl : s.heap.IsList p its.toArray := pl.isList
  have hlt : p < s.heap.objs.size := by obtain ⟨_, e, _⟩ := hl; exact Heap.lt_size e
  refine call_any_walk (wpAny_pyIter_list hl ?_)
  refine ⟨s.heap.objs.size, _, _, _, _, _, fun i => bs.getD i true, rfl, Walks.list (prog := X.prog) (w := X.w) (A := X.A.in1) (I.ok.hd hc) s.heap.objs.size p (Nat.ne_of_lt hlt) its.toArray, ⟨⟨_, Heap.get?_push_size _ rfl, rfl, rfl⟩, hl.push _⟩, ?_, ?_⟩
  · intro i v s' Q' E' hP hQ
    have e : v = .bool (bs.getD i true) := by
      rw [eb] at hP
      simp only [List.getElem?_toArray, List.getElem?_map, Option.map_eq_some_iff] at hP
      obtain ⟨b, hb, rfl⟩ := hP
      simp [List.getD, hb]
    rw [e]
    exact wpAny_truthy_bool hQ
  · intro h' tk hk
    refine ⟨.bl (bs.any id), H, I.kept (kept_it hk), ?_, q⟩
    have e2 : its.toArray.size = bs.length := by rw [eb]; simp
    rw [e2, range_any]
    rfl

/-! ### t + u, t[a:b], any tuples -/
def rCatA : R2 := fun x y H Q => ∃ a b xs ys, x = .ref a ∧ y = .ref b ∧ H a = some (.tup xs) ∧ H b = some (.tup ys) ∧ xs.length + ys.length ≤ sizeLine ∧ ∀ c H', Kp [] H H' → H' c = some (.tup (xs ++ ys)) → Q (.ref c) H'
theorem op_catA : OpR X (binaryOp .Add) rCatA := by
  intro pins s σ H x y v u Q I rx ry h
  obtain ⟨a, b, xs, ys, rfl, rfl, ha, hb, hz, q⟩ := h
  by_cases e : xs = []
  · subst e
    cases rx
    cases ry
    obtain ⟨its, r1, p1, z1⟩ := I.tuple (SqT.of (K := X.K) ha)
    obtain ⟨its2, r2, p2, z2⟩ := I.tuple (SqT.of (K := X.K) hb)
    cases r1
    obtain ⟨⟨cls, dd, data, sl⟩, ho, hc, n, hd⟩ := id p1
    obtain ⟨⟨cls2, dd2, data2, sl2⟩, ho2, hc2, n2, hd2⟩ := id p2
    simp only at hc hd hc2 hd2
    subst hc hd hc2 hd2
    exact concat_meets ⟨_, ho, rfl⟩ ⟨_, ho2, rfl⟩ noFill_tuple_add seq_tuple_add PySem.F.slot_tuple_add PySem.F.entry_tuple_add (PySem.F.args_tuple_add_2 _ _)
      (tuple_addW0 a b [].toArray its2.toArray n n2 dd dd2 sl sl2 rfl) ⟨ho, ho2, ⟨.ref b, H, I, rfl, q b H (Kp.refl _) hb⟩⟩
  · exact op_catT pins s σ H _ _ v u Q I rx ry ⟨a, b, xs, ys, rfl, rfl, SqT.of ha, SqT.of hb, e, hz, fun z => by subst z; exact q a H (Kp.refl _) (by rw [List.append_nil]; exact ha), fun _ p hp => q p _ (Kp.new hp _) upd_same⟩
def rSlB : V → Option Int → Option Int → Hp → VK → Prop := fun x lo hi H Q => ∃ a xs, x = .ref a ∧ H a = some (.tup xs) ∧ ∀ c H', Kp [] H H' → H' c = some (.tup (cutV xs lo hi)) → Q (.ref c) H'
theorem sl_tupB : SlR X rSlB := by
  intro pins s σ H x v vl vu lo hi sl Q I rx hs pl pu h
  obtain ⟨a, xs, rfl, ha, q⟩ := h
  refine sl_tupA pins s σ H _ v vl vu lo hi sl Q I rx hs pl pu ⟨a, xs, rfl, SqT.of ha, fun z => q a H (Kp.refl _) ?_, fun _ p hp => q p _ (Kp.new hp _) upd_same⟩
  unfold cutV
  rw [z.1, z.2, List.drop_zero, Nat.sub_zero, List.take_length]
  exact ha

/-! ### t != () -/
theorem op_neT0 (hu : X.A.units < cLine) : OpR X (compareOp .NotEq) (fun x y H Q => ∃ a b xs, x = .ref a ∧ y = .ref b ∧ H a = some (.tup xs) ∧ H b = some (.tup []) ∧ Q (.bl (!xs.isEmpty)) H) := by
  intro pins s σ H x y v u Q I rx ry h
  obtain ⟨a, b, xs, rfl, rfl, ha, hb, q⟩ := h
  cases rx
  cases ry
  obtain ⟨its, rv, pl, hz⟩ := I.tuple (SqT.of (K := X.K) ha)
  obtain ⟨its2, rv2, pl2, hz2⟩ := I.tuple (SqT.of (K := X.K) hb)
  cases rv2
  refine SeqAt.RcNeAt.tuples (e := fun _ => true) pl pl2 hu (fun j h1 h2 => absurd h2 (by simp)) _ _ _ _ ⟨.bl (!xs.isEmpty), H, I, ?_, q⟩
  show _ = Value.bool _
  congr 1
  cases xs with
  | nil => cases rv; rfl
  | cons x r => cases rv with | cons r1 r2 => simp

/-! ### == of two lists of ints -/
def eqI (ns ms : List Int) : Bool := decide (ns = ms)
theorem all_eq_int : ∀ (ns ms : List Int), ns.length = ms.length → (List.range ns.length).all (fun j => eqV ((ns.map V.int).getD j .non) ((ms.map V.int).getD j .non)) = decide (ns = ms) := by
  intro ns ms hl
  rw [Bool.eq_iff_iff, List.all_eq_true, decide_eq_true_iff]
  constructor
  · intro h
    apply List.ext_getElem hl
    intro i h1 h2
    have := h i (List.mem_range.mpr h1)
    simpa [List.getD, List.getElem?_eq_getElem h1, List.getElem?_eq_getElem h2, eqV] using this
  · rintro rfl j hj
    have h1 := List.mem_range.mp hj
    simp [List.getD, List.getElem?_eq_getElem h1, eqV]
theorem op_eqLI (hu : X.A.units < cLine) : OpR X (compareOp .Eq) (fun x y H Q => ∃ (a b : Addr) (ns ms : List Int), x = .ref a ∧ y = .ref b ∧ H a = some (.lst (ns.map V.int)) ∧ H b = some (.lst (ms.map V.int)) ∧ Q (.bl (decide (ns = ms))) H) := by
  intro pins s σ H x y v u Q I rx ry h
  obtain ⟨a, b, ns, ms, rfl, rfl, ha, hb, q⟩ := h
  cases rx
  cases ry
  obtain ⟨its, rv, pl, hz⟩ := I.list (SqL.of (K := X.K) ha)
  obtain ⟨its2, rv2, pl2, hz2⟩ := I.list (SqL.of (K := X.K) hb)
  have l1 := rv.length
  have l2 := rv2.length
  rw [List.length_map] at l1 l2
  by_cases e : ns.length = ms.length
  · refine SeqAt.eq_listAt (e := fun j => eqV ((ns.map V.int).getD j .non) ((ms.map V.int).getD j .non)) pl.isList pl2.isList (by rw [List.size_toArray, List.size_toArray]; omega) hu (fun j h1 h2 => ?_) ⟨.bl (decide (ns = ms)), H, I, ?_, q⟩
    · exact eqAt_V (Vals.at rv (by simpa using h1)) (Vals.at rv2 (by simpa using h2)) (flat_at (flat_ints ns) j) (flat_at (flat_ints ms) j)
    · rw [List.size_toArray, ← l1, all_eq_int ns ms e]
      rfl
  · refine SeqAt.eq_list_lengthsAt pl.isList pl2.isList (by rw [List.size_toArray, List.size_toArray, ← l1, ← l2]; simpa using e) hu ⟨.bl (decide (ns = ms)), H, I, ?_, q⟩
    rw [decide_eq_false (fun z => e (by rw [z]))]
    rfl

/-! ### {} -/
def tDNew : TE := fun _ H Q => ∀ p, H p = none → Q (.ref p) (upd H p (.dK []))
theorem pe_dnew {pos : Pos} : PE X (.Dict [] [] pos) tDNew := by
  refine .mk ?_
  intro pins s σ H Q I h
  refine wpAny_Dict_empty ⟨.ref s.heap.objs.size, _, I.laid (a := s.heap.objs.size) (o := .dK []) (t' := s.toks) (fun _ _ q => Heap.get?_push_of_some _ q) (Nat.le_refl _) ?_, rfl, h _ (I.hok.fresh (Nat.le_refl _))⟩
  have hb : sysModules < s.heap.objs.size := Nat.lt_trans (by decide) (I.mod.glob.keeps I.bk).lt
  exact ⟨Nat.zero_le _, beq_eq_false_iff_ne.mpr fun z => Nat.ne_of_lt hb z.symm, [], .nil, Heap.DictOf.new s.heap⟩

/-! ### a text times an int -/
def repS (x : Str) (n : Nat) : Str := ⟨(List.replicate n x.cps).foldl (· ++ ·) #[]⟩
theorem fold_app (x : Array Nat) : ∀ (n : Nat) (acc : Array Nat), ((List.replicate n x).foldl (· ++ ·) acc).toList = acc.toList ++ (List.replicate n x.toList).flatten
  | 0, acc => by simp
  | n + 1, acc => by
    rw [List.replicate_succ, List.foldl_cons, fold_app x n, List.replicate_succ, List.flatten_cons, Array.toList_append, List.append_assoc]
theorem repS_list (x : Str) (n : Nat) : (repS x n).cps.toList = (List.replicate n x.cps.toList).flatten := by
  show ((List.replicate n x.cps).foldl (· ++ ·) #[]).toList = _
  rw [fold_app]
  rfl
theorem repS_len (x : Str) (n : Nat) : (repS x n).length = n * x.length := by
  show (repS x n).cps.size = _
  rw [← Array.length_toList, repS_list, len_rep, Array.length_toList]
  rfl
theorem rep_none {x : Str} {n : Nat} (h : n = 0 ∨ x.length = 0) : repS x n = Str.empty := by
  have e : (repS x n).cps.toList = [] := by
    apply List.eq_nil_of_length_eq_zero
    rw [Array.length_toList]
    show (repS x n).length = 0
    rw [repS_len]
    rcases h with h | h <;> simp [h]
  show (⟨(repS x n).cps⟩ : Str) = ⟨#[]⟩
  congr 1
  exact Array.toList_inj.mp (by rw [e])
theorem rep_one (x : Str) : repS x 1 = x := by
  show (⟨(repS x 1).cps⟩ : Str) = ⟨x.cps⟩
  congr 1
  apply Array.toList_inj.mp
  rw [repS_list]
  simp
theorem op_mulS : OpR X (binaryOp .Mult) (fun x y H Q => ∃ z k, x = .str z ∧ y = .int k ∧ -(2 ^ 62) < k ∧ k ≤ 1000 ∧ z.length ≤ 1000 ∧ Q (.str (repS z k.toNat)) H) := by
  intro pins s σ H x y v u Q I rx ry h
  obtain ⟨z, k, rfl, rfl, k1, k2, z1, q⟩ := h
  obtain ⟨t, rfl⟩ := rx
  obtain ⟨t', rfl⟩ := ry
  have hr : (decide (k < -(2 ^ 63 : Int)) || decide (k ≥ 2 ^ 63)) = false := by
    rw [decide_eq_false (by omega), decide_eq_false (by omega)]; rfl
  have hm : z.length * k.toNat ≤ 1000 * 1000 := Nat.mul_le_mul z1 (by omega)
  have hs : (1000 * 1000 : Nat) ≤ sizeLine := by decide
  refine PySem.P.mul_str hr (fun h1 _ => ?_) (fun h1 _ => ?_) ?_
  · have e : (2 ^ 63 - 1 : Int) / k ≥ 9223372036854775 := by
      rw [ge_iff_le, Int.le_ediv_iff_mul_le (by omega)]
      omega
    omega
  · show decide (z.length * k.toNat > sizeLine) = false
    exact decide_eq_false (by omega)
  · by_cases c : k < 1
    · rw [if_pos c]
      refine ⟨by decide, .str Str.empty, H, I.tok _, ⟨_, rfl⟩, ?_⟩
      rw [rep_none (.inl (by omega))] at q
      exact q
    · rw [if_neg c]
      by_cases c2 : (k == 1 || z.length == 0) = true
      · rw [if_pos c2]
        refine ⟨.str z, H, I, ⟨t, rfl⟩, ?_⟩
        rw [Bool.or_eq_true, beq_iff_eq, beq_iff_eq] at c2
        rcases c2 with rfl | c2
        · rw [show (1 : Int).toNat = 1 from rfl, rep_one] at q
          exact q
        · rw [rep_none (.inr c2)] at q
          have ez : z = Str.empty := by
            show (⟨z.cps⟩ : Str) = ⟨#[]⟩
            congr 1
            exact Array.eq_empty_of_size_eq_zero c2
          rw [ez]
          exact q
      · rw [if_neg c2]
        refine ⟨?_, .str (repS z k.toNat), H, I.tok _, ⟨_, rfl⟩, q⟩
        show (repS z k.toNat).length ≤ sizeLine
        rw [repS_len, Nat.mul_comm]
        omega

/-! ### a tuple times an int -/
theorem noFill_tuple_mul' : fillsNumberSlot (.type "tuple") "mul" = pure false :=
  PySem.fillsNumberSlot_seq (id := "tuple.__mul__") (r := some (.builtin "tuple.__rmul__")) F.slot_tuple_mul.lookup (by decide +kernel) F.slot_tuple_rmul.lookup (by decide +kernel)
theorem repeat_tuple' : seqRepeat? (.type "tuple") = pure (some (.builtin "tuple.__mul__")) := by
  unfold seqRepeat?
  rw [PySem.seqSlot_of (T := "tuple") (name := "__mul__") (id := "tuple.__mul__") F.slot_tuple_mul.lookup (by decide +kernel), PySem.seqSlot_of (T := "tuple") (name := "__rmul__") (id := "tuple.__rmul__") F.slot_tuple_rmul.lookup (by decide +kernel)]
  rfl
theorem rmul_int_tuple (a : Int) (t : Tok) (l : Addr) (its : Array Value) (n : Nat) (dd : Option Addr) (sl : Array (Option Value)) :
    Meets (Builtin.«int.__rmul__» ⟨[.int a t, .ref l], []⟩) (fun _ R s => s.heap.get? l = some { cls := .type "tuple", dict := dd, data := .seq its n, slots := sl } ∧ R (.ok (.ret Value.notImplemented)) s) :=
  .of_wp fun prog w A R s h => by
    obtain ⟨hp, g, d, tk, os⟩ := s; obtain ⟨hl, h⟩ := h; wp_walk; exact ⟨_, rfl, h⟩
theorem foldA (its : List Value) : ∀ (n : Nat) (acc : Array Value), (List.replicate n its.toArray).foldl (· ++ ·) acc = (acc.toList ++ (List.replicate n its).flatten).toArray
  | 0, acc => by simp
  | n + 1, acc => by
    rw [List.replicate_succ, List.foldl_cons, foldA its n, List.replicate_succ, List.flatten_cons, Array.toList_append, List.append_assoc]
theorem tuple_mul (l : Addr) (its : List Value) (n : Nat) (dd : Option Addr) (sl : Array (Option Value)) (k : Int) (t : Tok) (h1 : 0 ≤ k) (h2 : k ≤ 1000) (hz : its.length ≤ 1000) :
    Meets (Builtin.«tuple.__mul__» ⟨[.ref l, .int k t], []⟩) (fun _ R s => s.heap.get? l = some { cls := .type "tuple", dict := dd, data := .seq its.toArray n, slots := sl } ∧
      ((its = [] ∨ k = 1) → R (.ok (.ret (.ref l))) s) ∧ (¬ (its = [] ∨ k = 1) → R (.ok (.ret (.ref s.heap.objs.size))) { s with heap := s.heap.push { cls := .type "tuple", data := .seq (List.replicate k.toNat its).flatten.toArray } })) := by
  intro prog w A R s ⟨hl, q1, q2⟩
  have ht : IsTup s.heap l its.toArray := ⟨_, hl, rfl, n, rfl⟩
  show wpAny _ _ (asIndex (.int k t) >>= _) _ _ s
  refine wpAny_bind (wpAny_of_eq (a := k) rfl ?_)
  show wpAny _ _ (if (decide (k < -(2 ^ 63)) || decide (k ≥ 2 ^ 63)) = true then _ else _) _ _ s
  rw [if_neg (by rw [decide_eq_false (by omega), decide_eq_false (by omega)]; exact Bool.false_ne_true)]
  refine wpAny_bind (tupleItemsOf_ ht ?_)
  by_cases c : its = [] ∨ k = 1
  · rw [if_pos (by rw [Bool.or_eq_true]; exact c.imp (fun c => by rw [c]; rfl) (fun c => by rw [c]; rfl))]
    unfold Builtin.Tuple.tupleIsExact
    refine wpAny_bind (wpAny_bind (wpAny_typeOf ht.typeIs ?_))
    refine wpAny_pure ?_
    rw [if_pos (by decide)]
    refine wpAny_bind (wpAny_rule ?_)
    exact wpAny_pure (q1 c)
  · have c1 : ¬ its = [] := fun z => c (.inl z)
    have c2 : ¬ k = 1 := fun z => c (.inr z)
    have c3 : its.toArray.isEmpty = false := by simpa using c1
    rw [if_neg (by rw [c3, Bool.false_or, beq_iff_eq]; exact c2)]
    show wpAny _ _ (if (decide (k ≤ 0) || its.toArray.isEmpty) = true then _ else _) _ _ s
    have q := q2 c
    by_cases k0 : k ≤ 0
    · rw [if_pos (by rw [decide_eq_true k0]; rfl)]
      have e : (List.replicate k.toNat its).flatten.toArray = (#[] : Array Value) := by
        have : k.toNat = 0 := by omega
        rw [this]
        rfl
      rw [e] at q
      refine wpAny_bind (m := Builtin.Tuple.tupleExact _) ?_
      exact wpAny_newObj_type (wpAny_pure q) (by show 0 ≤ sizeLine; exact Nat.zero_le _)
    · rw [if_neg (by rw [decide_eq_false k0, c3]; exact Bool.false_ne_true)]
      have hm : its.length * k.toNat ≤ 1000 * 1000 := Nat.mul_le_mul hz (by omega)
      have hs : (1000 * 1000 : Nat) ≤ sizeLine := by decide
      have hp : ((its.toArray.size : Nat) : Int) * k = ((its.length * k.toNat : Nat) : Int) := by
        rw [List.size_toArray]
        push_cast
        congr 1
        omega
      show wpAny _ _ (if ((its.toArray.size : Nat) : Int) * k > (2 ^ 63 - 1) / 8 then _ else _) _ _ s
      rw [if_neg (by rw [hp]; omega)]
      show wpAny _ _ (if Builtin.Tuple.tupleTooMany (((its.toArray.size : Nat) : Int) * k) = true then _ else _) _ _ s
      rw [if_neg (by unfold Builtin.Tuple.tupleTooMany; rw [hp, decide_eq_false (by omega)]; exact Bool.false_ne_true)]
      have e : List.foldl (fun x1 x2 => x1 ++ x2) #[] (List.replicate k.toNat its.toArray) = (List.replicate k.toNat its).flatten.toArray := by
        have := foldA its k.toNat #[]
        simpa using this
      show wpAny _ _ (Builtin.Tuple.tupleExact (List.foldl (fun x1 x2 => x1 ++ x2) #[] (List.replicate k.toNat its.toArray)) >>= _) _ _ s
      rw [e]
      refine wpAny_bind (m := Builtin.Tuple.tupleExact _) ?_
      refine wpAny_newObj_type (wpAny_pure q) ?_
      show (List.replicate k.toNat its).flatten.toArray.size ≤ sizeLine
      rw [List.size_toArray, len_rep, Nat.mul_comm]
      omega
theorem op_repT : OpR X (binaryOp .Mult) (fun x y H Q => ∃ a k xs, x = .ref a ∧ y = .int k ∧ H a = some (.tup xs) ∧ 0 ≤ k ∧ k ≤ 1000 ∧ xs.length ≤ 1000 ∧ ∀ c H', Kp [] H H' → H' c = some (.tup (List.replicate k.toNat xs).flatten) → Q (.ref c) H') := by
  intro pins s σ H x y v u Q I rx ry h
  obtain ⟨a, k, xs, rfl, rfl, ha, k1, k2, hz, q⟩ := h
  cases rx
  obtain ⟨t, rfl⟩ := ry
  obtain ⟨its, r, p, z⟩ := I.tuple (SqT.of (K := X.K) ha)
  obtain ⟨⟨cls, dd, data, sl⟩, ho, hc, n, hd⟩ := id p
  simp only at hc hd
  subst hc hd
  have hl := r.length
  refine wpAny_binaryOp_repeat_ref (T := "tuple") (U := "int") (by decide) ⟨_, ho, rfl⟩ (fun s' => typeIs_int s' k t) noFill_tuple_mul' F.fills_int_mul F.slot_int_rmul repeat_tuple' F.slot_int_index.lookup
    (call_meets F.slot_int_rmul (typeIs_int s k t) F.entry_int_rmul (F.args_int_rmul_2 _ _) (rmul_int_tuple k t a its.toArray n dd sl)
      ⟨ho, rfl, ⟨_, ho, rfl⟩, call_meets F.slot_tuple_mul ⟨_, ho, rfl⟩ F.entry_tuple_mul (F.args_tuple_mul_2 _ _) (tuple_mul a its n dd sl k t k1 k2 (by omega)) ⟨ho, fun c => ?_, fun c => ?_⟩⟩)
  · refine ⟨.ref a, H, I, rfl, q a H (Kp.refl _) ?_⟩
    have e : (List.replicate k.toNat xs).flatten = xs := by
      rcases c with c | c
      · have : xs = [] := by cases r with | nil => rfl | cons _ _ => cases c
        rw [this]
        simp
      · rw [c]; simp
    rw [e]
    exact ha
  · refine ⟨.ref s.heap.objs.size, _, I.laid (t' := s.toks) (o := .tup (List.replicate k.toNat xs).flatten) (fun b ob q => Heap.get?_push_of_some _ q) (Nat.le_refl _) ?_, rfl, q _ _ (Kp.new (I.hok.fresh (Nat.le_refl _)) _) upd_same⟩
    refine ⟨?_, _, r.rep k.toNat, IsTup.new _ _⟩
    rw [len_rep]
    have hm : k.toNat * xs.length ≤ 1000 * 1000 := Nat.mul_le_mul (by omega) hz
    have hs : (1000 * 1000 : Nat) ≤ sizeLine := by decide
    omega

/-! ### ''.join(list of texts) -/
theorem strVals_of {ss : List Str} : ∀ {us : List Value}, Vals (ss.map V.str) us → ∃ l : List (Str × Tok), us = strValues l ∧ l.map (·.1) = ss := by
  induction ss with
  | nil => intro us r; rw [List.map_nil] at r; cases r; exact ⟨[], rfl, rfl⟩
  | cons x r ih =>
    intro us rv
    rw [List.map_cons] at rv
    cases rv with
    | cons r1 r2 =>
      obtain ⟨t, rfl⟩ := r1
      obtain ⟨l, rfl, e⟩ := ih r2
      exact ⟨(x, t) :: l, rfl, by rw [List.map_cons, e]⟩
/-- the texts one behind another -/
def catS (ss : List Str) : Str := ⟨(ss.map (·.cps.toList)).flatten.toArray⟩
theorem fold_cat : ∀ (ss : List Str) (x : Array Nat), ss.foldl (fun acc (p : Str) => acc ++ (Str.empty).cps ++ p.cps) x = (x.toList ++ (ss.map (·.cps.toList)).flatten).toArray
  | [], x => by simp
  | y :: r, x => by
    rw [List.foldl_cons, fold_cat r]
    simp [Str.empty, Array.toList_append, List.append_assoc]
theorem glued_empty : ∀ ss : List Str, Builtin.Str.glued Str.empty ss = catS ss
  | [] => rfl
  | y :: r => by
    show (⟨r.foldl (fun acc (p : Str) => acc ++ (Str.empty).cps ++ p.cps) y.cps⟩ : Str) = _
    rw [fold_cat]
    rfl
theorem foldLen (sep : Nat) : ∀ (ss : List Str) (n B : Nat), (∀ y ∈ ss, y.length ≤ B) → ss.foldl (fun a (p : Str) => a + p.length + sep) n ≤ n + ss.length * (B + sep)
  | [], n, B, _ => by simp
  | y :: r, n, B, h => by
    rw [List.foldl_cons]
    have h1 := foldLen sep r (n + y.length + sep) B fun z hz => h z (List.mem_cons_of_mem _ hz)
    have h2 := h y List.mem_cons_self
    rw [List.length_cons, Nat.succ_mul]
    omega
theorem flat_len {α : Type} (B : Nat) : ∀ ls : List (List α), (∀ l ∈ ls, l.length ≤ B) → ls.flatten.length ≤ ls.length * B
  | [], _ => by simp
  | l :: r, h => by
    rw [List.flatten_cons, List.length_append, List.length_cons, Nat.succ_mul]
    have h1 := flat_len B r fun z hz => h z (List.mem_cons_of_mem _ hz)
    have h2 := h l List.mem_cons_self
    omega
theorem catS_len {ss : List Str} {B : Nat} (h : ∀ y ∈ ss, y.length ≤ B) : (catS ss).length ≤ ss.length * B := by
  show (ss.map (·.cps.toList)).flatten.toArray.size ≤ _
  rw [List.size_toArray]
  have := flat_len B (ss.map (·.cps.toList)) fun l hl => by
    obtain ⟨y, hy, rfl⟩ := List.mem_map.mp hl
    rw [Array.length_toList]
    exact h y hy
  rwa [List.length_map] at this
theorem mt_join : MtR X "str.join" (fun x vs H Q => ∃ (p : Addr) (ss : List Str), x = .str Str.empty ∧ vs = [.ref p] ∧ SqL X.K H p (ss.map V.str) ∧ ss.length ≤ 1000 ∧ (∀ y ∈ ss, y.length ≤ 1000) ∧ Q (.str (catS ss)) H) := by
  intro pins s σ H x vs v us Q I rx rv h
  obtain ⟨p, ss, rfl, rfl, hq, l1, l2, q⟩ := h
  obtain ⟨t, rfl⟩ := rx
  obtain ⟨u, rfl, ru⟩ := rv.one
  cases ru
  obtain ⟨its, r, pl, hz⟩ := I.list hq
  obtain ⟨l, rfl, rfl⟩ := strVals_of r
  have hs : (1000 * 1000 : Nat) ≤ sizeLine := by decide
  have hlen : (l.map (·.1)).foldl (fun a (p : Str) => a + p.length + (Str.empty).length) 0 ≤ 1000 * 1000 := by
    have h1 := foldLen (Str.empty).length (l.map (·.1)) 0 1000 l2
    have h2 : (Str.empty).length = 0 := rfl
    rw [h2] at h1 ⊢
    have h3 : (l.map (·.1)).length * (1000 + 0) ≤ 1000 * 1000 := Nat.mul_le_mul l1 (by omega)
    omega
  have hl : Builtin.Str.tooLong ((l.map (·.1)).toArray.foldl (· + ·.length + (Str.empty).length) 0) = false := by
    unfold Builtin.Str.tooLong
    rw [List.foldl_toArray]
    exact decide_eq_false (by omega)
  refine call_meets F.slot_str_join (typeIs_str s _ t) F.entry_str_join (F.args_str_join_2 _ _) (meets_str_join_list Str.empty t p l hl) ⟨pl.isList, ?_⟩
  have fin : ∀ z : Str, z = catS (l.map (·.1)) → Q (.str z) H := fun z e => by rw [e]; exact q
  match l, glued_empty (l.map (·.1)), fin, l1, l2 with
  | [], _, fin, _, _ => exact ⟨by decide, .str Str.empty, H, I.tok _, ⟨_, rfl⟩, fin _ rfl⟩
  | [y], _, fin, _, _ => exact ⟨.str y.1, H, I, ⟨y.2, rfl⟩, fin _ (by simp [catS])⟩
  | y :: z :: r, e, fin, l1, l2 =>
    refine ⟨?_, .str (Builtin.Str.glued Str.empty ((y :: z :: r).map (·.1))), H, I.tok _, ⟨_, rfl⟩, fin _ e⟩
    show (Builtin.Str.glued Str.empty ((y :: z :: r).map (·.1))).length ≤ sizeLine
    rw [e]
    have h1 := catS_len (B := 1000) l2
    have h2 : ((y :: z :: r).map (·.1)).length * 1000 ≤ 1000 * 1000 := Nat.mul_le_mul l1 (Nat.le_refl _)
    omega
end
end L2

set_option Elab.async false
set_option linter.all false
set_option maxRecDepth 100000
/-! TEXTS WALKED, two tuples walked side by side (zip) -/
namespace L2
open PySem PySem.Spec PyProof.Rows

section
variable {X : Cx} {pins : List (Addr × Obj)} {σ : St} {H : Hp} {s : Shared} {h' : Heap}
/-- untracked records of ours have turned, and a new object has come -/
theorem Inv.turnedNew {t' : Nat} {ch : List Addr} {a : Addr} {o : HO} (I : Inv X pins σ H s) (k : ∀ b u, b ∉ ch → s.heap.get? b = some u → h'.get? b = some u) (hf : ∀ b ∈ ch, FpOk X pins H b) (ha : s.heap.objs.size ≤ a)
    (new : ObjOk X.prog X.w (upd H a o) h' a o) : Inv X pins σ (upd H a o) { s with heap := h', toks := t' } := by
  have hn : H a = none := I.hok.fresh ha
  have nch : ∀ b u, H b = some u → b ∉ ch := fun b u e z => by rw [(hf b z).1] at e; cases e
  refine I.step (g' := s.gens) (d' := s.drawn) (ch := ch) (fun b hb => ?_) (fun b o _ _ hc e _ => k b o hc e) (fun b o _ _ hc e _ => ⟨o.slots, k b o hc e⟩) (fun b o _ e n => ?_)
    (fun b o hc e => ⟨o, k b o hc e⟩) (fun b xs e => by rw [upd_ne (ne_of_none e hn)]; exact e) (fun b u v e => by rw [upd_ne (ne_of_none e hn)]; exact e) (fun b ps e => ⟨#[], by rw [upd_ne (ne_of_none e hn), e]; simp⟩) (fun m hm => ?_) (fun b u e => ?_) I.bare
  · obtain ⟨f0, f1, f2, f3, f4, f5⟩ := hf b hb
    exact ⟨f3, f1, f4, f5⟩
  · rw [upd_ne (Nat.ne_of_lt (Nat.lt_of_lt_of_le (Heap.lt_size e) ha))]
    exact n
  · obtain ⟨o, es, ep, ho, r⟩ := hm
    exact ⟨o, es, ep, k _ o (fun z => (hf _ z).2.1 rfl) ho, r⟩
  · by_cases hb : b = a
    · subst hb; rw [upd_same] at e; cases e; exact new
    · rw [upd_ne hb] at e
      refine (I.hok b u e).stay (fun c v hc q => k c v ?_ q) (fun c q => by rw [upd_ne (ne_of_none q hn)]; exact q) fun c xs q => by rw [upd_ne (ne_of_none q hn)]; exact q
      rcases hc with z | z
      · rw [z]; exact nch b u e
      · exact nch c _ z
theorem Inv.turnedAll {t' : Nat} {ch : List Addr} (I : Inv X pins σ H s) (k : ∀ b u, b ∉ ch → s.heap.get? b = some u → h'.get? b = some u) (hf : ∀ b ∈ ch, FpOk X pins H b) : Inv X pins σ H { s with heap := h', toks := t' } := by
  have nch : ∀ b u, H b = some u → b ∉ ch := fun b u e z => by rw [(hf b z).1] at e; cases e
  refine I.step (g' := s.gens) (d' := s.drawn) (ch := ch) (fun b hb => ?_) (fun b o _ _ hc e _ => k b o hc e) (fun b o _ _ hc e _ => ⟨o.slots, k b o hc e⟩) (fun b o _ e n => n)
    (fun b o hc e => ⟨o, k b o hc e⟩) (fun b xs e => e) (fun b u v e => e) (fun b ps e => ⟨#[], by rw [e]; simp⟩) (fun m hm => ?_) (fun b u e => ?_) I.bare
  · obtain ⟨f0, f1, f2, f3, f4, f5⟩ := hf b hb
    exact ⟨f3, f1, f4, f5⟩
  · obtain ⟨o, es, ep, ho, r⟩ := hm
    exact ⟨o, es, ep, k _ o (fun z => (hf _ z).2.1 rfl) ho, r⟩
  · refine (I.hok b u e).stay (fun c v hc q => k c v ?_ q) (fun _ q => q) fun _ _ q => q
    rcases hc with z | z
    · rw [z]; exact nch b u e
    · exact nch c _ z
end

/-! ### the signs of a text -/
def signV (c : Nat) : V := .str ⟨#[c]⟩
def Its (x : Str) : It := ⟨fun i _ => i < x.cps.size, fun i H v H' => H' = H ∧ ∃ c, x.cps[i]? = some c ∧ v = signV c, fun i _ => x.cps.size ≤ i⟩
theorem turn_str {P : Program} {w : World} {K : PySem.W.Frag} {tg : Expr} (it : Addr) (x : Str) (t : Tok) (ty : String) (hty : ty = "str_ascii_iterator" ∨ ty = "str_iterator") : Turn P w K tg (Its x) [it] it (fun i h => h.IsStrIter it ty x t i) where
  mem := by simp
  obj := fun i h st b hb => by
    have e : b = it := by simpa using hb
    subst e
    obtain ⟨o, e, c, d⟩ := st
    exact ⟨o, e, fun v z => by rw [d] at z; cases z⟩
  keep := fun i h h' st k => by
    obtain ⟨o, e, r⟩ := st
    exact ⟨o, k it (by simp) o e, r⟩
  item := by
    intro X hP hw hK hc i pins s σ H E I hf st hg
    subst hP hw hK
    obtain ⟨f0, f1, f2, f3, f4, f5⟩ := hf it (by simp)
    have key : ∀ v h' tk, SignAt x i v → h'.IsStrIter it ty x t (i + 1) → (∀ b o, b ∉ [it] → s.heap.get? b = some o → h'.get? b = some o) → ∃ u, some v = some u ∧
        wpAny (model X.prog X.w) X.A (letOwnedTupleGo tg (.ref it) u) (fun _ s2 => ∃ y H', Inv X pins σ H' s2 ∧ RelV y u ∧ (Its x).yld i H y H' ∧ s2.heap.IsStrIter it ty x t (i + 1) ∧ ∀ b ∈ [it], H' b = none) E { s with heap := h', toks := tk } := by
      intro v h' tk hv st' kk
      obtain ⟨c, u, hc', rfl⟩ := hv
      have I1 : Inv X pins σ H { s with heap := h', toks := tk } := I.turned (fun b o hb e => kk b o (by simpa using hb) e) f0 f1 f3 f4 f5
      obtain ⟨o, e, ec, ed⟩ := id st'
      exact ⟨_, rfl, go_of (s := { s with heap := h', toks := tk }) e ec ed (by rcases hty with rfl | rfl <;> decide) ⟨signV c, H, I1, ⟨u, rfl⟩, ⟨rfl, c, hc', rfl⟩, st', fun b hb => (hf b hb).1⟩⟩
    rcases hty with rfl | rfl
    · exact (Walks.strAscii (prog := X.prog) (w := X.w) (I.ok.hd hc) it x t).item i s _ _ hg st key
    · exact (Walks.strWide (prog := X.prog) (w := X.w) (I.ok.hd hc) it x t).item i s _ _ hg st key
  done := by
    intro X hP hw hK hc i pins s σ H E I hf st hg
    subst hP hw hK
    obtain ⟨f0, f1, f2, f3, f4, f5⟩ := hf it (by simp)
    have hx : x.cps[i]? = none := Array.getElem?_eq_none hg
    rcases hty with rfl | rfl
    · exact wpAny_pyNext_ascii_end (I.ok.hd hc) st hx fun h' eb => ⟨rfl, I.turned (t' := s.toks) (fun b o hb e => eb b o hb e) f0 f1 f3 f4 f5⟩
    · exact wpAny_pyNext_wide_end (I.ok.hd hc) st hx fun h' eb => ⟨rfl, I.turned (t' := s.toks) (fun b o hb e => eb b o hb e) f0 f1 f3 f4 f5⟩
  self := fun _ _ _ _ _ st h => by
    rcases hty with rfl | rfl
    · exact wpAny_pyIter_striter_ascii st h
    · exact wpAny_pyIter_striter_wide st h
section
variable {X : Cx} {tg : Expr}
def iStr (tl : TE) : TI := fun σ H R => tl σ H fun x H1 => ∃ z, x = .str z ∧ R (Its z) H1
theorem pi_str {l : Expr} {tl : TE} (hl : PE X l tl) : PI X tg l (iStr tl) := by
  refine .mk ?_
  intro pins s σ H R I h
  refine thn (hl pins s σ H _ I h) fun v s1 ⟨x, H1, I1, r1, q1⟩ => ?_
  obtain ⟨z, e, q⟩ := q1
  subst e
  obtain ⟨t, rfl⟩ := r1
  have fin : ∀ ty : String, (ty = "str_ascii_iterator" ∨ ty = "str_iterator") → PIE X pins σ tg R (.ref s1.heap.objs.size) { s1 with heap := s1.heap.push { cls := .type ty, data := .fields #[.str z t, .int 0 0] } } := by
    intro ty hty
    refine ⟨s1.heap.objs.size, [s1.heap.objs.size], _, _, H1, rfl, I1.kept (t' := s1.toks) fun b o e => Heap.get?_push_of_some _ e, turn_str s1.heap.objs.size z t ty hty, ⟨_, Heap.get?_push_size _ rfl, rfl, rfl⟩, fun b hb => ?_, q⟩
    have e : b = s1.heap.objs.size := by simpa using hb
    subst e
    exact I1.fpOk (Nat.le_refl _) (I1.hok.fresh (Nat.le_refl _))
  cases ha : z.cps.all (· < 128)
  · exact wpAny_pyIter_wide ha (fin _ (.inr rfl))
  · exact wpAny_pyIter_ascii ha (fin _ (.inl rfl))
end
section
variable {own : List Str} {cap : List (Nat × Str)} {σ : St} {H1 : Hp} {D : Addr} {g : TG} {tc : TT} {te : TE} {QD : Hp → Prop}
theorem comp_str {z : Str} (Pv : Nat → St → List V → Hp → Prop) (h0 : Pv 0 (compSt own cap σ) [] (upd H1 D (.lst [])))
    (hD : ∀ i σ ys H, i ≤ z.cps.toList.length → Pv i σ ys H → H D = some (.lst ys) ∧ ys.length ≤ i)
    (hz : z.cps.toList.length ≤ sizeLine)
    (hs : ∀ i c σ ys H, z.cps.toList[i]? = some c → Pv i σ ys H → g (signV c) σ H fun σ3 H3 => tc σ3 H3 fun b H4 => if b = true then te σ3 H4 fun y H5 => H5 D = some (.lst ys) ∧ Pv (i + 1) σ3 (ys ++ [y]) (upd H5 D (.lst (ys ++ [y]))) else Pv (i + 1) σ3 ys H4)
    (hd : ∀ σ ys H, Pv z.cps.toList.length σ ys H → QD H) :
    ∃ W : Nat → Nat → St → List V → Hp → Prop, (∃ m, W 0 m (compSt own cap σ) [] (upd H1 D (.lst []))) ∧ ∀ i m σ' ys H', W i m σ' ys H' → H' D = some (.lst ys) ∧
      (((Its z).stop i H' ∧ QD H') ∨ ((Its z).go i H' ∧ ys.length < sizeLine ∧ ∃ N : St → List V → Hp → Prop, (∀ σ ys H, N σ ys H → ∃ m', m' < m ∧ W (i + 1) m' σ ys H) ∧ ∀ x H2, (Its z).yld i H' x H2 → g x σ' H2 fun σ3 H3 => tc σ3 H3 fun b H4 => if b = true then te σ3 H4 fun y H5 => H5 D = some (.lst ys) ∧ N σ3 (ys ++ [y]) (upd H5 D (.lst (ys ++ [y])))
        else N σ3 ys H4)) := by
  have len : (z.cps.toList.map signV).length = z.cps.toList.length := List.length_map _
  refine comp_seq (xs := z.cps.toList.map signV) Pv h0 (by rw [len]; exact hD) (by rw [len]; exact hz) (by rw [len]; exact fun i σ ys H hi _ => by show i < z.cps.size; rwa [Array.length_toList] at hi) (by rw [len]; exact fun σ ys H _ => by show z.cps.size ≤ _; rw [Array.length_toList]; exact Nat.le_refl _) ?_ ?_ (by rw [len]; exact hd)
  · rw [len]
    intro i σ ys H x H' hi _ y
    obtain ⟨e, c, hc, rfl⟩ := y
    refine ⟨e, ?_⟩
    rw [List.getElem?_map, Array.getElem?_toList, hc]
    rfl
  · intro i x σ ys H hx p
    rw [List.getElem?_map] at hx
    cases hy : z.cps.toList[i]? with
    | none => rw [hy] at hx; cases hx
    | some c =>
      rw [hy] at hx
      cases hx
      exact hs i c σ ys H hy p
end
end L2

set_option Elab.async false
set_option linter.all false
set_option maxRecDepth 100000
/-! TWO TUPLES WALKED SIDE BY SIDE: zip -/
namespace L2
open PySem PySem.Spec PyProof.Rows

section
variable {prog : Program} {w : World} {A : Around} {E : Value → Shared → Prop} {s : Shared}
/-- what a tuple's iterator hands out next -/
theorem nextT_item {j u : Addr} {i : Nat} {vs : Array Value} {v : Value} {Q : Value → Shared → Prop} (hj : s.heap.IsTupleIter j u i) (hu : s.heap.IsTuple u vs) (hv : vs[i]? = some v)
    (q : ∀ h', h'.IsTupleIter j u (i + 1) → Heap.SameBut j s.heap h' → Q v { s with heap := h' }) : wpAny (model prog w) A (Builtin.SmallTypes.nextOf (.ref j)) Q E s := by
  obtain ⟨ob, b1, b2, b3⟩ := id hj
  obtain ⟨ou, c1, _, nu, c3⟩ := hu
  unfold Builtin.SmallTypes.nextOf
  refine wpAny_bind (wpAny_callSpecial?_slot (name := Str.ofString "__next__") hj.typeIs F.slot_tuple_iterator_next (wpAny_call_entry F.slot_tuple_iterator_next hj.typeIs F.entry_tuple_iterator_next ?_ (F.args_tuple_iterator_next_1 _)))
  show wpAny _ _ (field (.ref j) 0 >>= _) _ _ s
  refine wpAny_bind (wpAny_field b1 b3 (x := .ref u) rfl ?_)
  show wpAny _ _ (if (Value.ref u == Value.none) = true then _ else _) _ _ s
  rw [if_neg (show ¬ ((Value.ref u == Value.none) = true) from Bool.false_ne_true)]
  show wpAny _ _ (field (.ref j) 1 >>= _) _ _ s
  refine wpAny_bind (wpAny_field b1 b3 (x := .int i 0) rfl ?_)
  show wpAny _ _ (seqItems? (.ref u) >>= _) _ _ s
  refine wpAny_bind (wpAny_seqItems c1 c3 ?_)
  simp only [Int.toNat_natCast, hv]
  refine wpAny_bind (wpAny_setField b1 b3 (by simp) (wpAny_pure ⟨v, rfl, wpAny_pure (q _ ?_ (Heap.SameBut.update ..))⟩))
  exact ⟨_, Heap.get?_update_self _ b1 (Obj.isFreed_of_fields (Obj.data_mapFields b3 _)), (Obj.cls_mapFields ..).trans b2, by rw [Obj.data_mapFields b3]; simp [rawInt]⟩
theorem nextT_end {j u : Addr} {i : Nat} {vs : Array Value} {Q : Value → Shared → Prop} (hh : A.handled = none) (hj : s.heap.IsTupleIter j u i) (hu : s.heap.IsTuple u vs) (hv : vs[i]? = none)
    (q : ∀ h' e, Heap.ExtBut j s.heap h' → (∃ o, h'.get? e = some o ∧ o.cls = .type "StopIteration") → E (.ref e) { s with heap := h' }) : wpAny (model prog w) A (Builtin.SmallTypes.nextOf (.ref j)) Q E s := by
  obtain ⟨ob, b1, b2, b3⟩ := id hj
  obtain ⟨ou, c1, _, nu, c3⟩ := hu
  unfold Builtin.SmallTypes.nextOf
  refine wpAny_bind (wpAny_callSpecial?_slot (name := Str.ofString "__next__") hj.typeIs F.slot_tuple_iterator_next (wpAny_call_entry F.slot_tuple_iterator_next hj.typeIs F.entry_tuple_iterator_next ?_ (F.args_tuple_iterator_next_1 _)))
  show wpAny _ _ (field (.ref j) 0 >>= _) _ _ s
  refine wpAny_bind (wpAny_field b1 b3 (x := .ref u) rfl ?_)
  show wpAny _ _ (if (Value.ref u == Value.none) = true then _ else _) _ _ s
  rw [if_neg (show ¬ ((Value.ref u == Value.none) = true) from Bool.false_ne_true)]
  show wpAny _ _ (field (.ref j) 1 >>= _) _ _ s
  refine wpAny_bind (wpAny_field b1 b3 (x := .int i 0) rfl ?_)
  show wpAny _ _ (seqItems? (.ref u) >>= _) _ _ s
  refine wpAny_bind (wpAny_seqItems c1 c3 ?_)
  simp only [Int.toNat_natCast, hv]
  refine wpAny_bind (wpAny_rule (wpAny_bind (wpAny_setField b1 b3 (by simp) ?_)))
  show wpAny _ _ (newExc (.type "StopIteration") [] >>= _) _ _ _
  refine wpAny_bind ?_
  simp only [newExc, newTuple]
  refine wpAny_bind (wpAny_newObj_type ?_ (by show 0 ≤ sizeLine; exact Nat.zero_le _))
  refine wpAny_bind (m := firstArgMember _ _) (wpAny_of_eq (a := Value.none) (by first | rfl | (simp only [firstArgMember] <;> rfl)) ?_)
  refine wpAny_newObj_type ?_ (by size_fits)
  simp only [raiseNew]
  refine wpAny_bind (wpAny_handled ?_)
  first | rw [show A.in1.handled = none from hh] | rw [hh]
  refine wpAny_bind (wpAny_pure (wpAny_throw ?_))
  exact q _ _ (((Heap.SameBut.update ..).extBut.push _).push _) ⟨_, Heap.get?_push_size _ rfl, rfl⟩

/-- the walker's records lie apart -/
structure Apart (z p r j1 j2 u1 u2 : Addr) : Prop where
  pz : p ≠ z
  rz : r ≠ z
  j1z : j1 ≠ z
  j2z : j2 ≠ z
  pr : p ≠ r
  pj1 : p ≠ j1
  pj2 : p ≠ j2
  rj1 : r ≠ j1
  rj2 : r ≠ j2
  j12 : j1 ≠ j2
  u1z : u1 ≠ z
  u1r : u1 ≠ r
  u1j1 : u1 ≠ j1
  u1j2 : u1 ≠ j2
  u2z : u2 ≠ z
  u2r : u2 ≠ r
  u2j1 : u2 ≠ j1
  u2j2 : u2 ≠ j2
theorem itAt {h h' : Heap} {a t : Addr} {i : Nat} (x : h.IsTupleIter a t i) (e : ∀ o, h.get? a = some o → h'.get? a = some o) : h'.IsTupleIter a t i := let ⟨o, ho, r⟩ := x; ⟨o, e o ho, r⟩

theorem zipT_item {z p r j1 j2 u1 u2 : Addr} {i : Nat} {vs ws : Array Value} {x y a b : Value} {Q : Value → Shared → Prop} (D : Apart z p r j1 j2 u1 u2)
    (hz : IsZip s.heap z p r .none) (hp : IsPair s.heap p (.ref j1) (.ref j2)) (hr : IsPair s.heap r a b)
    (h1 : s.heap.IsTupleIter j1 u1 i) (h2 : s.heap.IsTupleIter j2 u2 i) (l1 : s.heap.IsTuple u1 vs) (l2 : s.heap.IsTuple u2 ws) (hx : vs[i]? = some x) (hy : ws[i]? = some y)
    (q : ∀ h', IsZip h' z p r (rawInt s.heap.objs.size) → IsPair h' r x y → h'.IsTupleIter j1 u1 (i + 1) → h'.IsTupleIter j2 u2 (i + 1) → IsPair h' s.heap.objs.size x y → h'.objs.size = s.heap.objs.size + 1 →
      (∀ c o, c ≠ z → c ≠ r → c ≠ j1 → c ≠ j2 → s.heap.get? c = some o → h'.get? c = some o) → Q (.ref s.heap.objs.size) { s with heap := h' }) :
    wpAny (model prog w) A (Builtin.«zip.__next__» ⟨[.ref z], []⟩) (fun fin s' => ∃ v, fin = .done (.ret v) ∧ Q v s') E s := by
  show wpAny _ _ (field (.ref z) 2 >>= _) _ _ _
  refine wpAny_bind (wpAny_field hz rfl (x := .bool false) rfl ?_)
  show wpAny _ _ (field (.ref z) 3 >>= _) _ _ _
  refine wpAny_bind (wpAny_field hz rfl (x := .ref p) rfl ?_)
  refine wpAny_bind (wpAny_seqItems hp rfl ?_)
  show wpAny _ _ (Builtin.SmallTypes.ownedTupleIsFree (.ref z) >>= _) _ _ _
  refine wpAny_bind ?_
  unfold Builtin.SmallTypes.ownedTupleIsFree
  refine wpAny_bind (wpAny_field hz rfl (x := .none) rfl (wpAny_pure ?_))
  simp only [if_true]
  refine wpAny_bind (wpAny_rule ?_)
  refine wpAny_bind (wpAny_field hz rfl (x := .ref r) rfl ?_)
  refine wpAny_bind (wpAny_setField_rec hz (by simp) fun g1 z1 e1 => ?_)
  replace z1 : IsZip g1 z p r .ellipsis := z1
  refine wpAny_bind ?_
  simp only [List.zipIdx_cons, List.zipIdx_nil, List.forIn_cons, List.forIn_nil]
  refine wpAny_bind (wpAny_bind (wpAny_onRaise ?_))
  show wpAny _ _ (Builtin.SmallTypes.nextOf (.ref j1) >>= _) _ _ _
  refine wpAny_bind (nextT_item (h1.extBut e1.extBut D.j1z) (l1.extBut e1.extBut D.u1z) hx fun g2 a2 e2 => wpAny_pure ?_)
  have r2 : IsPair g2 r a b := e2.extBut _ _ D.rj1 (e1.extBut _ _ D.rz hr)
  refine wpAny_bind (wpAny_seqItems r2 rfl ?_)
  refine wpAny_bind (wpAny_updateSeq_pair r2 fun g3 r3 e3 => ?_)
  replace r3 : IsPair g3 r x b := r3
  refine wpAny_bind (wpAny_letGo (wpAny_pure ?_))
  refine wpAny_bind (wpAny_bind (wpAny_onRaise ?_))
  show wpAny _ _ (Builtin.SmallTypes.nextOf (.ref j2) >>= _) _ _ _
  refine wpAny_bind (nextT_item (((h2.extBut e1.extBut D.j2z).extBut e2.extBut D.j12.symm).extBut e3.extBut D.rj2.symm) (((l2.extBut e1.extBut D.u2z).extBut e2.extBut D.u2j1).extBut e3.extBut D.u2r) hy fun g4 a4 e4 => wpAny_pure ?_)
  have r4 : IsPair g4 r x b := e4.extBut _ _ D.rj2 r3
  refine wpAny_bind (wpAny_seqItems r4 rfl ?_)
  refine wpAny_bind (wpAny_updateSeq_pair r4 fun g5 r5 e5 => ?_)
  replace r5 : IsPair g5 r x y := r5
  refine wpAny_bind (wpAny_letGo (wpAny_pure (wpAny_pure ?_)))
  refine wpAny_bind (wpAny_seqItems r5 rfl ?_)
  refine wpAny_bind (wpAny_newTuple ?_)
  have sz : g5.objs.size = s.heap.objs.size := by rw [e5.1, e4.1, e3.1, e2.1, e1.1]
  have z5 : IsZip g5 z p r .ellipsis := e5.extBut _ _ D.rz.symm (e4.extBut _ _ D.j2z.symm (e3.extBut _ _ D.rz.symm (e2.extBut _ _ D.j1z.symm z1)))
  have k5 : ∀ c o, c ≠ z → c ≠ r → c ≠ j1 → c ≠ j2 → s.heap.get? c = some o → g5.get? c = some o := fun c o n1 n2 n3 n4 e =>
    e5.extBut _ _ n2 (e4.extBut _ _ n4 (e3.extBut _ _ n2 (e2.extBut _ _ n3 (e1.extBut _ _ n1 e))))
  have b1 : g5.IsTupleIter j1 u1 (i + 1) := ((a2.extBut e3.extBut D.rj1.symm).extBut e4.extBut D.j12).extBut e5.extBut D.rj1.symm
  have b2 : g5.IsTupleIter j2 u2 (i + 1) := a4.extBut e5.extBut D.rj2.symm
  have zl : z < g5.objs.size := Heap.lt_size z5
  show wpAny _ _ (Builtin.SmallTypes.ownedTupleHandOut (.ref z) (.ref g5.objs.size) >>= _) _ _ _
  refine wpAny_bind ?_
  unfold Builtin.SmallTypes.ownedTupleHandOut
  have z6 : IsZip (g5.push { cls := .type "tuple", data := .seq #[x, y] }) z p r .ellipsis := Heap.get?_push_of_some _ z5
  refine wpAny_bind (wpAny_setField_rec z6 (by simp) fun g7 z7 e7 => ?_)
  replace z7 : IsZip g7 z p r (rawInt g5.objs.size) := z7
  refine wpAny_setField_rec z7 (by simp) fun g8 z8 e8 => ?_
  replace z8 : IsZip g8 z p r (rawInt g5.objs.size) := z8
  have up : ∀ c o, c ≠ z → g5.get? c = some o → g8.get? c = some o := fun c o n1 e => e8.extBut _ _ n1 (e7.extBut _ _ n1 (Heap.get?_push_of_some _ e))
  have t8 : IsPair g8 g5.objs.size x y := e8.extBut _ _ (Nat.ne_of_gt zl) (e7.extBut _ _ (Nat.ne_of_gt zl) (Heap.get?_push_size _ rfl))
  have s8 : g8.objs.size = g5.objs.size + 1 := by rw [e8.1, e7.1, Heap.size_push]
  rw [sz] at z8 t8 s8
  refine wpAny_pure ⟨_, rfl, ?_⟩
  show Q (.ref g5.objs.size) _
  rw [sz]
  exact q g8 z8 (up _ _ D.rz r5) (itAt b1 fun o e => up _ o D.j1z e) (itAt b2 fun o e => up _ o D.j2z e) t8 s8 fun c o n1 n2 n3 n4 e => up c o n1 (k5 c o n1 n2 n3 n4 e)

theorem zipT_end {z p r j1 j2 u1 u2 : Addr} {i : Nat} {vs ws : Array Value} {a b : Value} {Q : Fin → Shared → Prop} (hh : A.handled = none) (D : Apart z p r j1 j2 u1 u2)
    (hz : IsZip s.heap z p r .none) (hp : IsPair s.heap p (.ref j1) (.ref j2)) (hr : IsPair s.heap r a b)
    (h1 : s.heap.IsTupleIter j1 u1 i) (h2 : s.heap.IsTupleIter j2 u2 i) (l1 : s.heap.IsTuple u1 vs) (l2 : s.heap.IsTuple u2 ws) (hend : vs[i]? = none ∨ ws[i]? = none)
    (q : ∀ h' e, (∀ c o, c ≠ z → c ≠ r → c ≠ j1 → c ≠ j2 → s.heap.get? c = some o → h'.get? c = some o) → (∃ o, h'.get? e = some o ∧ o.cls = .type "StopIteration") → E (.ref e) { s with heap := h' }) :
    wpAny (model prog w) A (Builtin.«zip.__next__» ⟨[.ref z], []⟩) Q E s := by
  show wpAny _ _ (field (.ref z) 2 >>= _) _ _ _
  refine wpAny_bind (wpAny_field hz rfl (x := .bool false) rfl ?_)
  show wpAny _ _ (field (.ref z) 3 >>= _) _ _ _
  refine wpAny_bind (wpAny_field hz rfl (x := .ref p) rfl ?_)
  refine wpAny_bind (wpAny_seqItems hp rfl ?_)
  show wpAny _ _ (Builtin.SmallTypes.ownedTupleIsFree (.ref z) >>= _) _ _ _
  refine wpAny_bind ?_
  unfold Builtin.SmallTypes.ownedTupleIsFree
  refine wpAny_bind (wpAny_field hz rfl (x := .none) rfl (wpAny_pure ?_))
  simp only [if_true]
  refine wpAny_bind (wpAny_rule ?_)
  refine wpAny_bind (wpAny_field hz rfl (x := .ref r) rfl ?_)
  refine wpAny_bind (wpAny_setField_rec hz (by simp) fun g1 z1 e1 => ?_)
  replace z1 : IsZip g1 z p r .ellipsis := z1
  refine wpAny_bind ?_
  simp only [List.zipIdx_cons, List.zipIdx_nil, List.forIn_cons, List.forIn_nil]
  refine wpAny_bind (wpAny_bind (wpAny_onRaise ?_))
  show wpAny _ _ (Builtin.SmallTypes.nextOf (.ref j1) >>= _) _ _ _
  cases hx : vs[i]? with
  | none =>
    refine wpAny_bind (nextT_end hh (h1.extBut e1.extBut D.j1z) (l1.extBut e1.extBut D.u1z) hx fun g2 e e2 he => ?_)
    obtain ⟨oe, he1, he2⟩ := he
    have z2 : IsZip g2 z p r .ellipsis := e2 _ _ D.j1z.symm z1
    have nez : e ≠ z := fun x => by subst x; rw [z2] at he1; cases he1; simp at he2
    refine wpAny_setField_rec z2 (by simp) fun g3 _ e3 => q g3 e (fun c o n1 _ n3 _ x => e3.extBut _ _ n1 (e2 _ _ n3 (e1.extBut _ _ n1 x))) ⟨oe, e3.extBut _ _ nez he1, he2⟩
  | some x =>
    have hy : ws[i]? = none := by rcases hend with h | h; rw [hx] at h; cases h; exact h
    refine wpAny_bind (nextT_item (h1.extBut e1.extBut D.j1z) (l1.extBut e1.extBut D.u1z) hx fun g2 a2 e2 => wpAny_pure ?_)
    have r2 : IsPair g2 r a b := e2.extBut _ _ D.rj1 (e1.extBut _ _ D.rz hr)
    refine wpAny_bind (wpAny_seqItems r2 rfl ?_)
    refine wpAny_bind (wpAny_updateSeq_pair r2 fun g3 r3 e3 => ?_)
    refine wpAny_bind (wpAny_letGo (wpAny_pure ?_))
    refine wpAny_bind (wpAny_bind (wpAny_onRaise ?_))
    show wpAny _ _ (Builtin.SmallTypes.nextOf (.ref j2) >>= _) _ _ _
    refine wpAny_bind (nextT_end hh (((h2.extBut e1.extBut D.j2z).extBut e2.extBut D.j12.symm).extBut e3.extBut D.rj2.symm) (((l2.extBut e1.extBut D.u2z).extBut e2.extBut D.u2j1).extBut e3.extBut D.u2r) hy fun g4 e e4 he => ?_)
    obtain ⟨oe, he1, he2⟩ := he
    have z4 : IsZip g4 z p r .ellipsis := e4 _ _ D.j2z.symm (e3.extBut _ _ D.rz.symm (e2.extBut _ _ D.j1z.symm z1))
    have nez : e ≠ z := fun x => by subst x; rw [z4] at he1; cases he1; simp at he2
    refine wpAny_setField_rec z4 (by simp) fun g5 _ e5 => q g5 e (fun c o n1 n2 n3 n4 x => e5.extBut _ _ n1 (e4 _ _ n4 (e3.extBut _ _ n2 (e2.extBut _ _ n3 (e1.extBut _ _ n1 x))))) ⟨oe, e5.extBut _ _ nez he1, he2⟩
end

/-! ### the walk -/
def Itz (K : PySem.W.Frag) (a b : Addr) : It :=
  ⟨fun i H => ∃ xs ys x y, SqT K H a xs ∧ SqT K H b ys ∧ xs[i]? = some x ∧ ys[i]? = some y,
   fun i H v H' => ∃ p x y, H p = none ∧ v = .ref p ∧ H' = upd H p (.tup [x, y]) ∧ (∀ xs, SqT K H a xs → xs[i]? = some x) ∧ (∀ ys, SqT K H b ys → ys[i]? = some y),
   fun i H => ∃ xs ys, SqT K H a xs ∧ SqT K H b ys ∧ (xs.length ≤ i ∨ ys.length ≤ i)⟩
theorem turn_zip {P : Program} {w : World} {K : PySem.W.Frag} {elts : List Expr} {kk : Nat} {pos : Pos} (a b z p r j1 j2 : Addr) (D : Apart z p r j1 j2 a b) :
    Turn P w K (.Tuple elts kk pos) (Itz K a b) [z, p, r, j1, j2] z (fun i h => IsZip h z p r .none ∧ IsPair h p (.ref j1) (.ref j2) ∧ (∃ u v, IsPair h r u v) ∧ h.IsTupleIter j1 a i ∧ h.IsTupleIter j2 b i) where
  mem := by simp
  obj := fun i h st c hc => by
    obtain ⟨hz, hp, ⟨u, v, hr⟩, ⟨o1, e1, _, d1⟩, ⟨o2, e2, _, d2⟩⟩ := st
    simp only [List.mem_cons, List.not_mem_nil, or_false] at hc
    rcases hc with rfl | rfl | rfl | rfl | rfl
    · exact ⟨_, hz, fun v z => by have z' : Data.fields _ = Data.cell v := z; cases z'⟩
    · exact ⟨_, hp, fun v z => by have z' : Data.seq _ _ = Data.cell v := z; cases z'⟩
    · exact ⟨_, hr, fun v z => by have z' : Data.seq _ _ = Data.cell v := z; cases z'⟩
    · exact ⟨o1, e1, fun v z => by rw [d1] at z; cases z⟩
    · exact ⟨o2, e2, fun v z => by rw [d2] at z; cases z⟩
  keep := fun i h h' st k => by
    obtain ⟨hz, hp, ⟨u, v, hr⟩, h1, h2⟩ := st
    exact ⟨k z (by simp) _ hz, k p (by simp) _ hp, ⟨u, v, k r (by simp) _ hr⟩, itAt h1 fun o e => k j1 (by simp) o e, itAt h2 fun o e => k j2 (by simp) o e⟩
  item := by
    intro X hP hw hK hc i pins s σ H E I hf st hg
    subst hP hw hK
    obtain ⟨hz, hp, ⟨u, v, hr⟩, h1, h2⟩ := st
    obtain ⟨xs, ys, x, y, hxs, hys, hx, hy⟩ := hg
    obtain ⟨its, rv, pl, _⟩ := I.tuple hxs
    obtain ⟨its2, rv2, pl2, _⟩ := I.tuple hys
    obtain ⟨vx, ex, rx⟩ := rv.get hx
    obtain ⟨vy, ey, ry⟩ := rv2.get hy
    have hT : s.TypeIs (.ref z) "zip" := ⟨_, hz, rfl⟩
    have n0 : H s.heap.objs.size = none := I.hok.fresh (Nat.le_refl _)
    unfold pyNext
    refine wpAny_bind (wpAny_attempt (wpAny_callSpecial?_slot (name := Str.ofString "__next__") hT F.slot_zip_next (wpAny_call_entry F.slot_zip_next hT F.entry_zip_next
      (zipT_item D hz hp hr h1 h2 pl pl2 (by simpa using ex) (by simpa using ey) fun g a1 a2 a3 a4 a5 a6 a7 => wpAny_pure ?_) (F.args_zip_next_1 _))))
    refine ⟨_, rfl, ?_⟩
    refine wpAny_letOwnedTupleGo_zip a1 fun g2 b1 b2 => ?_
    have zl : z < s.heap.objs.size := Heap.lt_size hz
    have lt : ∀ c ∈ [z, p, r, j1, j2], c < s.heap.objs.size := fun c hc => by
      simp only [List.mem_cons, List.not_mem_nil, or_false] at hc
      obtain ⟨_, q1, _⟩ := h1
      obtain ⟨_, q2, _⟩ := h2
      rcases hc with rfl | rfl | rfl | rfl | rfl
      · exact zl
      · exact Heap.lt_size hp
      · exact Heap.lt_size hr
      · exact Heap.lt_size q1
      · exact Heap.lt_size q2
    refine ⟨.ref s.heap.objs.size, upd H s.heap.objs.size (.tup [x, y]), ?_, rfl, ⟨_, x, y, n0, rfl, rfl, fun zs hzs => by rw [I.tuple_inj hzs hxs]; exact hx, fun zs hzs => by rw [I.tuple_inj hzs hys]; exact hy⟩, ⟨b1, ?_, ⟨vx, vy, ?_⟩, ?_, ?_⟩, fun c hc => ?_⟩
    · refine I.turnedNew (t' := s.toks) (ch := [z, r, j1, j2]) (fun c o hc e => ?_) (fun c hc => hf c ?_) (Nat.le_refl _) ⟨by show 2 ≤ sizeLine; decide, [vx, vy], .cons rx (.cons ry .nil), ?_⟩
      · simp only [List.mem_cons, List.not_mem_nil, or_false, not_or] at hc
        exact b2.extBut _ _ hc.1 (a7 c o hc.1 hc.2.1 hc.2.2.1 hc.2.2.2 e)
      · simp only [List.mem_cons, List.not_mem_nil, or_false] at hc ⊢
        rcases hc with rfl | rfl | rfl | rfl <;> simp
      · exact ⟨_, b2.extBut _ _ (Nat.ne_of_gt zl) a5, rfl, 0, rfl⟩
    · exact b2.extBut _ _ D.pz (a7 _ _ D.pz D.pr D.pj1 D.pj2 hp)
    · exact b2.extBut _ _ D.rz a2
    · exact a3.extBut b2.extBut D.j1z
    · exact a4.extBut b2.extBut D.j2z
    · rw [upd_ne (Nat.ne_of_lt (lt c hc))]
      exact (hf c hc).1
  done := by
    intro X hP hw hK hc i pins s σ H E I hf st hg
    subst hP hw hK
    obtain ⟨hz, hp, ⟨u, v, hr⟩, h1, h2⟩ := st
    obtain ⟨xs, ys, hxs, hys, he⟩ := hg
    obtain ⟨its, rv, pl, _⟩ := I.tuple hxs
    obtain ⟨its2, rv2, pl2, _⟩ := I.tuple hys
    have l1 := rv.length
    have l2 := rv2.length
    have hend : its.toArray[i]? = none ∨ its2.toArray[i]? = none := he.imp (fun e => by simp; omega) (fun e => by simp; omega)
    have hT : s.TypeIs (.ref z) "zip" := ⟨_, hz, rfl⟩
    unfold pyNext
    refine wpAny_bind (wpAny_attempt (wpAny_callSpecial?_slot (name := Str.ofString "__next__") hT F.slot_zip_next (wpAny_call_entry F.slot_zip_next hT F.entry_zip_next
      (zipT_end (I.ok.hd hc) D hz hp hr h1 h2 pl pl2 hend fun g e kk he => ?_) (F.args_zip_next_1 _))))
    obtain ⟨o, ho, hcl⟩ := he
    refine wpAny_bind (wpAny_isInstance (T := "StopIteration") (b := true) ⟨o, ho, hcl⟩ isSubtype_stop ?_)
    refine wpAny_pure ⟨rfl, I.turnedAll (t' := s.toks) (ch := [z, r, j1, j2]) (fun c o hc e => ?_) (fun c hc => hf c ?_)⟩
    · simp only [List.mem_cons, List.not_mem_nil, or_false, not_or] at hc
      exact kk c o hc.1 hc.2.1 hc.2.2.1 hc.2.2.2 e
    · simp only [List.mem_cons, List.not_mem_nil, or_false] at hc ⊢
      rcases hc with rfl | rfl | rfl | rfl <;> simp
  self := fun _ _ _ _ _ st h => wpAny_pyIter_zip st.1 h

/-! ### zip(t, u) -/
abbrev zH1 (h : Heap) (a : Addr) : Heap := h.push { cls := .type "tuple_iterator", data := .fields #[.ref a, .int 0 0] }
abbrev zH2 (h : Heap) (a b : Addr) : Heap := (zH1 h a).push { cls := .type "tuple_iterator", data := .fields #[.ref b, .int 0 0] }
abbrev zH3 (h : Heap) (a b : Addr) : Heap := (zH2 h a b).push { cls := .type "tuple", data := .seq #[.ref h.objs.size, .ref (zH1 h a).objs.size] }
abbrev zH4 (h : Heap) (a b : Addr) : Heap := (zH3 h a b).push { cls := .type "tuple", data := .seq #[.none, .none] }
abbrev zH5 (h : Heap) (a b : Addr) : Heap := (zH4 h a b).push { cls := .type "zip", data := .fields #[.none, .bool false, .bool false, .ref (zH2 h a b).objs.size, .ref (zH3 h a b).objs.size] }
theorem zipT_new (a b : Addr) (vs ws : Array Value) :
    Meets (Builtin.«zip.__new__» ⟨[.type "zip", .ref a, .ref b], []⟩) (fun _ R s => s.heap.IsTuple a vs ∧ s.heap.IsTuple b ws ∧ R (.ok (.ret (.ref (zH4 s.heap a b).objs.size))) { s with heap := zH5 s.heap a b }) :=
  .of_wp fun prog w A R s h => by
    obtain ⟨hp, g, d, tk, os⟩ := s; obtain ⟨la, lb, h⟩ := h
    have hsub := sub_zip
    have L1 : Heap.IsTuple (Shared.heap ⟨hp, g, d, tk, os⟩) a vs := la
    have L2 : Heap.IsTuple (Shared.heap ⟨hp.push { cls := .type "tuple_iterator", data := .fields #[.ref a, .int 0 0] }, g, d, tk, os⟩) b ws := Heap.IsTuple.push lb _
    wp_walk using wpAny_pyIter_tuple L1, wpAny_pyIter_tuple L2
    exact ⟨_, rfl, h⟩
theorem call_zipT {prog : Program} {w : World} {A : Around} {E : Value → Shared → Prop} {s : Shared} {a b : Addr} {vs ws : Array Value} {Q : Value → Shared → Prop} (la : s.heap.IsTuple a vs) (lb : s.heap.IsTuple b ws)
    (q : ∀ h', IsZip h' (s.heap.objs.size + 4) (s.heap.objs.size + 2) (s.heap.objs.size + 3) .none → IsPair h' (s.heap.objs.size + 2) (.ref s.heap.objs.size) (.ref (s.heap.objs.size + 1)) →
      IsPair h' (s.heap.objs.size + 3) .none .none → h'.IsTupleIter s.heap.objs.size a 0 → h'.IsTupleIter (s.heap.objs.size + 1) b 0 → (∀ c o, s.heap.get? c = some o → h'.get? c = some o) → Q (.ref (s.heap.objs.size + 4)) { s with heap := h' }) :
    wpAny (model prog w) A (call (.type "zip") [.ref a, .ref b]) Q E s := by
  refine callType_new F.called_zip (by decide) (F.typeCall_zip_2 _ _) (F.newCall_zip_2 _ _) (fun obj => F.args_object_init_3 obj _ _) F.entry_zip_new (zipT_new a b vs ws) ⟨la, lb, ?_⟩
  have z1 : (zH1 s.heap a).objs.size = s.heap.objs.size + 1 := Heap.size_push ..
  have z2 : (zH2 s.heap a b).objs.size = s.heap.objs.size + 2 := by rw [Heap.size_push, z1]
  have z3 : (zH3 s.heap a b).objs.size = s.heap.objs.size + 3 := by rw [Heap.size_push, z2]
  have z4 : (zH4 s.heap a b).objs.size = s.heap.objs.size + 4 := by rw [Heap.size_push, z3]
  have g5 : (zH5 s.heap a b).get? (zH4 s.heap a b).objs.size = some _ := Heap.get?_push_size _ rfl
  have g4 : (zH5 s.heap a b).get? (zH3 s.heap a b).objs.size = some _ := Heap.get?_push_of_some _ (Heap.get?_push_size _ rfl)
  have g3 : (zH5 s.heap a b).get? (zH2 s.heap a b).objs.size = some _ := Heap.get?_push_of_some _ (Heap.get?_push_of_some _ (Heap.get?_push_size _ rfl))
  have g2 : (zH5 s.heap a b).get? (zH1 s.heap a).objs.size = some _ := Heap.get?_push_of_some _ (Heap.get?_push_of_some _ (Heap.get?_push_of_some _ (Heap.get?_push_size _ rfl)))
  have g1 : (zH5 s.heap a b).get? s.heap.objs.size = some _ := Heap.get?_push_of_some _ (Heap.get?_push_of_some _ (Heap.get?_push_of_some _ (Heap.get?_push_of_some _ (Heap.get?_push_size _ rfl))))
  show _ ∧ _
  rw [z2, z3, z4] at g5
  rw [z1, z2] at g3
  rw [z3] at g4
  rw [z1] at g2
  rw [z4]
  exact ⟨⟨_, g5, rfl⟩, q _ g5 g3 g4 ⟨_, g1, rfl, rfl⟩ ⟨_, g2, rfl, rfl⟩ fun c o x => Heap.get?_push_of_some _ (Heap.get?_push_of_some _ (Heap.get?_push_of_some _ (Heap.get?_push_of_some _ (Heap.get?_push_of_some _ x))))⟩
theorem apart_new {n a b : Addr} (ha : a < n) (hb : b < n) : Apart (n + 4) (n + 2) (n + 3) n (n + 1) a b := by
  have ne : ∀ i j : Nat, i ≠ j → (Nat.add n i : Addr) ≠ Nat.add n j := fun i j h e => h (Nat.add_left_cancel e)
  have lo : ∀ (c : Addr) (i : Nat), c < n → c ≠ Nat.add n i := fun c i h => Nat.ne_of_lt (Nat.lt_of_lt_of_le h (Nat.le_add_right n i))
  exact ⟨ne 2 4 (by decide), ne 3 4 (by decide), ne 0 4 (by decide), ne 1 4 (by decide), ne 2 3 (by decide), ne 2 0 (by decide), ne 2 1 (by decide), ne 3 0 (by decide), ne 3 1 (by decide), ne 0 1 (by decide),
    lo a 4 ha, lo a 3 ha, lo a 0 ha, lo a 1 ha, lo b 4 hb, lo b 3 hb, lo b 0 hb, lo b 1 hb⟩
section
variable {X : Cx} {elts : List Expr} {kk : Nat} {tpos : Pos}
def iZip (K : PySem.W.Frag) (ta : TA) : TI := fun σ H R => ta σ H fun vs H1 => ∃ a b xs ys, vs = [.ref a, .ref b] ∧ SqT K H1 a xs ∧ SqT K H1 b ys ∧ R (Itz K a b) H1
theorem pi_zip {a b : Expr} {ta : TA} {p pos : Pos} (hg : Gl X "zip") (hm : X.mg "zip" = none) (ha : PA X [a, b] ta) (hs : starEach [a, b] X.env = [(false, eval a X.env), (false, eval b X.env)] := by rfl) (hs2 : starEach [b] X.env = [(false, eval b X.env)] := by rfl) :
    PI X (.Tuple elts kk tpos) (.Call (.Name "zip" p) [a, b] [] pos) (iZip X.K ta) := by
  refine .mk ?_
  intro pins s σ H R I h
  refine Call_ (ld_blt I hg hm boot_zip (PyProof.Rows.callWith_type1 (thn (ha pos pins s σ H _ I h) fun us s1 ⟨vs, H1, I1, r1, q1⟩ => ?_) (by rw [hs, hs2]) (by rw [hs2]; rfl)))
  obtain ⟨u1, u2, xs, ys, e, hx, hy, q⟩ := q1
  subst e
  cases r1 with
  | cons r rr =>
    cases rr with
    | cons r' rr =>
      cases rr
      cases r
      cases r'
      obtain ⟨its, rv, pl, _⟩ := I1.tuple hx
      obtain ⟨its2, rv2, pl2, _⟩ := I1.tuple hy
      obtain ⟨o1, e1, _⟩ := id pl
      obtain ⟨o2, e2, _⟩ := id pl2
      refine call_zipT pl pl2 fun h' hz hp hr j1 j2 k => ?_
      refine wpAny_pyIter_zip hz ?_
      refine ⟨s1.heap.objs.size + 4, [s1.heap.objs.size + 4, s1.heap.objs.size + 2, s1.heap.objs.size + 3, s1.heap.objs.size, s1.heap.objs.size + 1], _, _, H1, rfl, I1.kept (t' := s1.toks) k, turn_zip u1 u2 _ _ _ _ _ (apart_new (Heap.lt_size e1) (Heap.lt_size e2)), ⟨hz, hp, ⟨_, _, hr⟩, j1, j2⟩, fun c hc => ?_, q⟩
      have hc' : s1.heap.objs.size ≤ c := by
        simp only [List.mem_cons, List.not_mem_nil, or_false] at hc
        rcases hc with rfl | rfl | rfl | rfl | rfl <;> first | exact Nat.le_refl _ | exact Nat.le_add_right _ _
      exact I1.fpOk hc' (I1.hok.fresh hc')
end
section
variable {own : List Str} {cap : List (Nat × Str)} {σ : St} {H1 : Hp} {D : Addr} {g : TG} {tc : TT} {te : TE} {QD : Hp → Prop} {K : PySem.W.Frag} {a b : Addr} {xs ys : List V}
theorem comp_zip (hlen : xs.length = ys.length) (Pv : Nat → St → List V → Hp → Prop) (h0 : Pv 0 (compSt own cap σ) [] (upd H1 D (.lst [])))
    (hD : ∀ i σ zs H, i ≤ xs.length → Pv i σ zs H → H D = some (.lst zs) ∧ zs.length ≤ i ∧ SqT K H a xs ∧ SqT K H b ys)
    (hz : xs.length ≤ sizeLine)
    (hs : ∀ i x y p σ zs H, xs[i]? = some x → ys[i]? = some y → H p = none → Pv i σ zs H → g (.ref p) σ (upd H p (.tup [x, y])) fun σ3 H3 => tc σ3 H3 fun b H4 => if b = true then te σ3 H4 fun y H5 => H5 D = some (.lst zs) ∧ Pv (i + 1) σ3 (zs ++ [y]) (upd H5 D (.lst (zs ++ [y]))) else Pv (i + 1) σ3 zs H4)
    (hd : ∀ σ zs H, Pv xs.length σ zs H → QD H) :
    ∃ W : Nat → Nat → St → List V → Hp → Prop, (∃ m, W 0 m (compSt own cap σ) [] (upd H1 D (.lst []))) ∧ ∀ i m σ' zs H', W i m σ' zs H' → H' D = some (.lst zs) ∧
      (((Itz K a b).stop i H' ∧ QD H') ∨ ((Itz K a b).go i H' ∧ zs.length < sizeLine ∧ ∃ N : St → List V → Hp → Prop, (∀ σ ys H, N σ ys H → ∃ m', m' < m ∧ W (i + 1) m' σ ys H) ∧ ∀ x H2, (Itz K a b).yld i H' x H2 → g x σ' H2 fun σ3 H3 => tc σ3 H3 fun b H4 => if b = true then te σ3 H4 fun y H5 => H5 D = some (.lst zs) ∧ N σ3 (zs ++ [y]) (upd H5 D (.lst (zs ++ [y])))
        else N σ3 zs H4)) := by
  refine ⟨fun i m σ ys H => m = xs.length - i ∧ i ≤ xs.length ∧ Pv i σ ys H, ⟨xs.length, by simp, Nat.zero_le _, h0⟩, ?_⟩
  rintro i m σ' zs H' ⟨rfl, hi, p⟩
  obtain ⟨q1, q2, q3, q4⟩ := hD i σ' zs H' hi p
  refine ⟨q1, ?_⟩
  by_cases hlt : i < xs.length
  · have hlt2 : i < ys.length := by omega
    refine .inr ⟨⟨xs, ys, xs[i], ys[i], q3, q4, List.getElem?_eq_getElem hlt, List.getElem?_eq_getElem hlt2⟩, by omega, Pv (i + 1), fun σ' ys' H' p' => ⟨xs.length - (i + 1), by omega, rfl, hlt, p'⟩, fun v H2 yy => ?_⟩
    obtain ⟨c, x, y, hn, rfl, rfl, hx, hy⟩ := yy
    exact hs i x y c σ' zs H' (hx xs q3) (hy ys q4) hn p
  · have e : i = xs.length := by omega
    subst e
    exact .inl ⟨⟨xs, ys, q3, q4, .inl (Nat.le_refl _)⟩, hd σ' zs H' p⟩
end
end L2

set_option Elab.async false
set_option linter.all false
set_option maxRecDepth 100000
/-! isinstance OF A CAUGHT EXCEPTION: only its class is known -/
namespace L2
open PySem PySem.Spec PyProof.Rows PySem.W PySem.Calls PySem.Builtin PySem.Builtin.ObjectAttr PySem.Builtin.Getset_descriptor

/-- what is known of the class of an exception -/
structure ExC (K : Frag) (D : Addr) : Prop where
  ga : findIn K (.ref D) "__getattribute__" = some (some (.builtin "BaseException.__getattribute__"))
  hk : findIn K (.ref D) "__getattr__" = some none
  cl : findIn K (.ref D) "__class__" = some (some (.builtin "object.__class__"))
  gt : specialIn K (.builtin "object.__class__") "__get__" = some (some (.builtin "getset_descriptor.__get__"))
  tk : takesIn K (.builtin "object.__class__") = some true
  ob : mroIn K D (.type "object") = some true
  bx : mroIn K D (.type "BaseException") = some true
  cd : (clsIn K D).isSome = true
/-- an object of the class stands at x -/
def ExAt (x D : Addr) : Heap → Prop := fun h => ∃ o, h.get? x = some o ∧ o.cls = .ref D
section
variable {K : Frag} {x D : Addr}
theorem ExAt.type {M : Model} {h : Heap} (I : ExAt x D h) : Looks M h (typeOf (.ref x)) (.ref D) := by
  obtain ⟨o, e, c⟩ := I
  exact c ▸ (Looks.ld e).andThen .now
theorem exc_find {M : Model} {h : Heap} (X : K.In h) (F : ExC K D) : Looks M h (find (.ref x) (.ref D) "__class__") (.bind (.builtin "getset_descriptor.__get__") (.builtin "object.__class__")) := by
  have n1 := looks_findIn (M := M) X F.cl
  have n2 : Looks M h (getOf (some (.builtin "object.__class__"))) (some (.builtin "getset_descriptor.__get__")) := looks_specialIn X F.gt
  have n3 := looks_takesIn (M := M) X F.tk
  have n4 : Looks M h (dataDescriptor? (some (.builtin "object.__class__")) (some (.builtin "getset_descriptor.__get__"))) (some (.builtin "getset_descriptor.__get__", .builtin "object.__class__")) := n3.andThen .now
  exact n1.andThen (n2.andThen (n4.andThen (Looks.tag .now)))
variable {prog : Program} {w : World} {A : Around} {E : Value → Shared → Prop} {s : Shared}
theorem exc_class_get {tp : Value} {R : Result → Shared → Prop} (X : K.In s.heap) (F : ExC K D) (I : ExAt x D s.heap) (h : R (.ok (.ret (.ref D))) s) :
    codeAny (model prog w) A (.call (.builtin "getset_descriptor.__get__") ⟨[.builtin "object.__class__", .ref x, tp], []⟩) R s := by
  obtain ⟨hh, gg, dr, tt, os⟩ := s
  have n0 := I.type (M := model prog w)
  have n1 := looks_mroIn (M := model prog w) X F.ob
  refine codeAny_call_builtin KF.slot_gs.plain KF.entry_gs (KF.slot_gs.check _ _ _ _ _ _ _ _ KF.type_class (KF.args_gs _ _ _) ?_)
  unfold Builtin.«getset_descriptor.__get__» descrGet
  rw [dga_obj]
  refine wpAny_bind (wpAny_pure ?_)
  unfold descrGetter descrCheckInstance descrNameAndClass isInstance
  simp only [KF.owner_class]
  repeat lk
  refine ⟨Code.quiet_builtin _ (by decide +kernel), codeAny_builtin KF.entry_class ?_⟩
  unfold Builtin.«object.__class__» shownTypeOf
  repeat lk
  exact h
theorem exc_entry {tk : Tok} {Q : Fin → Shared → Prop} (X : K.In s.heap) (F : ExC K D) (I : ExAt x D s.heap) (h : Q (.done (.ret (.ref D))) s) :
    wpAny (model prog w) A (Builtin.«object.__getattribute__» ⟨[.ref x, .str "__class__" tk], []⟩) Q E s := by
  have n0 := I.type (M := model prog w)
  have n1 := exc_find (M := model prog w) (x := x) X F
  refine wpAny_bind (wpAny_pure ?_)
  refine wpAny_bind (wpAny_pure ?_)
  refine wpAny_bind (n0.at ?_)
  refine wpAny_bind (n1.at ?_)
  show wpAny _ _ (holding [.builtin "object.__class__"] (call (.builtin "getset_descriptor.__get__") [.builtin "object.__class__", .ref x, .ref D]) >>= ret) _ _ _
  exact wpAny_bind (wpAny_holding (wpAny_call (exc_class_get X F I (wpAny_pure h))))
theorem exc_check {nameV : Value} {Q : Unit → Shared → Prop} (X : K.In s.heap) (F : ExC K D) (I : ExAt x D s.heap) (h : Q () s) : wpAny (model prog w) A (checkBuiltinCall "BaseException.__getattribute__" ⟨[.ref x, nameV], []⟩) Q E s := by
  have b1 : builtinKind "BaseException.__getattribute__" = some .slot := by decide +kernel
  have b2 : splitId "BaseException.__getattribute__" = some ("BaseException", "__getattribute__") := by decide +kernel
  have n0 := I.type (M := model prog w)
  have n1 := looks_mroIn (M := model prog w) X F.bx
  have b3 := PySem.F.args_bexc_ga (.ref x) nameV
  obtain ⟨hh, gg, dr, tt, os⟩ := s
  simp only [checkBuiltinCall, b1, b2]
  refine wpAny_bind ?_
  unfold isInstance
  refine wpAny_bind (n0.at ?_)
  refine n1.at ?_
  rw [if_neg (by decide)]
  cases hsig : Manifest.signature? "BaseException.__getattribute__" with
  | none => exact wpAny_pure h
  | some sig =>
    simp only [argsOk, hsig] at b3
    have b4 : Bind.checkArgs "BaseException.__getattribute__" sig ⟨[.ref x, nameV], []⟩ = pure () := b3
    show wpAny _ _ (Bind.checkArgs "BaseException.__getattribute__" sig ⟨[.ref x, nameV], []⟩) _ _ _
    rw [b4]
    exact wpAny_pure h
theorem exc_call {tk : Tok} {R : Result → Shared → Prop} (X : K.In s.heap) (F : ExC K D) (I : ExAt x D s.heap) (h : R (.ok (.ret (.ref D))) s) :
    codeAny (model prog w) A (.call (.builtin "BaseException.__getattribute__") ⟨[.ref x, .str "__class__" tk], []⟩) R s :=
  codeAny_call_builtin (by decide +kernel) PySem.F.entry_bexc_ga (exc_check X F I (exc_entry X F I h))
theorem exc_ca {Q : Option Value → Shared → Prop} (X : K.In s.heap) (F : ExC K D) (I : ExAt x D s.heap) (h : Q (some (.ref D)) { s with toks := s.toks + 1 }) : wpAny (model prog w) A (getAttr? (.ref x) "__class__") Q E s := by
  obtain ⟨hh, gg, dr, tt, os⟩ := s
  have n0 := I.type (M := model prog w)
  have n1 := looks_findIn (M := model prog w) X F.ga
  have n2 := looks_findIn (M := model prog w) X F.hk
  unfold getAttr? getAttrBy? getAttrBy
  refine wpAny_bind (wpAny_mkText (wpAny_bind (wpAny_attempt (wpAny_holding (wpAny_bind (n0.at (wpAny_bind (n1.at ?_))))))))
  show wpAny _ _ (getAttrByItsOwn _ _ _ _ _ _) _ _ _
  unfold getAttrByItsOwn hookBefore
  refine wpAny_bind ?_
  refine n2.at ?_
  refine wpAny_bind (wpAny_attempt (wpAny_holding ?_))
  have b1 : bindSpecial (.builtin "BaseException.__getattribute__") (.ref x) = pure (.builtin "BaseException.__getattribute__", [.ref x]) := by kernel_rfl
  show wpAny _ _ (bindSpecial (.builtin "BaseException.__getattribute__") (.ref x) >>= _) _ _ _
  rw [b1]
  refine wpAny_bind (wpAny_pure ?_)
  refine wpAny_call (exc_call X F I ?_)
  exact wpAny_of_eq (handedOut_of rfl) (wpAny_pure h)
theorem kitx_exc (F : ExC K D) : KitX K (.ref x) (.ref D) (ExAt x D) where
  ty := fun _ _ _ I => I.type
  it := fun _ _ X _ => by
    obtain ⟨cd, hc⟩ := Option.isSome_iff_exists.mp F.cd
    unfold clsIn at hc
    split at hc
    · rename_i c' d' cd' sl' ho
      intro A' Q' E' s' k q
      unfold isType loadHead
      exact wpAny_bind (wpAny_loadPart (k _ _ (X _ _ ho)) (wpAny_pure q))
    · cases hc
  ne := fun h tp dd its n sl X htp => by
    obtain ⟨cd, hc⟩ := Option.isSome_iff_exists.mp F.cd
    refine Bool.eq_false_iff.mpr fun q => ?_
    have e : D = tp := Value.ref.inj (beq_iff_eq.mp q)
    subst e
    unfold clsIn at hc
    split at hc
    · rename_i c' d' cd' sl' ho
      have z := (X _ _ ho).symm.trans htp
      cases z
    · cases hc
  ca := fun X I k => exc_ca X F I k
end
end L2

set_option Elab.async false
set_option linter.all false
set_option maxRecDepth 100000
/-! A SET OF TEXTS by a comprehension, and its len -/
namespace L2
open PySem PySem.Spec PyProof.Rows
theorem compTurn_set (elt target iter : Expr) (ifs : List Expr) (scope : Scope) (pos : Pos) (it acc : Value) (env : Env) :
    compTurn (.SetComp elt [⟨target, iter, ifs, 0⟩] scope pos) 0 it acc env = (do
      standAt iter.pos
      match ← pyNext it with
      | none => pure (.done .next)
      | some v =>
        letOwnedTupleGo target it v
        assign target env v
        let mut ok := true
        for c in ifs do
          if ok then ok ← isTrue c env (eval c env)
        if ok then
          (do let v ← eval elt env; standAt elt.pos; let _ ← call (.builtin "set.add") [acc, v])
        again (.compLoop (.SetComp elt [⟨target, iter, ifs, 0⟩] scope pos) 0 it acc env)) := by rfl
theorem codeAny_compStart_set {prog : Program} {w : World} {A : Around} {R : Result → Shared → Prop} {s : Shared} {elt target iter ifs rest scope pos it acc env}
    (h0 : codeAny (model prog w) A (.compLoop (.SetComp elt (⟨target, iter, ifs, 0⟩ :: rest) scope pos) 0 it acc env) R s)
    (h : wpAny (model prog w) A (pyIter it) (fun it' s' => codeAny (model prog w) A (.compLoop (.SetComp elt (⟨target, iter, ifs, 0⟩ :: rest) scope pos) 0 it' acc env) R s')
      (notedBy (model prog w) A env fun x s' => R (.error x) s') s) :
    codeAny (model prog w) A (.compStart (.SetComp elt (⟨target, iter, ifs, 0⟩ :: rest) scope pos) 0 it acc env) R s := by
  refine codeAny_of_tree ?_
  show wpAny _ _ ((compStart (.SetComp elt (⟨target, iter, ifs, 0⟩ :: rest) scope pos) 0 it acc env).onRaise (fun x => do noteFrame x env; standAt theWindowsPlace)) _ _ s
  refine wpAny_notedAt ?_
  unfold compStart
  show wpAny _ _ (ask >>= _) _ _ s
  refine wpAny_bind (wpAny_askSetting (wpAny_ite ?_))
  split
  · first
      | exact wpAny_bind (wpAny_pure (wpAny_pure (And.intro rfl h0)))
      | exact wpAny_pure (And.intro rfl h0)
  · first
      | exact wpAny_bind (wpAny_rule (wpAny_bind (wpAny_standAt (wpAny_bind (wpAny_mono h (fun it' s' h' => wpAny_pure (And.intro rfl h')) fun _ _ x => x)))))
      | (refine wpAny_bind (wpAny_rule ?_); show wpAny _ _ (standAt iter.pos >>= _) _ _ s; exact wpAny_bind (wpAny_standAt (wpAny_bind (wpAny_mono h (fun it' s' h' => wpAny_pure (And.intro rfl h')) fun _ _ x => x))))
/-- the loop of a set comprehension without tests -/
theorem compLoop_set {prog : Program} {w : World} {A : Around} {R : Result → Shared → Prop} {s : Shared} {elt target iter : Expr} {scope : Scope} {pos : Pos} {it acc : Value} {env : Env} (I : Nat → Shared → Prop)
    (turn : ∀ n s, I n s → wpAny (model prog w) A (pyNext it) (fun r s₁ => match r with
      | none => R (.ok .next) s₁
      | some v => wpAny (model prog w) A (letOwnedTupleGo target it v) (fun _ s₁' => wpAny (model prog w) A (assign target env v) (fun _ s₂ =>
            wpAny (model prog w) A (eval elt env) (fun x s₄ =>
              wpAny (model prog w) A (call (.builtin "set.add") [acc, x]) (fun _ s₅ => ∃ m, m < n ∧ I m s₅) (notedBy (model prog w) A env fun e s' => R (.error e) s') s₄) (notedBy (model prog w) A env fun e s' => R (.error e) s') s₂) (notedBy (model prog w) A env fun e s' => R (.error e) s') s₁') (notedBy (model prog w) A env fun e s' => R (.error e) s') s₁) (notedBy (model prog w) A env fun e s' => R (.error e) s') s)
    (n : Nat) (h : I n s) :
    codeAny (model prog w) A (.compLoop (.SetComp elt [⟨target, iter, [], 0⟩] scope pos) 0 it acc env) R s := by
  refine codeAny_loop rfl I (fun n s hI => ?_) n h
  show wpAny _ A ((compTurn (.SetComp elt [⟨target, iter, [], 0⟩] scope pos) 0 it acc env).onRaise (fun x => do noteFrame x env; theTreesLotGoes x)) _ _ s
  refine wpAny_noted ?_
  rw [compTurn_set]
  refine wpAny_bind (wpAny_standAt (wpAny_bind (wpAny_mono (turn n s hI) (fun r s₁ h₁ => ?_) fun _ _ h' => h')))
  cases r with
  | none => exact wpAny_pure h₁
  | some v =>
    refine wpAny_bind (wpAny_mono h₁ (fun _ s₁' h₁' => ?_) fun _ _ h' => h')
    refine wpAny_bind (wpAny_mono h₁' (fun _ s₂ h₂ => wpAny_bind (wpAny_tests_nil ?_)) fun _ _ h' => h')
    refine wpAny_bind (wpAny_bind (wpAny_mono h₂ (fun x s₄ h₄ => wpAny_bind (wpAny_standAt (wpAny_bind (wpAny_mono h₄ (fun _ s₅ h₅ => wpAny_pure (wpAny_pure ⟨rfl, h₅⟩)) fun _ _ h' => h')))) fun _ _ h' => h'))

/-- a set of texts, tracked -/
def setAt (P : Program) (w : World) (a : Addr) (S : Str → Bool) (n : Nat) : Heap → Prop := fun h => h.SetOf (strKind P w) a S n
theorem setAt_ok {P : Program} {w : World} {H : Hp} {h : Heap} {a : Addr} {S : Str → Bool} {n : Nat} (q : h.SetOf (strKind P w) a S n) : ObjOk P w H h a (.ext (setAt P w a S n)) := by
  refine ⟨q, ?_, fun h1 h2 q1 k => ?_⟩
  · obtain ⟨o, _, _, _, e, _⟩ := q
    exact ⟨o, e⟩
  · obtain ⟨o, es, ep, t, e, r⟩ := q1
    exact ⟨o, es, ep, t, k o e, r⟩
section
variable {X : Cx} {pins : List (Addr × Obj)} {σ : St} {H : Hp} {s : Shared} {scope : Scope} {cl : List (Str × Addr)} {own : List Str} {cap : List (Nat × Str)} {fp : List Addr} {E : Value → Shared → Prop}
/-- the block's begin: any new object at D, the block's names at C -/
theorem comp_invX {o : HO} (c : CompOk X scope cl own cap) (I : Inv X pins σ H s) (hf : ∀ b ∈ fp, FpOk X pins H b) (hlt : ∀ b ∈ fp, b < s.heap.objs.size) {h₁ : Heap} {tk : Nat} {m : Str → Option Value}
    (hk : ∀ b o, s.heap.get? b = some o → h₁.get? b = some o) (hnew : ObjOk X.prog X.w (upd H s.heap.objs.size o) h₁ s.heap.objs.size o) (hn : h₁.Ns (s.heap.objs.size + 1) m) :
    Inv (compCx X (own ++ cap.map (·.2)) scope cl (s.heap.objs.size + 1) s H fp E) [] (compSt own cap σ) (upd H s.heap.objs.size o) { s with heap := h₁, toks := tk } := by
  have hfr : H s.heap.objs.size = none := I.fresh
  have hfr1 : H (s.heap.objs.size + 1) = none := I.hok.fresh (Nat.le_succ _)
  refine ⟨comp_ok c I hf hlt (Nat.le_succ _), rfl, I.bare, Un.laid hk (Nat.le_refl _) hfr, ⟨m, hn, fun i x v e1 e2 _ => ?_⟩, fun x a e => ?_, ?_, fun x a e => ?_, fun p hp => absurd (show p ∈ ([] : List (Addr × Obj)) from hp) (by simp), I.hok.laid hk (Nat.le_refl _) hnew, ?_⟩
  · obtain ⟨p, hp, ex, es⟩ := compSt_get e1 e2
    obtain ⟨q1, q2, q3, q4, q5⟩ := c.caps p hp
    rw [ex] at q1 q2 q3 q4 q5
    obtain ⟨m', hn', hl⟩ := I.loc
    obtain ⟨u, r, l⟩ := hl p.1 x v q1 es q2
    refine ⟨u, r, ?_⟩
    rcases l with l | ⟨k, a, e, z⟩
    · exact absurd l.1 q3
    · obtain ⟨a', e'⟩ := c.hasX x q5
      have ea := c.sub x a' e'
      rw [e] at ea
      cases ea
      exact .inr ⟨q5, a, e', z.keeps hk⟩
  · obtain ⟨v, z⟩ := I.cell x a (c.sub x a e)
    exact ⟨v, z.keeps hk⟩
  · show upd H s.heap.objs.size o (s.heap.objs.size + 1) = none
    rw [upd_ne (Nat.succ_ne_self _)]
    exact hfr1
  · obtain ⟨v, z⟩ := I.cell x a (c.sub x a e)
    show upd H s.heap.objs.size o a = none
    rw [upd_ne (Nat.ne_of_lt z.lt)]
    exact I.freeC x a (c.sub x a e)
  · show (compSt own cap σ).length = (own ++ cap.map (·.2)).length
    simp [compSt]
end
/-- how many members when k comes -/
def more (S : Str → Bool) (n : Nat) (k : Str) : Nat := if S k then n else n + 1
/-- W: the invariant by the turn, a measure, the block's names, the set so far, the heap; s: the set -/
def tSetC (P : Program) (w : World) (wi : TI) (g : TG) (te : TE) (own : List Str) (cap : List (Nat × Str)) : TE := fun σ H Q => wi σ H fun J H1 => ∀ D, H1 D = none →
  ∃ W : Nat → Nat → St → (Str → Bool) → Nat → Hp → Prop, (∃ m, W 0 m (compSt own cap σ) (fun _ => false) 0 (upd H1 D (.ext (setAt P w D (fun _ => false) 0)))) ∧ ∀ i m σ' S n H', W i m σ' S n H' → H' D = some (.ext (setAt P w D S n)) ∧
    ((J.stop i H' ∧ Q (.ref D) H') ∨ (J.go i H' ∧ n < 1000 ∧ ∃ N : St → (Str → Bool) → Nat → Hp → Prop, (∀ σ S n H, N σ S n H → ∃ m', m' < m ∧ W (i + 1) m' σ S n H) ∧ ∀ x H2, J.yld i H' x H2 → g x σ' H2 fun σ3 H3 => te σ3 H3 fun y H5 => ∃ k, y = .str k ∧ H5 D = some (.ext (setAt P w D S n)) ∧
      N σ3 (fun k' => S k' || decide (k' = k)) (more S n k) (upd H5 D (.ext (setAt P w D (fun k' => S k' || decide (k' = k)) (more S n k))))))
section
variable {X : Cx} {scope : Scope} {cl : List (Str × Addr)} {own : List Str} {cap : List (Nat × Str)} {tg iter elt : Expr} {wi : TI} {g : TG} {te : TE} {pos : Pos}
theorem pe_setc (c : CompOk X scope cl own cap) (hc : X.calm = true) (hi : PI X tg iter wi)
    (hg : ∀ C s H fp, PG (compCx X (own ++ cap.map (·.2)) scope cl C s H fp fun _ _ => False) tg g)
    (he : ∀ C s H fp, PE (compCx X (own ++ cap.map (·.2)) scope cl C s H fp fun _ _ => False) elt te) (hs : ∀ x, foldedSetIterable iter X.env x = pure x := by intro _; rfl) :
    PE X (.SetComp elt [⟨tg, iter, [], 0⟩] scope pos) (tSetC X.prog X.w wi g te own cap) := by
  refine .mk ?_
  intro pins s σ H Q I h
  show wpAny _ X.A (comprehension (.SetComp elt [⟨tg, iter, [], 0⟩] scope pos) scope X.env _ (newSet (.type "set")) false (eval iter X.env)) _ _ s
  refine wpAny_comprehension_free (use := none) rfl hs c.clos c.kind c.names (thn (hi pins s σ H _ I h) fun v s1 h1 => thn h1 fun itv s2 h2 => ?_)
  obtain ⟨it, fp, tn, J, H2, e, I2, T, st2, f2, hw⟩ := h2
  subst e
  refine wpAny_newSet_of (knd := strKind X.prog X.w) fun led hS => wpAny_newFunctionEnv c.cell (by intro y hy; simp at hy) (fun h₁ hns₁ hsb₁ => ?_) c.kind
  dsimp only at hns₁ hsb₁ ⊢
  generalize hO : ({ cls := .type "set", dict := none, data := .set #[] 0 (.fresh 0 0 led) } : Obj) = O at hS hns₁ hsb₁ ⊢
  have hsz : (s2.heap.push O).objs.size = s2.heap.objs.size + 1 := Heap.size_push _ _
  have kk : ∀ b o, s2.heap.get? b = some o → h₁.get? b = some o := fun b o e => hsb₁.extBut b o (by rw [hsz]; exact Nat.ne_of_lt (Nat.lt_succ_of_lt (Heap.lt_size e))) (Heap.get?_push_of_some _ (Heap.get?_push_of_some _ e))
  have hS1 : h₁.SetOf (strKind X.prog X.w) s2.heap.objs.size (fun _ => false) 0 := by
    obtain ⟨o, es, ep, t, e, r⟩ := hS
    exact ⟨o, es, ep, t, hsb₁.extBut _ _ (by rw [hsz]; exact Nat.ne_of_lt (Nat.lt_succ_self _)) (Heap.get?_push_of_some _ e), r⟩
  rw [hsz] at hns₁ ⊢
  have hlt : ∀ b ∈ fp, b < s2.heap.objs.size := fun b hb => by
    obtain ⟨o, e, _⟩ := T.obj _ _ st2 b hb
    exact Heap.lt_size e
  obtain ⟨W, ⟨m0, w0⟩, turn⟩ := hw s2.heap.objs.size I2.fresh
  have J1 := comp_invX (E := fun _ _ => False) c I2 f2 hlt (tk := s2.toks + ([] : List (Str × Value)).length) kk (setAt_ok hS1) hns₁
  generalize hX' : compCx X (own ++ cap.map (·.2)) scope cl (s2.heap.objs.size + 1) s2 H2 fp (fun _ _ => False) = X' at J1
  have hg' : PG X' tg g := hX' ▸ hg _ _ _ _
  have he' : PE X' elt te := hX' ▸ he _ _ _ _
  have pX : X'.prog = X.prog := by rw [← hX']; rfl
  have wX : X'.w = X.w := by rw [← hX']; rfl
  have kX : X'.K = X.K := by rw [← hX']; rfl
  have aX : X'.A = X.A := by rw [← hX']; rfl
  have cX : X'.calm = true := by rw [← hX']; exact hc
  have nX : X'.env = compEnvC scope cl (s2.heap.objs.size + 1) X.env := by rw [← hX']; rfl
  have xX : X'.xe = fun _ _ => False := by rw [← hX']; rfl
  have fX : ∀ b ∈ fp, ∀ {H' : Hp}, H' b = none → FpOk X' [] H' b := fun b hb {H'} hn => by
    have o1 := (comp_ok (E := fun _ _ => False) c I2 f2 hlt (C := s2.heap.objs.size + 1) (Nat.le_succ _)).exf b hb
    have o2 := (comp_ok (E := fun _ _ => False) c I2 f2 hlt (C := s2.heap.objs.size + 1) (Nat.le_succ _)).exfs b hb
    rw [← hX']
    exact ⟨hn, o1.1, o2, .inl hb, o1.2, fun p hp => absurd (show p ∈ ([] : List (Addr × Obj)) from hp) (by simp)⟩
  have hRR : ∀ D C s' H' m, Inv X pins σ H' s' → FpOk X pins H' C → s'.heap.Ns C m → Q (.ref D) H' → compPost (model X.prog X.w) X.A X.xe none (EP X pins σ Q) (.ref D) C (.ok .next) s' := by
    intro D C s' H' m I' hC hm q
    refine ⟨m, hm, fun h' hs' => ⟨.ref D, H', ?_, rfl, q⟩⟩
    exact I'.turned (t' := s'.toks) (fun b o hb e => (hs'.2 b hb).trans e) hC.1 hC.2.1 hC.2.2.2.1 hC.2.2.2.2.1 hC.2.2.2.2.2
  have fin : ∀ {σ' : St} {H' : Hp} {s' : Shared}, Inv X' [] σ' H' s' → Q (.ref s2.heap.objs.size) H' → compPost (model X.prog X.w) X.A X.xe none (EP X pins σ Q) (.ref s2.heap.objs.size) (s2.heap.objs.size + 1) (.ok .next) s' := fun {σ' H' s'} J' q => by
    rw [← hX'] at J'
    obtain ⟨A1, A2⟩ := comp_after I2 f2 (Nat.le_succ _) J'
    obtain ⟨m, hm, _⟩ := J'.loc
    exact hRR _ _ s' H' m A1 A2 hm q
  have loop : codeAny (model X.prog X.w) X.A (.compLoop (.SetComp elt [⟨tg, iter, [], 0⟩] scope pos) 0 (.ref it) (.ref s2.heap.objs.size) (compEnvC scope cl (s2.heap.objs.size + 1) X.env)) (compPost (model X.prog X.w) X.A X.xe none (EP X pins σ Q) (.ref s2.heap.objs.size) (s2.heap.objs.size + 1))
      { s2 with heap := h₁, toks := s2.toks + ([] : List (Str × Value)).length } := by
    refine compLoop_set (fun n s' => ∃ i σ' S z H', Inv X' [] σ' H' s' ∧ tn i s'.heap ∧ (∀ b ∈ fp, H' b = none) ∧ W i n σ' S z H') ?_ m0
      ⟨0, _, _, 0, _, J1, T.keep _ _ _ st2 fun b _ o e => kk b o e, fun b hb => by rw [upd_ne (Nat.ne_of_lt (hlt b hb))]; exact (f2 b hb).1, w0⟩
    rintro n s3 ⟨i, σ3, S, z, H3, I3, st3, fr3, w3⟩
    obtain ⟨hDl, w4⟩ := turn i n σ3 S z H3 w3
    rw [← nX, ← aX, ← pX, ← wX]
    have nox : ∀ {α : Type} {t : Sem α} {Q1 : α → Shared → Prop} {E1 : Value → Shared → Prop} {s : Shared}, wpAny (model X'.prog X'.w) X'.A t Q1 X'.xe s → wpAny (model X'.prog X'.w) X'.A t Q1 E1 s := fun {α t Q1 E1 s} h => by
      rw [xX] at h
      exact wpAny_mono h (fun _ _ q => q) fun _ _ f => f.elim
    rcases w4 with ⟨stop, qn⟩ | ⟨go, hz, N, hN, step⟩
    · have d := T.done X' pX wX kX cX i [] s3 σ3 H3 X'.xe I3 (fun b hb => fX b hb (fr3 b hb)) st3 stop
      rw [← pX, ← wX] at d
      refine nox (thn d fun r s4 ⟨hr, I4⟩ => ?_)
      subst hr
      have f4 := fin I4 qn
      rw [← pX, ← wX, ← aX] at f4
      exact f4
    · have d := T.item X' pX wX kX cX i [] s3 σ3 H3 X'.xe I3 (fun b hb => fX b hb (fr3 b hb)) st3 go
      rw [← pX, ← wX] at d
      refine nox (thn d fun r s4 ⟨u, hr, h4⟩ => ?_)
      subst hr
      refine nox (thn h4 fun _ s5 ⟨x, H5, I5, r5, y5, st5, fr5⟩ => ?_)
      have I5' := I5.pinned (fun b hb => fX b hb (fr5 b hb)) (T.obj _ _ st5)
      have again : ∀ {σ7 : St} {H7 : Hp} {s7 : Shared} {S' : Str → Bool} {z' : Nat}, Inv X' ([] ++ pinsAt fp s5.heap) σ7 H7 s7 → N σ7 S' z' H7 →
          ∃ m, m < n ∧ ∃ i σ' S z H', Inv X' [] σ' H' s7 ∧ tn i s7.heap ∧ (∀ b ∈ fp, H' b = none) ∧ W i m σ' S z H' := fun {σ7 H7 s7 S' z'} I7 n7 => by
        obtain ⟨m', hm, w7⟩ := hN _ _ _ _ n7
        refine ⟨m', hm, i + 1, σ7, S', z', H7, I7.unpinned, T.keep _ _ _ st5 fun b hb o e => (I7.pin (b, o) (List.mem_append_right _ (List.mem_append_right _ (mem_pinsAt hb e)))).1, fun b hb => ?_, w7⟩
        obtain ⟨o, e, d⟩ := T.obj _ _ st5 b hb
        exact (I7.pin (b, o) (List.mem_append_right _ (List.mem_append_right _ (mem_pinsAt hb e)))).2.1
      refine nox (thn (hg' _ s5 σ3 H5 x u _ I5' r5 (step x H5 y5)) fun _ s6 ⟨σ6, H6, I6, q6⟩ => ?_)
      refine nox (thn (he' _ s6 σ6 H6 _ I6 q6) fun u8 s8 ⟨y8, H8, I8, r8, k8, e8, d8, q8⟩ => ?_)
      subst e8
      obtain ⟨t8, rfl⟩ := r8
      have ok8 := (I8.hok _ _ d8).1
      have ok9 : s8.heap.SetOf (strKind X'.prog X'.w) s2.heap.objs.size S z := by rw [pX, wX]; exact ok8
      refine nox (call_set_add (k := k8) (knd := strKind X'.prog X'.w) (by show Value.isStrOf k8 (.str k8 t8) = true; simp [Value.isStrOf]) rfl ok9 (Nat.lt_of_le_of_lt (Nat.succ_le_of_lt hz) (by decide)) fun h' hsb hS' => ?_)
      refine again (I8.write (x := s2.heap.objs.size) (e := s2.heap.objs.size) (o := .ext (setAt X.prog X.w s2.heap.objs.size (fun k' => S k' || decide (k' = k8)) (more S z k8))) (by rw [d8]; exact trivial) (.inl rfl) (fun b' u hb hu => (hsb.2 b' hb).trans hu) ?_ ?_) q8
      · obtain ⟨o, _, _, _, e, _⟩ := hS'
        exact ⟨o, e⟩
      · rw [← pX, ← wX]
        exact setAt_ok hS'
  exact codeAny_compStart_set loop (T.self X.A 0 _ _ _ (T.keep _ _ _ st2 fun b _ o e => kk b o e) loop)
/-- len of such a set -/
theorem call_lenS : CallR X (.builtin "len") (fun xs H Q => ∃ (p : Addr) (S : Str → Bool) (n : Nat), xs = [.ref p] ∧ H p = some (.ext (setAt X.prog X.w p S n)) ∧ Q (.int n) H) := by
  intro pins s σ H vs us Q I rv h
  obtain ⟨p, S, n, rfl, hp, q⟩ := h
  obtain ⟨u, rfl, ru⟩ := rv.one
  cases ru
  obtain ⟨o, es, ep, t, e, ex, d, hel, hm, hb, hf, hn⟩ := (I.hok p _ hp).1
  have hb' : es.size < 4096 := hb
  exact call_len_set e ex d hf (by omega) ⟨.int n, H, I.tok _, ⟨s.toks + 1, by rw [hn]⟩, q⟩
end
section
variable {P : Program} {w : World} {K : PySem.W.Frag} {a : Addr} {xs : List V} {g : TG} {te : TE} {own : List Str} {cap : List (Nat × Str)} {σ : St} {H1 : Hp} {QD : Hp → Prop} {D : Addr}
theorem setc_tup (Pv : Nat → St → (Str → Bool) → Nat → Hp → Prop) (h0 : Pv 0 (compSt own cap σ) (fun _ => false) 0 (upd H1 D (.ext (setAt P w D (fun _ => false) 0))))
    (hD : ∀ i σ S n H, i ≤ xs.length → Pv i σ S n H → H D = some (.ext (setAt P w D S n)) ∧ n ≤ i ∧ SqT K H a xs)
    (hz : xs.length ≤ 1000)
    (hs : ∀ i x σ S n H, xs[i]? = some x → Pv i σ S n H → g x σ H fun σ3 H3 => te σ3 H3 fun y H5 => ∃ k, y = .str k ∧ H5 D = some (.ext (setAt P w D S n)) ∧
      Pv (i + 1) σ3 (fun k' => S k' || decide (k' = k)) (more S n k) (upd H5 D (.ext (setAt P w D (fun k' => S k' || decide (k' = k)) (more S n k)))))
    (hd : ∀ σ S n H, Pv xs.length σ S n H → QD H) :
    ∃ W : Nat → Nat → St → (Str → Bool) → Nat → Hp → Prop, (∃ m, W 0 m (compSt own cap σ) (fun _ => false) 0 (upd H1 D (.ext (setAt P w D (fun _ => false) 0)))) ∧ ∀ i m σ' S n H', W i m σ' S n H' → H' D = some (.ext (setAt P w D S n)) ∧
    (((Itt K a).stop i H' ∧ QD H') ∨ ((Itt K a).go i H' ∧ n < 1000 ∧ ∃ N : St → (Str → Bool) → Nat → Hp → Prop, (∀ σ S n H, N σ S n H → ∃ m', m' < m ∧ W (i + 1) m' σ S n H) ∧ ∀ x H2, (Itt K a).yld i H' x H2 → g x σ' H2 fun σ3 H3 => te σ3 H3 fun y H5 => ∃ k, y = .str k ∧ H5 D = some (.ext (setAt P w D S n)) ∧
      N σ3 (fun k' => S k' || decide (k' = k)) (more S n k) (upd H5 D (.ext (setAt P w D (fun k' => S k' || decide (k' = k)) (more S n k)))))) := by
  refine ⟨fun i m σ S n H => m = xs.length - i ∧ i ≤ xs.length ∧ Pv i σ S n H, ⟨xs.length, by simp, Nat.zero_le _, h0⟩, ?_⟩
  rintro i m σ' S n H' ⟨rfl, hi, p⟩
  obtain ⟨q1, q2, q3⟩ := hD i σ' S n H' hi p
  refine ⟨q1, ?_⟩
  by_cases hlt : i < xs.length
  · refine .inr ⟨⟨xs, xs[i], q3, by simp [hlt]⟩, by omega, Pv (i + 1), fun σ' S n H' p' => ⟨xs.length - (i + 1), by omega, rfl, hlt, p'⟩, fun x H2 y => ?_⟩
    obtain ⟨e, hx⟩ := y
    subst e
    exact hs i x σ' S n _ (hx xs q3) p
  · have e : i = xs.length := by omega
    subst e
    exact .inl ⟨⟨xs, q3, Nat.le_refl _⟩, hd σ' S n H' p⟩
end
end L2

set_option Elab.async false
set_option linter.all false
set_option maxRecDepth 100000
/-! upper, max of a list of ints -/
namespace L2
open PySem PySem.Spec PyProof.Rows
section
variable {X : Cx}
theorem mt_upper : MtR X "str.upper" (fun x vs H Q => ∃ z : Str, x = .str z ∧ vs = [] ∧ z.length ≤ 1000 ∧ ∀ y : Str, y.length ≤ 3 * z.length → Q (.str y) H) := by
  intro pins s σ H x vs v us Q I rx rv h
  obtain ⟨z, rfl, rfl, hz, q⟩ := h
  obtain ⟨t, rfl⟩ := rx
  cases rv
  have hl := PyProof.Rows.len_upper z
  have hf : Builtin.Str.tooLong (Txt.upper z).length = false := PyProof.Rows.fit_upper (by omega)
  exact call_givesAt F.slot_str_upper (typeIs_str s z t) F.entry_str_upper (F.args_str_upper_1 _) (P := fun _ => True) (Gives.at (gives_str_upper z t hf)) trivial ⟨fit_le hf, .str (Txt.upper z), H, I.tok _, ⟨_, rfl⟩, q _ hl⟩
theorem call_maxL (hc : X.calm = true) : CallR X (.builtin "max") (fun xs H Q => ∃ (p : Addr) (ns : List Int), xs = [.ref p] ∧ SqL X.K H p (ns.map V.int) ∧ ns ≠ [] ∧ Q (.int (topOf ns)) H) := by
  intro pins s σ H xs us Q I r h
  obtain ⟨p, ns, rfl, hq, hne, q⟩ := h
  obtain ⟨u, rfl, ru⟩ := vals1 r
  cases ru
  obtain ⟨its, rv, pl, hz⟩ := I.list hq
  have hi := intsAre_of rv
  obtain ⟨xs, hxs⟩ := hi.allInts.items
  have hn : numsOf its = ns := hi.numsOf
  have hl : s.heap.IsList p (intItems xs) := by rw [← hxs]; exact pl.isList
  obtain ⟨o, ho, _⟩ := id hl
  have hlt : p < s.heap.objs.size := Heap.lt_size ho
  have hlen : 0 < (intItems xs).size := by
    rw [← hxs, List.size_toArray, ← rv.length, List.length_map]
    exact List.length_pos_iff.mpr hne
  refine call_max_walk (wpAny_pyIter_list hl ?_)
  refine ⟨s.heap.objs.size, _, _, _, _, _, _, rfl, Walks.list (prog := X.prog) (w := X.w) (A := X.A.in1) (I.ok.hd hc) s.heap.objs.size p (Nat.ne_of_lt hlt) (intItems xs), ⟨⟨_, Heap.get?_push_size _ rfl, rfl, rfl⟩, hl.at fun o e => Heap.get?_push_of_some _ e⟩, fun b hb => ?_, hlen, CmpOf.ints_gt (numAt xs) (fun _ _ => intItems_at), fun v h' tk hP hk => ?_⟩
  · rcases List.mem_cons.mp hb with rfl | hb
    · exact Heap.lt_size (Heap.get?_push_size _ rfl)
    · obtain rfl := List.mem_singleton.mp hb
      exact Heap.lt_size (Heap.get?_push_of_some _ ho)
  · obtain ⟨t, rfl⟩ := intItems_at hP
    have e3 : (intItems xs).size = xs.size := by simp [intItems]
    obtain ⟨h1, h2⟩ := argBest_gt (numAt xs) ((intItems xs).size - 1)
    have e : numsOf (intItems xs).toList = ns := by rw [← hxs]; exact hn
    rw [nums_intItems] at e
    have M1 : numAt xs (argBest (fun i j => decide (numAt xs i > numAt xs j)) ((intItems xs).size - 1)) ∈ ns := by
      rw [← e, numAt_eq]; exact getD_mem (by rw [List.length_map, Array.length_toList]; omega)
    have M2 : ∀ b ∈ ns, b ≤ numAt xs (argBest (fun i j => decide (numAt xs i > numAt xs j)) ((intItems xs).size - 1)) := fun b hb => by
      rw [← e] at hb
      obtain ⟨j, hj, rfl⟩ := mem_getD hb
      rw [List.length_map, Array.length_toList] at hj
      rw [← numAt_eq]; exact h2 j (by omega)
    exact ⟨.int (topOf ns), H, I.kept (kept_it hk), ⟨t, by rw [topOf_of M1 M2]⟩, q⟩
end
end L2

set_option Elab.async false
set_option linter.all false
set_option maxRecDepth 100000
/-! isinstance OF A CAUGHT EXCEPTION as a rule; A TUPLE WALKED BY enumerate -/
namespace L2
open PySem PySem.Spec PyProof.Rows

/-! ### isinstance(e, C), isinstance(e, (C, D, ..)) -/
/-- a class, as the layer knows it -/
inductive ClsV : V → Value → Prop
  | own (a : Addr) : ClsV (.ref a) (.ref a)
  | ty (T : String) : ClsV (.ty T) (.type T)
inductive ClsVs : List V → List Value → Prop
  | nil : ClsVs [] []
  | cons {v : V} {c : Value} {vs : List V} {cs : List Value} : ClsV v c → ClsVs vs cs → ClsVs (v :: vs) (c :: cs)
theorem ClsV.rel {v : V} {c u : Value} (h : ClsV v c) (r : RelV v u) : u = c := by
  cases h with
  | own a => exact r
  | ty T => exact r
theorem ClsVs.rel : ∀ {vs : List V} {cs us : List Value}, ClsVs vs cs → Vals vs us → us = cs
  | _, _, _, .nil, .nil => rfl
  | _, _, _, .cons h t, .cons r rs => by rw [h.rel r, t.rel rs]
section
variable {X : Cx}
theorem call_instX : CallR X (.builtin "isinstance") (fun xs H Q => ∃ (x D : Addr) (cv : V) (c : Value) (b : Bool), xs = [.ref x, cv] ∧ ClsV cv c ∧ ExC X.K D ∧ H x = some (.ext (ExAt x D)) ∧ PySem.W.kitOne X.K (.ref D) c = some b ∧ Q (.bl b) H) := by
  intro pins s σ H xs us Q I r h
  obtain ⟨x, D, cv, c, b, rfl, hc, F, hx, e, q⟩ := h
  obtain ⟨u, w', rfl, ru, rw'⟩ := vals2 r
  cases ru
  have := hc.rel rw'
  subst this
  exact PySem.W.kia_one (kitx_exc F) I.kIn (I.hok x _ hx).1 e (fun z => nomatch z) fun tk => ⟨.bl b, H, I.tok tk, rfl, q⟩
theorem call_instXT : CallR X (.builtin "isinstance") (fun xs H Q => ∃ (x D p : Addr) (cvs : List V) (cs : List Value) (b : Bool), xs = [.ref x, .ref p] ∧ H p = some (.tup cvs) ∧ ClsVs cvs cs ∧ ExC X.K D ∧ H x = some (.ext (ExAt x D)) ∧ PySem.W.kitAny X.K (.ref D) cs = some b ∧ Q (.bl b) H) := by
  intro pins s σ H xs us Q I r h
  obtain ⟨x, D, p, cvs, cs, b, rfl, hp, hc, F, hx, e, q⟩ := h
  obtain ⟨u, w', rfl, ru, rw'⟩ := vals2 r
  cases ru
  cases rw'
  obtain ⟨_, its, rv, o, h1, h2, n, h3⟩ := (show ObjOk X.prog X.w H s.heap p (.tup cvs) from I.hok p _ hp)
  have := hc.rel rv
  subst this
  obtain ⟨oc, od, odt, osl⟩ := o
  cases h2
  cases h3
  exact PySem.W.kia_tup (kitx_exc F) I.kIn (I.hok x _ hx).1 h1 e (fun z => nomatch z) fun tk => ⟨.bl b, H, I.tok tk, rfl, q⟩
end

/-! ### enumerate over a tuple -/
theorem drawsT {prog : Program} {w : World} {A : Around} (hh : A.handled = none) (it l : Addr) (hne : l ≠ it) (items : Array Value) :
    Draws prog w A it [it, l] items.size (fun i v => items[i]? = some v) (fun i h => h.IsTupleIter it l i ∧ h.IsTuple l items) where
  live := fun _ _ st => let ⟨o, ho, _⟩ := st.1; ⟨o, ho⟩
  frame := fun _ _ _ st hk => ⟨itAt st.1 fun o e => hk it (by simp) o e, st.2.at fun o e => hk l (by simp) o e⟩
  item := fun i s Q E hi st hQ => by
    refine nextT_item st.1 st.2 (v := items[i]) (by simp [hi]) fun h' hit' hs' => ?_
    exact hQ _ h' s.toks (by simp [hi]) ⟨hit', st.2.extBut hs'.extBut hne⟩ hs'
  done := fun s Q E st hE => nextT_end hh st.1 st.2 (by simp) hE
def Ite (K : PySem.W.Frag) (a : Addr) : It :=
  ⟨fun i H => ∃ xs x, SqT K H a xs ∧ xs[i]? = some x,
   fun i H v H' => ∃ p x, H p = none ∧ v = .ref p ∧ H' = upd H p (.tup [.int i, x]) ∧ (∀ xs, SqT K H a xs → xs[i]? = some x),
   fun i H => ∃ xs, SqT K H a xs ∧ xs.length = i⟩
theorem turn_enum {P : Program} {w : World} {K : PySem.W.Frag} {elts : List Expr} {kk : Nat} {pos : Pos} (a e it : Addr) (hei : e ≠ it) (hae : a ≠ e) (hai : a ≠ it) :
    Turn P w K (.Tuple elts kk pos) (Ite K a) [e, it] e (fun i h => (∃ old, IsEnum h e it i old) ∧ h.IsTupleIter it a i) where
  mem := by simp
  obj := fun i h st c hc => by
    obtain ⟨⟨old, he⟩, ⟨o1, e1, _, d1⟩⟩ := st
    simp only [List.mem_cons, List.not_mem_nil, or_false] at hc
    rcases hc with rfl | rfl
    · exact ⟨_, he, fun v z => by have z' : Data.fields _ = Data.cell v := z; cases z'⟩
    · exact ⟨o1, e1, fun v z => by rw [d1] at z; cases z⟩
  keep := fun i h h' st k => by
    obtain ⟨⟨old, he⟩, h1⟩ := st
    exact ⟨⟨old, k e (by simp) _ he⟩, itAt h1 fun o q => k it (by simp) o q⟩
  item := by
    intro X hP hw hK hc i pins s σ H E I hf st hg
    subst hP hw hK
    obtain ⟨⟨old, he⟩, h1⟩ := st
    obtain ⟨xs, x, hxs, hx⟩ := hg
    obtain ⟨its, rv, pl, _⟩ := I.tuple hxs
    obtain ⟨vx, ex, rx⟩ := rv.get hx
    have n0 : H s.heap.objs.size = none := I.hok.fresh (Nat.le_refl _)
    have hi : i < its.toArray.size := by
      have := (List.getElem?_eq_some_iff.mp ex).1
      simpa using this
    refine wpAny_pyNext_enum_itemD (drawsT (prog := X.prog) (w := X.w) (A := X.A.in1) (I.ok.hd hc) it a hai its.toArray) he ⟨h1, pl⟩ hi hei (by simp [hei, hae.symm]) fun v h' tk hv ho hs' ht hsz kk => ?_
    have hvx : v = vx := by
      have hv' : its[i]? = some v := by simpa using hv
      rw [ex] at hv'; exact (Option.some.inj hv').symm
    subst hvx
    refine ⟨_, rfl, wpAny_letOwnedTupleGo_enum ho fun g2 he2 hs2 => ?_⟩
    have el : e < s.heap.objs.size := Heap.lt_size he
    have il : it < s.heap.objs.size := by obtain ⟨_, q, _⟩ := h1; exact Heap.lt_size q
    refine ⟨.ref s.heap.objs.size, upd H s.heap.objs.size (.tup [.int i, x]), ?_, rfl, ⟨_, x, n0, rfl, rfl, fun zs hzs => by rw [I.tuple_inj hzs hxs]; exact hx⟩, ⟨⟨v, ?_⟩, ?_⟩, fun c hc => ?_⟩
    · refine I.turnedNew (t' := tk + 1) (ch := [e, it]) (fun c o hc q => ?_) (fun c hc => hf c hc) (Nat.le_refl _) ⟨by show 2 ≤ sizeLine; decide, [.int i tk, v], .cons ⟨tk, rfl⟩ (.cons rx .nil), ?_⟩
      · simp only [List.mem_cons, List.not_mem_nil, or_false, not_or] at hc
        exact (hs2.2 c hc.1).trans (kk c o hc.1 hc.2 q)
      · exact ⟨_, (hs2.2 _ (Nat.ne_of_gt el)).trans ht, rfl, 0, rfl⟩
    · have : ((i + 1 : Nat) : Int) = (i : Int) + 1 := by omega
      rw [this]; exact he2
    · exact itAt hs'.1 fun o q => (hs2.2 it hei.symm).trans q
    · have : c < s.heap.objs.size := by
        simp only [List.mem_cons, List.not_mem_nil, or_false] at hc
        rcases hc with rfl | rfl
        · exact el
        · exact il
      rw [upd_ne (Nat.ne_of_lt this)]
      exact (hf c hc).1
  done := by
    intro X hP hw hK hc i pins s σ H E I hf st hg
    subst hP hw hK
    obtain ⟨⟨old, he⟩, h1⟩ := st
    obtain ⟨xs, hxs, hl⟩ := hg
    obtain ⟨its, rv, pl, _⟩ := I.tuple hxs
    have l1 := rv.length
    have ei : i = its.toArray.size := by simp; omega
    subst ei
    refine wpAny_pyNext_enum_endD (drawsT (prog := X.prog) (w := X.w) (A := X.A.in1) (I.ok.hd hc) it a hai its.toArray) he ⟨h1, pl⟩ fun h' hx => ⟨rfl, ?_⟩
    obtain ⟨f0, f1, f2, f3, f4, f5⟩ := hf it (by simp)
    exact I.turned (t' := s.toks) (fun b o hb q => hx b o hb q) f0 f1 f3 f4 f5
  self := fun _ _ _ _ _ st h => by
    obtain ⟨⟨old, he⟩, _⟩ := st
    exact wpAny_pyIter_enum he h
theorem enumT_new (l : Addr) (items : Array Value) (n : Nat) (dct : Option Addr) (sl : Array (Option Value)) :
    Meets (Builtin.«enumerate.__new__» ⟨[.type "enumerate", .ref l], []⟩) (fun _ R s => s.heap.get? l = some { cls := .type "tuple", dict := dct, data := .seq items n, slots := sl } ∧
      R (.ok (.ret (.ref (s.heap.push { cls := .type "tuple_iterator", data := .fields #[.ref l, .int 0 0] }).objs.size)))
        { s with heap := (s.heap.push { cls := .type "tuple_iterator", data := .fields #[.ref l, .int 0 0] }).push { cls := .type "enumerate", data := .fields #[.none, .bool false, .ref s.heap.objs.size, rawInt 0, .none, .none] } }) :=
  .of_wp fun prog w A R s h => by
    obtain ⟨hp, g, d, tk, os⟩ := s; obtain ⟨hl, h⟩ := h
    have hsub := sub_enumerate
    have hL : Heap.IsTuple (Shared.heap ⟨hp, g, d, tk, os⟩) l items := ⟨_, hl, rfl, n, rfl⟩
    wp_walk using AutoSeq1.wpAny_loadPart' hl
    refine wpAny_stack_any fun st => wpAny_pure ?_
    split
    · rename_i c _ _ _ _ _
      cases (c == Value.type "enumerate")
      · wp_walk using AutoSeq1.wpAny_loadPart' hl, wpAny_pyIter_tuple hL
        exact ⟨_, rfl, h⟩
      · wp_walk using AutoSeq1.wpAny_loadPart' hl, wpAny_pyIter_tuple hL
        exact ⟨_, rfl, h⟩
    · wp_walk using AutoSeq1.wpAny_loadPart' hl, wpAny_pyIter_tuple hL
      exact ⟨_, rfl, h⟩
theorem call_enumT {prog : Program} {w : World} {A : Around} {E : Value → Shared → Prop} {s : Shared} {l : Addr} {items : Array Value} {Q : Value → Shared → Prop} (hL : s.heap.IsTuple l items)
    (h : ∀ h', IsEnum h' (s.heap.objs.size + 1) s.heap.objs.size 0 .none → h'.IsTupleIter s.heap.objs.size l 0 → (∀ b o, s.heap.get? b = some o → h'.get? b = some o) → Q (.ref (s.heap.objs.size + 1)) { s with heap := h' }) :
    wpAny (model prog w) A (call (.type "enumerate") [.ref l]) Q E s := by
  obtain ⟨⟨c, dct, dt, sl⟩, hl, hc, n, hd⟩ := hL
  replace hc : c = .type "tuple" := hc
  replace hd : dt = .seq items n := hd
  subst hc hd
  refine callType_new F.called_enumerate (by decide) (F.typeCall_enumerate_1 _) (F.newCall_enumerate_1 _) (fun obj => F.args_object_init_2 obj _) F.entry_enumerate_new
    (enumT_new l items n dct sl) ⟨hl, ?_⟩
  have hz : (s.heap.push { cls := .type "tuple_iterator", data := .fields #[.ref l, .int 0 0] }).objs.size = s.heap.objs.size + 1 := Heap.size_push ..
  show _ ∧ _
  rw [hz]
  have he : IsEnum ((s.heap.push { cls := .type "tuple_iterator", data := .fields #[.ref l, .int 0 0] }).push
      { cls := .type "enumerate", data := .fields #[.none, .bool false, .ref s.heap.objs.size, rawInt 0, .none, .none] }) (s.heap.objs.size + 1) s.heap.objs.size 0 .none := by
    have := Heap.get?_push_size (s.heap.push { cls := .type "tuple_iterator", data := .fields #[.ref l, .int 0 0] })
      (o := { cls := .type "enumerate", data := .fields #[.none, .bool false, .ref s.heap.objs.size, rawInt 0, .none, .none] }) rfl
    rw [hz] at this; exact this
  exact ⟨⟨_, he, rfl⟩, h _ he ⟨_, Heap.get?_push_of_some _ (Heap.get?_push_size _ rfl), rfl, rfl⟩ fun b o y => Heap.get?_push_of_some _ (Heap.get?_push_of_some _ y)⟩
section
variable {X : Cx} {elts : List Expr} {kk : Nat} {tpos : Pos}
def iEnum (K : PySem.W.Frag) (ta : TA) : TI := fun σ H R => ta σ H fun vs H1 => ∃ (a : Addr) (xs : List V), vs = [.ref a] ∧ SqT K H1 a xs ∧ R (Ite K a) H1
theorem pi_enum {a : Expr} {ta : TA} {p pos : Pos} (hg : Gl X "enumerate") (hm : X.mg "enumerate" = none) (ha : PA X [a] ta) (hs : starEach [a] X.env = [(false, eval a X.env)] := by rfl) :
    PI X (.Tuple elts kk tpos) (.Call (.Name "enumerate" p) [a] [] pos) (iEnum X.K ta) := by
  refine .mk ?_
  intro pins s σ H R I h
  refine Call_ (ld_blt I hg hm boot_enumerate (PyProof.Rows.callWith_type1 (thn (ha pos pins s σ H _ I h) fun us s1 ⟨vs, H1, I1, r1, q1⟩ => ?_) hs rfl))
  obtain ⟨u1, xs, e, hx, q⟩ := q1
  subst e
  cases r1 with
  | cons r rr =>
    cases rr
    cases r
    obtain ⟨its, rv, pl, _⟩ := I1.tuple hx
    obtain ⟨o1, e1, _⟩ := id pl
    have l1 := Heap.lt_size e1
    refine call_enumT pl fun h' he hi k => ?_
    refine wpAny_pyIter_enum he ?_
    refine ⟨s1.heap.objs.size + 1, [s1.heap.objs.size + 1, s1.heap.objs.size], _, _, H1, rfl, I1.kept (t' := s1.toks) k, turn_enum u1 _ _ (Nat.succ_ne_self _) (Nat.ne_of_lt (Nat.lt_succ_of_lt l1)) (Nat.ne_of_lt l1), ⟨⟨.none, he⟩, hi⟩, fun c hc => ?_, q⟩
    have hc' : s1.heap.objs.size ≤ c := by
      simp only [List.mem_cons, List.not_mem_nil, or_false] at hc
      rcases hc with rfl | rfl
      · exact Nat.le_succ _
      · exact Nat.le_refl _
    exact I1.fpOk hc' (I1.hok.fresh hc')
theorem for_enum {K : PySem.W.Frag} {a : Addr} {xs : List V} {g : TG} {tb : TS} {D : Ends} {σ : St} {H : Hp} (Pv : Nat → St → Hp → Prop) (h0 : Pv 0 σ H) (hl : ∀ i σ H, i ≤ xs.length → Pv i σ H → SqT K H a xs)
    (hs : ∀ i x p σ H, xs[i]? = some x → H p = none → Pv i σ H → g (.ref p) σ (upd H p (.tup [.int i, x])) fun σ2 H2 => tb { D with nx := Pv (i + 1), ct := Pv (i + 1), bk := D.nx } σ2 H2) (hd : ∀ σ H, Pv xs.length σ H → D.nx σ H) :
    ∃ W : Nat → Nat → St → Hp → Prop, (∃ m, W 0 m σ H) ∧ ∀ i m σ H, W i m σ H →
      ((Ite K a).stop i H ∧ D.nx σ H) ∨ ((Ite K a).go i H ∧ ∃ N : St → Hp → Prop, (∀ σ' H', N σ' H' → ∃ m', m' < m ∧ W (i + 1) m' σ' H') ∧ ∀ x H', (Ite K a).yld i H x H' → g x σ H' fun σ2 H2 => tb { D with nx := N, ct := N, bk := D.nx } σ2 H2) := by
  refine ⟨fun i m σ H => m = xs.length - i ∧ i ≤ xs.length ∧ Pv i σ H, ⟨xs.length, by simp, Nat.zero_le _, h0⟩, ?_⟩
  rintro i m σ H ⟨rfl, hi, p⟩
  have q := hl i σ H hi p
  by_cases hlt : i < xs.length
  · refine .inr ⟨⟨xs, xs[i], q, by simp [hlt]⟩, Pv (i + 1), fun σ' H' p' => ⟨xs.length - (i + 1), by omega, rfl, hlt, p'⟩, fun v H' y => ?_⟩
    obtain ⟨c, x, hn, rfl, rfl, hx⟩ := y
    exact hs i x c σ H (hx xs q) hn p
  · have e : i = xs.length := by omega
    subst e
    exact .inl ⟨⟨xs, q, rfl⟩, hd σ H p⟩
end
end L2

set_option Elab.async false
set_option linter.all false
set_option maxRecDepth 100000
/-! list(zip(t, u)) -/
namespace L2
open PySem PySem.Spec PyProof.Rows
section
variable {prog : Program} {w : World} {A : Around} {E : Value → Shared → Prop} {s : Shared}
/-- a zip's record: the tuple that it made first, and whether it knows it is kept -/
abbrev ZipAt (h : Heap) (z p r : Addr) (own flag : Value) : Prop := h.get? z = some { cls := .type "zip", dict := none, data := .fields #[own, flag, .bool false, .ref p, .ref r], slots := #[] }
/-- the next pair where the first one is kept by somebody -/
theorem zipT_kept {z p r j1 j2 u1 u2 t : Addr} {i : Nat} {vs ws : Array Value} {x y : Value} {fl : Bool} {ot : Obj} {Q : Value → Shared → Prop} (D : Apart z p r j1 j2 u1 u2) (tz : t ≠ z)
    (hz : ZipAt s.heap z p r (rawInt t) (.bool fl)) (ht : s.heap.get? t = some ot) (hp : IsPair s.heap p (.ref j1) (.ref j2))
    (h1 : s.heap.IsTupleIter j1 u1 i) (h2 : s.heap.IsTupleIter j2 u2 i) (l1 : s.heap.IsTuple u1 vs) (l2 : s.heap.IsTuple u2 ws) (hx : vs[i]? = some x) (hy : ws[i]? = some y)
    (q : ∀ h' T, s.heap.objs.size ≤ T → ZipAt h' z p r (rawInt t) (.bool true) → h'.IsTupleIter j1 u1 (i + 1) → h'.IsTupleIter j2 u2 (i + 1) → IsPair h' T x y →
      (∀ c o, c ≠ z → c ≠ j1 → c ≠ j2 → s.heap.get? c = some o → h'.get? c = some o) → Q (.ref T) { s with heap := h' }) :
    wpAny (model prog w) A (Builtin.«zip.__next__» ⟨[.ref z], []⟩) (fun fin s' => ∃ v, fin = .done (.ret v) ∧ Q v s') E s := by
  show wpAny _ _ (field (.ref z) 2 >>= _) _ _ _
  refine wpAny_bind (wpAny_field hz rfl (x := .bool false) rfl ?_)
  show wpAny _ _ (field (.ref z) 3 >>= _) _ _ _
  refine wpAny_bind (wpAny_field hz rfl (x := .ref p) rfl ?_)
  refine wpAny_bind (wpAny_seqItems hp rfl ?_)
  show wpAny _ _ (Builtin.SmallTypes.ownedTupleIsFree (.ref z) >>= _) _ _ _
  have own : wpAny (model prog w) A (Builtin.SmallTypes.ownedTupleIsFree (.ref z)) (fun b s' => b = false ∧ ∃ g1, s' = { s with heap := g1 } ∧ ZipAt g1 z p r (rawInt t) (.bool true) ∧ Heap.SameBut z s.heap g1) E s := by
    unfold Builtin.SmallTypes.ownedTupleIsFree
    refine wpAny_bind (wpAny_field hz rfl (x := rawInt t) rfl ?_)
    show wpAny _ _ (loadIfAlive ((t : Nat) : Int).toNat >>= _) _ _ _
    rw [Int.toNat_natCast]
    refine wpAny_bind (PySem.W.kdx_alive ht ?_)
    dsimp only [Option.isNone]
    rw [if_neg Bool.false_ne_true]
    refine wpAny_bind (wpAny_field hz rfl (x := .bool fl) rfl ?_)
    cases fl with
    | true => exact wpAny_pure ⟨rfl, s.heap, rfl, hz, Heap.SameBut.refl _ _⟩
    | false =>
      rw [if_pos (by decide)]
      exact wpAny_bind (wpAny_setField_rec hz (by simp) fun g1 z1 e1 => wpAny_pure ⟨rfl, g1, rfl, z1, e1⟩)
  refine wpAny_bind (wpAny_mono own (fun b s' hb => ?_) fun _ _ e => e)
  obtain ⟨rfl, g1, rfl, z1, e1⟩ := hb
  rw [if_neg Bool.false_ne_true]
  refine wpAny_bind ?_
  simp only [← Array.forIn_toList, List.forIn_cons, List.forIn_nil]
  refine wpAny_bind (wpAny_bind (wpAny_holding ?_))
  show wpAny _ _ (Builtin.SmallTypes.nextOf (.ref j1) >>= _) _ _ _
  refine wpAny_bind (nextT_item (h1.extBut e1.extBut D.j1z) (l1.extBut e1.extBut D.u1z) hx fun g2 a2 e2 => wpAny_pure ?_)
  refine wpAny_pure ?_
  dsimp only
  refine wpAny_bind (wpAny_bind (wpAny_holding ?_))
  show wpAny _ _ (Builtin.SmallTypes.nextOf (.ref j2) >>= _) _ _ _
  refine wpAny_bind (nextT_item ((h2.extBut e1.extBut D.j2z).extBut e2.extBut D.j12.symm) ((l2.extBut e1.extBut D.u2z).extBut e2.extBut D.u2j1) hy fun g3 a3 e3 => wpAny_pure ?_)
  refine wpAny_pure ?_
  dsimp only
  refine wpAny_pure ?_
  dsimp only
  have sz : g3.objs.size = s.heap.objs.size := by rw [e3.1, e2.1, e1.1]
  refine wpAny_bind (wpAny_newTuple (hsz := by show 2 ≤ sizeLine; decide) ?_)
  refine wpAny_pure ⟨_, rfl, ?_⟩
  have up : ∀ c o, g3.get? c = some o → (g3.push { cls := .type "tuple", data := .seq #[x, y] }).get? c = some o := fun c o e => Heap.get?_push_of_some _ e
  refine q _ g3.objs.size (by rw [sz]; exact Nat.le_refl _) (up _ _ (e3.extBut _ _ D.j2z.symm (e2.extBut _ _ D.j1z.symm z1))) (itAt (a2.extBut e3.extBut D.j12) fun o e => up _ o e) (itAt a3 fun o e => up _ o e) (Heap.get?_push_size _ rfl) fun c o n1 n2 n3 e => up _ o (e3.extBut _ _ n3 (e2.extBut _ _ n2 (e1.extBut _ _ n1 e)))
theorem zipT_kept_end {z p r j1 j2 u1 u2 t : Addr} {i : Nat} {vs : Array Value} {fl : Bool} {ot : Obj} {Q : Fin → Shared → Prop} (hh : A.handled = none) (D : Apart z p r j1 j2 u1 u2)
    (hz : ZipAt s.heap z p r (rawInt t) (.bool fl)) (ht : s.heap.get? t = some ot) (hp : IsPair s.heap p (.ref j1) (.ref j2))
    (h1 : s.heap.IsTupleIter j1 u1 i) (l1 : s.heap.IsTuple u1 vs) (hx : vs[i]? = none)
    (q : ∀ h' e, (∀ c o, c ≠ z → c ≠ j1 → c ≠ j2 → s.heap.get? c = some o → h'.get? c = some o) → (∃ o, h'.get? e = some o ∧ o.cls = .type "StopIteration") → E (.ref e) { s with heap := h' }) :
    wpAny (model prog w) A (Builtin.«zip.__next__» ⟨[.ref z], []⟩) Q E s := by
  show wpAny _ _ (field (.ref z) 2 >>= _) _ _ _
  refine wpAny_bind (wpAny_field hz rfl (x := .bool false) rfl ?_)
  show wpAny _ _ (field (.ref z) 3 >>= _) _ _ _
  refine wpAny_bind (wpAny_field hz rfl (x := .ref p) rfl ?_)
  refine wpAny_bind (wpAny_seqItems hp rfl ?_)
  show wpAny _ _ (Builtin.SmallTypes.ownedTupleIsFree (.ref z) >>= _) _ _ _
  have own : wpAny (model prog w) A (Builtin.SmallTypes.ownedTupleIsFree (.ref z)) (fun b s' => b = false ∧ ∃ g1, s' = { s with heap := g1 } ∧ Heap.SameBut z s.heap g1) E s := by
    unfold Builtin.SmallTypes.ownedTupleIsFree
    refine wpAny_bind (wpAny_field hz rfl (x := rawInt t) rfl ?_)
    show wpAny _ _ (loadIfAlive ((t : Nat) : Int).toNat >>= _) _ _ _
    rw [Int.toNat_natCast]
    refine wpAny_bind (PySem.W.kdx_alive ht ?_)
    dsimp only [Option.isNone]
    rw [if_neg Bool.false_ne_true]
    refine wpAny_bind (wpAny_field hz rfl (x := .bool fl) rfl ?_)
    cases fl with
    | true => exact wpAny_pure ⟨rfl, s.heap, rfl, Heap.SameBut.refl _ _⟩
    | false =>
      rw [if_pos (by decide)]
      exact wpAny_bind (wpAny_setField_rec hz (by simp) fun g1 z1 e1 => wpAny_pure ⟨rfl, g1, rfl, e1⟩)
  refine wpAny_bind (wpAny_mono own (fun b s' hb => ?_) fun _ _ e => e)
  obtain ⟨rfl, g1, rfl, e1⟩ := hb
  rw [if_neg Bool.false_ne_true]
  refine wpAny_bind ?_
  simp only [← Array.forIn_toList, List.forIn_cons, List.forIn_nil]
  refine wpAny_bind (wpAny_bind (wpAny_holding ?_))
  show wpAny _ _ (Builtin.SmallTypes.nextOf (.ref j1) >>= _) _ _ _
  exact wpAny_bind (nextT_end hh (h1.extBut e1.extBut D.j1z) (l1.extBut e1.extBut D.u1z) hx fun g2 e e2 he => q g2 e (fun c o n1 n2 n3 x => e2 _ _ n2 (e1.extBut _ _ n1 x)) he)
end

section
variable {X : Cx} {pins : List (Addr × Obj)} {σ : St} {H : Hp} {s : Shared} {z p r j1 j2 u1 u2 t : Addr} {xs ys : List V}
theorem FpOk.upd {b T : Addr} {o : HO} (h : FpOk X pins H b) (n : b ≠ T) : FpOk X pins (L2.upd H T o) b := ⟨by rw [upd_ne n]; exact h.1, h.2⟩
theorem next_kept {A : Around} {E : Value → Shared → Prop} {Q : Option Value → Shared → Prop} {i : Nat} {x y : V} {fl : Bool} {tv : List V} (I : Inv X pins σ H s) (D : Apart z p r j1 j2 u1 u2) (hf : ∀ b ∈ [z, p, r, j1, j2], FpOk X pins H b)
    (hz : ZipAt s.heap z p r (rawInt t) (.bool fl)) (ht : H t = some (.tup tv)) (hp : IsPair s.heap p (.ref j1) (.ref j2)) (hr : ∃ u v, IsPair s.heap r u v) (h1 : s.heap.IsTupleIter j1 u1 i) (h2 : s.heap.IsTupleIter j2 u2 i)
    (hxs : SqT X.K H u1 xs) (hys : SqT X.K H u2 ys) (hx : xs[i]? = some x) (hy : ys[i]? = some y)
    (q : ∀ T h', H T = none → Inv X pins σ (upd H T (.tup [x, y])) { s with heap := h' } → (∀ b ∈ [z, p, r, j1, j2], FpOk X pins (upd H T (.tup [x, y])) b) → ZipAt h' z p r (rawInt t) (.bool true) → IsPair h' p (.ref j1) (.ref j2) → (∃ u v, IsPair h' r u v) →
      h'.IsTupleIter j1 u1 (i + 1) → h'.IsTupleIter j2 u2 (i + 1) → Q (some (.ref T)) { s with heap := h' }) : wpAny (model X.prog X.w) A (pyNext (.ref z)) Q E s := by
  obtain ⟨its, rv, pl, _⟩ := I.tuple hxs
  obtain ⟨its2, rv2, pl2, _⟩ := I.tuple hys
  obtain ⟨vx, ex, rx⟩ := rv.get hx
  obtain ⟨vy, ey, ry⟩ := rv2.get hy
  have hT : s.TypeIs (.ref z) "zip" := ⟨_, hz, rfl⟩
  have tz : t ≠ z := fun e => by rw [e, (hf z (by simp)).1] at ht; cases ht
  obtain ⟨_, itt, _, ot, ho, _⟩ := (show ObjOk X.prog X.w H s.heap t (.tup tv) from I.hok t _ ht)
  unfold pyNext
  refine wpAny_bind (wpAny_attempt (wpAny_callSpecial?_slot (name := Str.ofString "__next__") hT F.slot_zip_next (wpAny_call_entry F.slot_zip_next hT F.entry_zip_next
    (zipT_kept D tz hz ho hp h1 h2 pl pl2 (by simpa using ex) (by simpa using ey) fun g T hT' a1 a3 a4 a5 a7 => wpAny_pure ?_) (F.args_zip_next_1 _))))
  have zl : z < s.heap.objs.size := Heap.lt_size hz
  have lt : ∀ c ∈ [z, p, r, j1, j2], c ≠ T := fun c hc e => by
    have h0 := (hf c hc)
    have : c < s.heap.objs.size := by
      simp only [List.mem_cons, List.not_mem_nil, or_false] at hc
      obtain ⟨_, q1, _⟩ := h1
      obtain ⟨_, q2, _⟩ := h2
      rcases hc with rfl | rfl | rfl | rfl | rfl
      · exact zl
      · exact Heap.lt_size hp
      · obtain ⟨_, _, q3⟩ := hr
        exact Heap.lt_size q3
      · exact Heap.lt_size q1
      · exact Heap.lt_size q2
    exact absurd (e ▸ this) (Nat.not_lt.mpr hT')
  obtain ⟨ru, rv', hr'⟩ := hr
  refine q T g (I.hok.fresh hT') (I.turnedNew (t' := s.toks) (ch := [z, j1, j2]) (fun c o hc e => ?_) (fun c hc => hf c ?_) hT' ⟨by show 2 ≤ sizeLine; decide, [vx, vy], .cons rx (.cons ry .nil), ⟨_, a5, rfl, 0, rfl⟩⟩) (fun b hb => (hf b hb).upd (lt b hb)) a1 (a7 _ _ D.pz D.pj1 D.pj2 hp) ⟨ru, rv', a7 _ _ D.rz D.rj1 D.rj2 hr'⟩ a3 a4
  · simp only [List.mem_cons, List.not_mem_nil, or_false, not_or] at hc
    exact a7 c o hc.1 hc.2.1 hc.2.2 e
  · simp only [List.mem_cons, List.not_mem_nil, or_false] at hc ⊢
    rcases hc with rfl | rfl | rfl <;> simp
/-- the pairs so far -/
def Prs (H : Hp) (xs ys : List V) (ts : List Addr) : Prop := ∀ (j : Nat) (t : Addr), ts[j]? = some t → ∃ x y, xs[j]? = some x ∧ ys[j]? = some y ∧ H t = some (.tup [x, y])
theorem Prs.keep {H' : Hp} {ts : List Addr} (h : Prs H xs ys ts) (k : ∀ b v, H b = some (.tup v) → H' b = some (.tup v)) : Prs H' xs ys ts := fun j t e => by
  obtain ⟨x, y, a, b, c⟩ := h j t e
  exact ⟨x, y, a, b, k _ _ c⟩
theorem Prs.snoc {T : Addr} {x y : V} {ts : List Addr} (h : Prs H xs ys ts) (hx : xs[ts.length]? = some x) (hy : ys[ts.length]? = some y) (hT : H T = some (.tup [x, y])) : Prs H xs ys (ts ++ [T]) := fun j t e => by
  by_cases hj : j < ts.length
  · rw [List.getElem?_append_left hj] at e; exact h j t e
  · rw [List.getElem?_append_right (by omega)] at e
    have : j - ts.length = 0 := by
      by_cases h0 : j - ts.length = 0
      · exact h0
      · rw [List.getElem?_eq_none (by simp; omega)] at e; cases e
    have ej : j = ts.length := by omega
    subst ej
    simp at e
    subst e
    exact ⟨x, y, hx, hy, hT⟩
theorem SqT.step {K : PySem.W.Frag} {H' : Hp} {S a : Addr} {ls vs : List V} (k : ∀ b o, b ≠ S → H b = some o → H' b = some o) (hS : H S = some (.lst ls)) (h : SqT K H a vs) : SqT K H' a vs := by
  rcases h with (h | ⟨o, h⟩) | h
  · exact .inl (.inl (k a _ (ne_of h hS (by intro z; cases z)) h))
  · exact .inl (.inr ⟨o, k a _ (ne_of h hS (by intro z; cases z)) h⟩)
  · exact .inr h
theorem ext_loopZ {A : Around} {R : Result → Shared → Prop} {res : Value} {S : Addr} (hh : A.handled = none) (D : Apart z p r j1 j2 u1 u2) (hlen : xs.length = ys.length) (hn : xs.length ≤ sizeLine) :
    ∀ (k i : Nat) (s : Shared) (H : Hp) (t : Addr) (fl : Bool) (tv : List V) (ts : List Addr), xs.length - i = k → i ≤ xs.length → Inv X pins σ H s → (∀ b ∈ [z, p, r, j1, j2], FpOk X pins H b) →
      ZipAt s.heap z p r (rawInt t) (.bool fl) → H t = some (.tup tv) → IsPair s.heap p (.ref j1) (.ref j2) → (∃ u v, IsPair s.heap r u v) → s.heap.IsTupleIter j1 u1 i → s.heap.IsTupleIter j2 u2 i → SqT X.K H u1 xs → SqT X.K H u2 ys →
      H S = some (.lst (ts.map V.ref)) → ts.length = i → Prs H xs ys ts →
      (∀ s' H' ts', Inv X pins σ H' s' → (∀ b o, b ≠ S → H b = some o → H' b = some o) → H' S = some (.lst (ts'.map V.ref)) → ts'.length = xs.length → Prs H' xs ys ts' → R (.ok (.ret res)) s') →
      codeAny (model X.prog X.w) A (.builtin "list.extend.loop" ⟨[.ref S, .ref z, res], []⟩) R s := by
  intro k
  induction k with
  | zero =>
    intro i s H t fl tv ts hk hi I hf hz ht hp hr h1 h2 hxs hys hS hl hP hR
    have ei : i = xs.length := by omega
    subst ei
    refine codeAny_builtin F.entry_extend_loop ?_
    rw [Around.under_plainId F.plain_extend_loop _]
    show wpAny _ A.in1 (pyNext (.ref z) >>= _) _ _ s
    obtain ⟨its, rv, pl, _⟩ := I.tuple hxs
    have l1 := rv.length
    have hT : s.TypeIs (.ref z) "zip" := ⟨_, hz, rfl⟩
    obtain ⟨_, itt, _, ot, ho, _⟩ := (show ObjOk X.prog X.w H s.heap t (.tup tv) from I.hok t _ ht)
    refine wpAny_bind ?_
    unfold pyNext
    refine wpAny_bind (wpAny_attempt (wpAny_callSpecial?_slot (name := Str.ofString "__next__") hT F.slot_zip_next (wpAny_call_entry F.slot_zip_next hT F.entry_zip_next
      (zipT_kept_end hh D hz ho hp h1 pl (by simp; omega) fun g e kk he => ?_) (F.args_zip_next_1 _))))
    obtain ⟨o, ho', hcl⟩ := he
    refine wpAny_bind (wpAny_isInstance (T := "StopIteration") (b := true) ⟨o, ho', hcl⟩ isSubtype_stop ?_)
    refine wpAny_pure (wpAny_pure (hR _ H ts (I.turnedAll (t' := s.toks) (ch := [z, j1, j2]) (fun c o hc e => ?_) (fun c hc => hf c ?_)) (fun _ _ _ h => h) hS hl hP))
    · simp only [List.mem_cons, List.not_mem_nil, or_false, not_or] at hc
      exact kk c o hc.1 hc.2.1 hc.2.2 e
    · simp only [List.mem_cons, List.not_mem_nil, or_false] at hc ⊢
      rcases hc with rfl | rfl | rfl <;> simp
  | succ k ih =>
    intro i s H t fl tv ts hk hi I hf hz ht hp hr h1 h2 hxs hys hS hl hP hR
    have hlt : i < xs.length := by omega
    have hlt2 : i < ys.length := by omega
    refine codeAny_builtin F.entry_extend_loop ?_
    rw [Around.under_plainId F.plain_extend_loop _]
    show wpAny _ A.in1 (pyNext (.ref z) >>= _) _ _ s
    have hx : xs[i]? = some xs[i] := List.getElem?_eq_getElem hlt
    have hy : ys[i]? = some ys[i] := List.getElem?_eq_getElem hlt2
    refine wpAny_bind (next_kept I D hf hz ht hp hr h1 h2 hxs hys hx hy fun T g hTn I1 hf1 z1 p1 r1 a1 a2 => ?_)
    have hS1 : (upd H T (.tup [xs[i], ys[i]])) S = some (.lst (ts.map V.ref)) := by rw [upd_ne (ne_of_none hS hTn)]; exact hS
    obtain ⟨zz, its, n, rv, hl', e⟩ := I1.lstM hS1
    have ST : S ≠ T := ne_of_none hS hTn
    show wpAny _ A.in1 (updateSeq S (·.push (.ref T)) >>= _) _ _ _
    refine wpAny_bind ?_
    have I2 := I1.lset (its' := its ++ [.ref T]) (ys := ts.map V.ref ++ [.ref T]) (f := (·.push (Value.ref T))) (t' := s.toks) hS1 e (by simp) (rv.append (.cons (show RelV (.ref T) (.ref T) from rfl) .nil)) (by rw [List.length_append, List.length_map, List.length_singleton]; omega)
    have st : ∀ b o, b ≠ S → H b = some o → (upd (upd H T (.tup [xs[i], ys[i]])) S (.lst (ts.map V.ref ++ [.ref T]))) b = some o := fun b o hb h => by rw [upd_ne hb, upd_ne (ne_of_none h hTn)]; exact h
    have sp : ∀ b ∈ [z, p, r, j1, j2], b ≠ S := fun b hb e => by have := (hf b hb).1; rw [e, hS] at this; cases this
    have kp : ∀ b o, b ≠ S → g.get? b = some o → (g.update S (Obj.mapSeq (·.push (Value.ref T)))).get? b = some o := fun b o hb e => (Heap.get?_update_other _ _ (Ne.symm hb)).trans e
    refine wpAny_updateSeq e rfl (wpAny_pure ⟨plainId_quiet F.plain_extend_loop _, ih (i + 1) _ _ t true tv (ts ++ [T]) (by omega) hlt I2 (fun b hb => (hf1 b hb).upd (sp b hb)) (kp _ _ (sp z (by simp)) z1) ?_ (kp _ _ (sp p (by simp)) p1) ?_ (itAt a1 fun o e => kp _ o (sp j1 (by simp)) e) (itAt a2 fun o e => kp _ o (sp j2 (by simp)) e) ?_ ?_ ?_ ?_ ?_ ?_⟩) (by simp; rw [← hl', List.length_map]; omega) (by simp; rw [← hl', List.length_map]; omega)
    · exact st t _ (ne_of ht hS (by intro z; cases z)) ht
    · obtain ⟨u, v, q⟩ := r1
      exact ⟨u, v, kp _ _ (sp r (by simp)) q⟩
    · exact hxs.step st hS
    · exact hys.step st hS
    · rw [upd_same, List.map_append]; rfl
    · rw [List.length_append, hl]; rfl
    · exact (hP.keep fun b v h => st b _ (ne_of h hS (by intro z; cases z)) h).snoc (by rw [hl]; exact hx) (by rw [hl]; exact hy) (by rw [upd_ne ST.symm]; exact upd_same)
    · intro s' H' ts' I' k' hS' hl'' hP'
      exact hR s' H' ts' I' (fun b o hb h => k' b o hb (st b o hb h)) hS' hl'' hP'
end
theorem zip_no_len : typeLookup (.type "zip") "__len__" = pure none := by rw [typeLookup_type, builtinLookup_eq_fast]; kernel_rfl
theorem zip_no_hint : typeLookup (.type "zip") "__length_hint__" = pure none := by rw [typeLookup_type, builtinLookup_eq_fast]; kernel_rfl
section
variable {X : Cx} {pins : List (Addr × Obj)} {σ : St} {H : Hp} {s : Shared} {z p r j1 j2 u1 u2 : Addr} {xs ys : List V}
/-- the loop from its begin: the zip has made no tuple yet -/
theorem ext_loopZ0 {A : Around} {R : Result → Shared → Prop} {res : Value} {S : Addr} (hh : A.handled = none) (D : Apart z p r j1 j2 u1 u2) (hlen : xs.length = ys.length) (hn : xs.length ≤ sizeLine)
    (I : Inv X pins σ H s) (hf : ∀ b ∈ [z, p, r, j1, j2], FpOk X pins H b) (hz : IsZip s.heap z p r .none) (hp : IsPair s.heap p (.ref j1) (.ref j2)) (hr : ∃ u v, IsPair s.heap r u v) (h1 : s.heap.IsTupleIter j1 u1 0) (h2 : s.heap.IsTupleIter j2 u2 0)
    (hxs : SqT X.K H u1 xs) (hys : SqT X.K H u2 ys) (hS : H S = some (.lst []))
    (hR : ∀ s' H' ts', Inv X pins σ H' s' → (∀ b o, b ≠ S → H b = some o → H' b = some o) → H' S = some (.lst (ts'.map V.ref)) → ts'.length = xs.length → Prs H' xs ys ts' → R (.ok (.ret res)) s') :
    codeAny (model X.prog X.w) A (.builtin "list.extend.loop" ⟨[.ref S, .ref z, res], []⟩) R s := by
  obtain ⟨ra, rb, hr⟩ := hr
  obtain ⟨its, rv, pl, _⟩ := I.tuple hxs
  obtain ⟨its2, rv2, pl2, _⟩ := I.tuple hys
  have l1 := rv.length
  have l2 := rv2.length
  have hT : s.TypeIs (.ref z) "zip" := ⟨_, hz, rfl⟩
  refine codeAny_builtin F.entry_extend_loop ?_
  rw [Around.under_plainId F.plain_extend_loop _]
  show wpAny _ A.in1 (pyNext (.ref z) >>= _) _ _ s
  refine wpAny_bind ?_
  unfold pyNext
  by_cases h0 : 0 < xs.length
  · have hx : xs[0]? = some xs[0] := List.getElem?_eq_getElem h0
    have hy : ys[0]? = some ys[0] := List.getElem?_eq_getElem (by omega)
    obtain ⟨vx, ex, rx⟩ := rv.get hx
    obtain ⟨vy, ey, ry⟩ := rv2.get hy
    refine wpAny_bind (wpAny_attempt (wpAny_callSpecial?_slot (name := Str.ofString "__next__") hT F.slot_zip_next (wpAny_call_entry F.slot_zip_next hT F.entry_zip_next
      (zipT_item D hz hp hr h1 h2 pl pl2 (by simpa using ex) (by simpa using ey) fun g a1 a2 a3 a4 a5 a6 a7 => wpAny_pure ?_) (F.args_zip_next_1 _))))
    have lt : ∀ c ∈ [z, p, r, j1, j2], c ≠ s.heap.objs.size := fun c hc e => by
      have : c < s.heap.objs.size := by
        simp only [List.mem_cons, List.not_mem_nil, or_false] at hc
        obtain ⟨_, q1, _⟩ := h1
        obtain ⟨_, q2, _⟩ := h2
        rcases hc with rfl | rfl | rfl | rfl | rfl
        · exact Heap.lt_size hz
        · exact Heap.lt_size hp
        · exact Heap.lt_size hr
        · exact Heap.lt_size q1
        · exact Heap.lt_size q2
      exact absurd this (by rw [e]; exact Nat.lt_irrefl _)
    have hTn : H s.heap.objs.size = none := I.fresh
    generalize hT0 : s.heap.objs.size = T at a1 a5 a6 hTn lt
    have I1 : Inv X pins σ (upd H T (.tup [xs[0], ys[0]])) { s with heap := g } := by
      refine I.turnedNew (t' := s.toks) (ch := [z, r, j1, j2]) (fun c o hc e => ?_) (fun c hc => hf c ?_) (by rw [hT0]; exact Nat.le_refl _) ⟨by show 2 ≤ sizeLine; decide, [vx, vy], .cons rx (.cons ry .nil), ⟨_, a5, rfl, 0, rfl⟩⟩
      · simp only [List.mem_cons, List.not_mem_nil, or_false, not_or] at hc
        exact a7 c o hc.1 hc.2.1 hc.2.2.1 hc.2.2.2 e
      · simp only [List.mem_cons, List.not_mem_nil, or_false] at hc ⊢
        rcases hc with rfl | rfl | rfl | rfl <;> simp
    have hS1 : (upd H T (.tup [xs[0], ys[0]])) S = some (.lst []) := by rw [upd_ne (ne_of_none hS hTn)]; exact hS
    obtain ⟨zz, its', n, rv', hl', e⟩ := I1.lstM hS1
    have ST : S ≠ T := ne_of_none hS hTn
    show wpAny _ A.in1 (updateSeq S (·.push (.ref T)) >>= _) _ _ _
    refine wpAny_bind ?_
    have I2 := I1.lset (its' := its' ++ [.ref T]) (ys := [] ++ [.ref T]) (f := (·.push (Value.ref T))) (t' := s.toks) hS1 e (by simp) (rv'.append (.cons (show RelV (.ref T) (.ref T) from rfl) .nil)) (by show 1 ≤ sizeLine; decide)
    have st : ∀ b o, b ≠ S → H b = some o → (upd (upd H T (.tup [xs[0], ys[0]])) S (.lst ([] ++ [.ref T]))) b = some o := fun b o hb h => by rw [upd_ne hb, upd_ne (ne_of_none h hTn)]; exact h
    have sp : ∀ b ∈ [z, p, r, j1, j2], b ≠ S := fun b hb e => by have := (hf b hb).1; rw [e, hS] at this; cases this
    have kp : ∀ b o, b ≠ S → g.get? b = some o → (g.update S (Obj.mapSeq (·.push (Value.ref T)))).get? b = some o := fun b o hb e => (Heap.get?_update_other _ _ (Ne.symm hb)).trans e
    have li : its'.length = 0 := by rw [← hl']; rfl
    refine wpAny_updateSeq e rfl (wpAny_pure ⟨plainId_quiet F.plain_extend_loop _, ext_loopZ (S := S) hh D hlen hn _ 1 _ _ T false [xs[0], ys[0]] [T] rfl h0 I2 (fun b hb => ((hf b hb).upd (lt b hb)).upd (sp b hb)) (kp _ _ (sp z (by simp)) a1) ?_ (kp _ _ (sp p (by simp)) (a7 _ _ D.pz D.pr D.pj1 D.pj2 hp)) ⟨vx, vy, kp _ _ (sp r (by simp)) a2⟩ (itAt a3 fun o e => kp _ o (sp j1 (by simp)) e) (itAt a4 fun o e => kp _ o (sp j2 (by simp)) e) (hxs.step st hS) (hys.step st hS) upd_same rfl ?_ ?_⟩) (by simp; omega) (by simp; omega)
    · rw [upd_ne ST.symm]; exact upd_same
    · have : Prs (upd (upd H T (.tup [xs[0], ys[0]])) S (.lst ([] ++ [.ref T]))) xs ys ([] ++ [T]) := Prs.snoc (fun j t e => by simp at e) hx hy (by rw [upd_ne ST.symm]; exact upd_same)
      exact this
    · intro s' H' ts' I' k' hS' hl'' hP'
      exact hR s' H' ts' I' (fun b o hb h => k' b o hb (st b o hb h)) hS' hl'' hP'
  · have e0 : xs.length = 0 := by omega
    refine wpAny_bind (wpAny_attempt (wpAny_callSpecial?_slot (name := Str.ofString "__next__") hT F.slot_zip_next (wpAny_call_entry F.slot_zip_next hT F.entry_zip_next
      (zipT_end hh D hz hp hr h1 h2 pl pl2 (.inl (by rw [List.getElem?_toArray]; exact List.getElem?_eq_none (by omega))) fun g e kk he => ?_) (F.args_zip_next_1 _))))
    obtain ⟨o, ho', hcl⟩ := he
    refine wpAny_bind (wpAny_isInstance (T := "StopIteration") (b := true) ⟨o, ho', hcl⟩ isSubtype_stop ?_)
    refine wpAny_pure (wpAny_pure (hR _ H [] (I.turnedAll (t' := s.toks) (ch := [z, r, j1, j2]) (fun c o hc e => ?_) (fun c hc => hf c ?_)) (fun _ _ _ h => h) hS e0.symm (fun j t e => by simp at e)))
    · simp only [List.mem_cons, List.not_mem_nil, or_false, not_or] at hc
      exact kk c o hc.1 hc.2.1 hc.2.2.1 hc.2.2.2 e
    · simp only [List.mem_cons, List.not_mem_nil, or_false] at hc ⊢
      rcases hc with rfl | rfl | rfl | rfl <;> simp
/-- list(z), z a zip over two tuples of one length -/
theorem call_list_zip {Q : Value → Shared → Prop} {E : Value → Shared → Prop} (hh : X.A.handled = none) (D : Apart z p r j1 j2 u1 u2) (hlen : xs.length = ys.length)
    (I : Inv X pins σ H s) (hf : ∀ b ∈ [z, p, r, j1, j2], FpOk X pins H b) (hz : IsZip s.heap z p r .none) (hp : IsPair s.heap p (.ref j1) (.ref j2)) (hr : ∃ u v, IsPair s.heap r u v) (h1 : s.heap.IsTupleIter j1 u1 0) (h2 : s.heap.IsTupleIter j2 u2 0)
    (hxs : SqT X.K H u1 xs) (hys : SqT X.K H u2 ys)
    (hQ : ∀ L s' H' ts', H L = none → Inv X pins σ H' s' → (∀ b o, H b = some o → H' b = some o) → H' L = some (.lst (ts'.map V.ref)) → ts'.length = xs.length → Prs H' xs ys ts' → Q (.ref L) s') :
    wpAny (model X.prog X.w) X.A (call (.type "list") [.ref z]) Q E s := by
  obtain ⟨its, rv, pl, hn⟩ := I.tuple hxs
  refine callType_codes (Q₁ := fun obj s₁ => obj = .ref s.heap.objs.size ∧ s₁ = { s with heap := s.heap.push { cls := .type "list", data := .seq #[] } }) F.called_list (F.typeCall_list_1 _) F.entry_list_init
    (code_list_new _ ⟨rfl, rfl⟩) fun obj s₁ h₁ => ?_
  obtain ⟨rfl, rfl⟩ := h₁
  have hS : (s.heap.push { cls := .type "list", data := .seq #[] }).get? s.heap.objs.size = some { cls := .type "list", data := .seq #[] } := Heap.get?_push_size _ rfl
  have I1 := I.lnew (ys := []) (its := []) (t' := s.toks) .nil (Nat.zero_le _)
  have hSn : H s.heap.objs.size = none := I.fresh
  have lt : ∀ c ∈ [z, p, r, j1, j2], c < s.heap.objs.size := fun c hc => by
    simp only [List.mem_cons, List.not_mem_nil, or_false] at hc
    obtain ⟨_, q1, _⟩ := h1
    obtain ⟨_, q2, _⟩ := h2
    obtain ⟨_, _, q3⟩ := hr
    rcases hc with rfl | rfl | rfl | rfl | rfl
    · exact Heap.lt_size hz
    · exact Heap.lt_size hp
    · exact Heap.lt_size q3
    · exact Heap.lt_size q1
    · exact Heap.lt_size q2
  generalize hSS : s.heap.objs.size = S at hS I1 hSn lt ⊢
  have k0 : ∀ b o, s.heap.get? b = some o → (s.heap.push { cls := .type "list", data := .seq #[] }).get? b = some o := fun b o e => Heap.get?_push_of_some _ e
  refine ⟨⟨_, hS, rfl⟩, F.args_list_init_2 _ _, ?_⟩
  show wpAny _ X.A.in1.in1 (do let old ← Builtin.List.listItems (.ref S); Builtin.List.listUpdate (.ref S) (fun _ => #[]); letGo old.toList.reverse; Builtin.List.listExtendWith (.ref S) (.ref z) .none) _ _ _
  refine wpAny_bind ?_
  unfold Builtin.List.listItems
  refine wpAny_bind (wpAny_seqItems hS rfl (wpAny_pure ?_))
  show wpAny _ X.A.in1.in1 (updateSeq S (fun _ => #[]) >>= fun _ => letGo (#[] : Array Value).toList.reverse >>= fun _ => Builtin.List.listExtendWith (.ref S) (.ref z) .none) _ _ _
  refine wpAny_bind (wpAny_updateSeq hS rfl ?_)
  have I2 := I1.lset (ys := []) (its' := []) (f := fun _ => (#[] : Array Value)) (t' := s.toks) upd_same hS rfl .nil (Nat.zero_le _)
  have hS₂ := Heap.get?_update_self (Obj.mapSeq (fun _ => (#[] : Array Value))) hS rfl
  refine wpAny_bind (wpAny_letGo ?_)
  unfold Builtin.List.listExtendWith
  have sp : ∀ b ∈ [z, p, r, j1, j2], b ≠ S := fun b hb => Nat.ne_of_lt (lt b hb)
  have hSz : S ≠ z := (sp z (by simp)).symm
  have oth : ∀ b o, b ≠ S → s.heap.get? b = some o → ((s.heap.push { cls := .type "list", data := .seq #[] }).update S (Obj.mapSeq (fun _ => (#[] : Array Value)))).get? b = some o := fun b o hb e => (Heap.get?_update_other _ _ (Ne.symm hb)).trans (k0 b o e)
  have hT : Shared.TypeIs { s with heap := (s.heap.push { cls := .type "list", data := .seq #[] }).update S (Obj.mapSeq (fun _ => (#[] : Array Value))) } (.ref z) "zip" := ⟨_, oth _ _ (sp z (by simp)) hz, rfl⟩
  refine wpAny_bind (wpAny_typeOf hT ?_)
  have g1 : Builtin.List.listSameRef (.ref S) (.ref z) = false := by simp [Builtin.List.listSameRef, hSz]
  have g2 : (Value.type "zip" == Value.type "list") = false := by decide
  have g3 : (Value.type "zip" == Value.type "tuple") = false := by decide
  simp only [g1, g2, g3, Bool.or_false, Bool.false_eq_true, if_false]
  refine wpAny_bind (wpAny_pyIter_zip (oth _ _ (sp z (by simp)) hz) ?_)
  refine wpAny_bind (wpAny_holding ?_)
  unfold Builtin.List.listLengthHint
  refine wpAny_bind (wpAny_specialOf hT zip_no_len ?_)
  show wpAny _ X.A.in1.in1 (specialOf (Value.ref z) (Str.ofString "__length_hint__") >>= _) _ _ _
  refine wpAny_bind (wpAny_specialOf hT zip_no_hint ?_)
  refine wpAny_pure ?_
  show wpAny _ X.A.in1.in1 (rule "list.extend.makes-room" >>= fun _ => Builtin.List.listTouch (.ref S) >>= fun _ =>
    again (.builtin "list.extend.loop" ⟨[.ref S, .ref z, .none], []⟩)) _ _ _
  refine wpAny_bind (wpAny_rule ?_)
  refine wpAny_bind ?_
  show wpAny _ X.A.in1.in1 (updateSeq S (·.push .none) >>= fun _ => updateSeq S (·.pop)) _ _ _
  refine wpAny_bind (wpAny_updateSeq hS₂ rfl ?_)
  have I3 := I2.lset (ys := [.non]) (its' := [.none]) (f := (·.push Value.none)) (t' := s.toks) upd_same hS₂ rfl (.cons rfl .nil) (by show 1 ≤ sizeLine; decide)
  have hS₃ := Heap.get?_update_self (Obj.mapSeq (·.push Value.none)) hS₂ rfl
  refine wpAny_updateSeq (hz := by seq_fits) hS₃ rfl ?_
  have I4 := I3.lset (ys := []) (its' := []) (f := (·.pop)) (t' := s.toks) upd_same hS₃ rfl .nil (Nat.zero_le _)
  have oth2 : ∀ b o, b ≠ S → s.heap.get? b = some o → ((((s.heap.push { cls := .type "list", data := .seq #[] }).update S (Obj.mapSeq (fun _ => (#[] : Array Value)))).update S (Obj.mapSeq (·.push Value.none))).update S (Obj.mapSeq (·.pop))).get? b = some o := fun b o hb e =>
    (Heap.get?_update_other _ _ (Ne.symm hb)).trans ((Heap.get?_update_other _ _ (Ne.symm hb)).trans (oth b o hb e))
  have st : ∀ b o, H b = some o → (upd (upd (upd (upd H S (.lst [])) S (.lst [])) S (.lst [.non])) S (.lst [])) b = some o := fun b o h => by
    have := ne_of_none h hSn
    rw [upd_ne this, upd_ne this, upd_ne this, upd_ne this]; exact h
  obtain ⟨ra, rb, hr⟩ := hr
  have sq : ∀ {a : Addr} {vs : List V}, SqT X.K H a vs → SqT X.K (upd (upd (upd (upd H S (.lst [])) S (.lst [])) S (.lst [.non])) S (.lst [])) a vs := fun h => by
    rcases h with (h | ⟨o, h⟩) | h
    · exact .inl (.inl (st _ _ h))
    · exact .inl (.inr ⟨o, st _ _ h⟩)
    · exact .inr h
  refine wpAny_pure ⟨plainId_quiet F.plain_extend_loop _, ext_loopZ0 (S := S) (A := X.A.in1) hh D hlen hn I4 (fun b hb => ((((hf b hb).upd (sp b hb)).upd (sp b hb)).upd (sp b hb)).upd (sp b hb)) (oth2 _ _ (sp z (by simp)) hz) (oth2 _ _ (sp p (by simp)) hp) ⟨ra, rb, oth2 _ _ (sp r (by simp)) hr⟩
    (itAt h1 fun o e => oth2 _ o (sp j1 (by simp)) e) (itAt h2 fun o e => oth2 _ o (sp j2 (by simp)) e) (sq hxs) (sq hys) upd_same fun s' H' ts' I' k' hS' hl' hP' => ?_⟩
  exact ⟨rfl, hQ S s' H' ts' hSn I' (fun b o h => k' b o (ne_of_none h hSn) (st b o h)) hS' hl' hP'⟩
end
end L2

set_option Elab.async false
set_option linter.all false
set_option maxRecDepth 100000
/-! list(zip(a, b)) as an expression -/
namespace L2
open PySem PySem.Spec PyProof.Rows
section
variable {X : Cx} {a b : Expr} {ta : TA} {p1 p2 pos1 pos2 : Pos}
def tLZ (K : PySem.W.Frag) (ta : TA) : TE := fun σ H Q => ta σ H fun vs H1 => ∃ (u1 u2 : Addr) (xs ys : List V), vs = [.ref u1, .ref u2] ∧ SqT K H1 u1 xs ∧ SqT K H1 u2 ys ∧ xs.length = ys.length ∧
  ∀ (L : Addr) (H' : Hp) (ts : List Addr), H1 L = none → Kp [] H1 H' → H' L = some (.lst (ts.map V.ref)) → ts.length = xs.length → Prs H' xs ys ts → Q (.ref L) H'
theorem pe_listzip (hc : X.calm = true) (hg : Gl X "list") (hm : X.mg "list" = none) (hg2 : Gl X "zip") (hm2 : X.mg "zip" = none) (ha : PA X [a, b] ta)
    (hs : starEach [a, b] X.env = [(false, eval a X.env), (false, eval b X.env)] := by rfl) (hs2 : starEach [b] X.env = [(false, eval b X.env)] := by rfl)
    (hz : starEach [.Call (.Name "zip" p2) [a, b] [] pos2] X.env = [(false, eval (.Call (.Name "zip" p2) [a, b] [] pos2) X.env)] := by rfl) :
    PE X (.Call (.Name "list" p1) [.Call (.Name "zip" p2) [a, b] [] pos2] [] pos1) (tLZ X.K ta) := by
  refine .mk ?_
  intro pins s σ H Q I h
  refine Call_ (ld_blt I hg hm boot_list (PyProof.Rows.callWith_type1 ?_ (by rw [hz]; rfl) rfl))
  rw [hz]
  refine Calls.spliced_cons ?_
  refine Call_ (ld_blt I hg2 hm2 boot_zip (PyProof.Rows.callWith_type1 (thn (ha pos2 pins s σ H _ I h) fun us s1 ⟨vs, H1, I1, r1, q1⟩ => ?_) (by rw [hs, hs2]) (by rw [hs2]; rfl)))
  obtain ⟨u1, u2, xs, ys, e, hx, hy, hl, q⟩ := q1
  subst e
  cases r1 with
  | cons r rr =>
    cases rr with
    | cons r' rr =>
      cases rr
      cases r
      cases r'
      obtain ⟨its, rv, pl, _⟩ := I1.tuple hx
      obtain ⟨its2, rv2, pl2, _⟩ := I1.tuple hy
      obtain ⟨o1, e1, _⟩ := id pl
      obtain ⟨o2, e2, _⟩ := id pl2
      refine call_zipT pl pl2 fun h' hz hp hr j1 j2 k => ?_
      refine Calls.spliced_nil ?_
      have I2 : Inv X pins σ H1 { s1 with heap := h' } := I1.kept (t' := s1.toks) k
      refine call_list_zip (I.ok.hd hc) (apart_new (Heap.lt_size e1) (Heap.lt_size e2)) hl I2 (fun c hc => ?_) hz hp ⟨_, _, hr⟩ j1 j2 hx hy fun L s' H' ts hL I' k' hS hl' hP => ⟨.ref L, H', I', rfl, q L H' ts hL (fun b o _ h => k' b o h) hS hl' hP⟩
      have hc' : s1.heap.objs.size ≤ c := by
        simp only [List.mem_cons, List.not_mem_nil, or_false] at hc
        rcases hc with rfl | rfl | rfl | rfl | rfl <;> first | exact Nat.le_refl _ | exact Nat.le_add_right _ _
      have f := I1.fpOk hc' (I1.hok.fresh hc')
      exact f
/-- a text turned round -/
theorem rv_str : SlB X (fun x H Q => ∃ z : Str, x = .str z ∧ z.length ≤ sizeLine ∧ ∀ y : Str, y.length ≤ z.length → Q (.str y) H) := by
  intro pins s σ H x v vs sl Q I rx hs ps h
  obtain ⟨z, rfl, hz, q⟩ := h
  obtain ⟨t, rfl⟩ := rx
  refine ⟨"str", _, F.slot_str_getitem.lookup, typeIs_str _ z t, ?_⟩
  obtain ⟨o, h1, h2, h3⟩ := hs
  cases ps with
  | int j t' =>
    refine wpAny_getItem_str_slice (l := none) (u := none) (st := some (-1, t')) ⟨o, h1, h2, h3⟩ rfl ?_
    unfold sliceMade slicePicked
    show (if ((-1 : Int) == 1 && (Builtin.Str.strSliceIndices none none (-1) z.length).length == z.length) = true then Made.val (.str z t) else .str ⟨((Builtin.Str.strSliceIndices none none (-1) z.length).filterMap (z.cps[·]?)).toArray⟩).post (EP X pins σ Q) s
    rw [if_neg (by rw [show ((-1 : Int) == 1) = false from rfl, Bool.false_and]; exact Bool.false_ne_true)]
    have hl : (Str.mk ((Builtin.Str.strSliceIndices none none (-1) z.length).filterMap (z.cps[·]?)).toArray).length ≤ z.length := by
      show ((Builtin.Str.strSliceIndices none none (-1) z.length).filterMap (z.cps[·]?)).toArray.size ≤ z.length
      rw [List.size_toArray]
      refine Nat.le_trans (List.length_filterMap_le _ _) ?_
      rw [picked_rev, List.length_map, List.length_range]
      exact Nat.le_refl _
    exact ⟨Nat.le_trans hl hz, .str _, H, I.tok _, ⟨_, rfl⟩, q _ hl⟩
end
end L2

set_option Elab.async false
set_option linter.all false
set_option maxRecDepth 100000
namespace L2
open PySem PySem.Spec PyProof.Rows
section
variable {X : Cx}
theorem op_eqNil (hu : X.A.units < cLine) : OpR X (compareOp .Eq) (fun x y H Q => ∃ a b xs, x = .ref a ∧ y = .ref b ∧ SqL X.K H a xs ∧ SqL X.K H b [] ∧ Q (.bl xs.isEmpty) H) := by
  intro pins s σ H x y v u Q I rx ry h
  obtain ⟨a, b, xs, rfl, rfl, ha, hb, q⟩ := h
  cases rx
  cases ry
  obtain ⟨its, rv, pl, hz⟩ := I.list ha
  obtain ⟨its2, rv2, pl2, hz2⟩ := I.list hb
  cases rv2
  cases xs with
  | nil =>
    cases rv
    exact SeqAt.eq_listAt (e := fun _ => true) pl.isList pl2.isList rfl hu (fun j h1 _ => absurd h1 (by simp)) ⟨.bl true, H, I, rfl, q⟩
  | cons x r =>
    cases rv with
    | cons r1 r2 => exact SeqAt.eq_list_lengthsAt pl.isList pl2.isList (by simp) hu ⟨.bl false, H, I, rfl, q⟩
end
end L2

set_option Elab.async false
set_option linter.all false
set_option maxRecDepth 100000
/-! KINDS as data -/
namespace Tg
open PySem L2

inductive Kd where
  | num (w : Int)
  | text
  | row (k : Kd)
  | rec_ (fs : List (Str × Kd))
  | pick (fs : List (Str × Kd))

mutual
def Kd.size : Kd → Int
  | .num w => w
  | .text => 1
  | .row _ => 1
  | .rec_ fs => (sizesF fs).sum
  | .pick fs => 1 + topOf (sizesF fs)
def sizesF : List (Str × Kd) → List Int
  | [] => []
  | (_, k) :: r => k.size :: sizesF r
end

mutual
def Kd.depth : Kd → Nat
  | .num _ => 1
  | .text => 1
  | .row k => k.depth + 1
  | .rec_ fs => depthF fs + 1
  | .pick fs => depthF fs + 1
def depthF : List (Str × Kd) → Nat
  | [] => 0
  | (_, k) :: r => max k.depth (depthF r)
end

mutual
def KIn (H : Hp) : V → Kd → Prop
  | v, .num w => ∃ a, v = .ref a ∧ H a = some (.tup [.str "num", .int w])
  | v, .text => ∃ a, v = .ref a ∧ H a = some (.tup [.str "text"])
  | v, .row k => ∃ a u, v = .ref a ∧ H a = some (.tup [.str "row", u]) ∧ KIn H u k
  | v, .rec_ fs => ∃ a f xs, v = .ref a ∧ H a = some (.tup [.str "rec", .ref f]) ∧ H f = some (.tup xs) ∧ FIn H xs fs
  | v, .pick fs => ∃ a f xs, v = .ref a ∧ H a = some (.tup [.str "pick", .ref f]) ∧ H f = some (.tup xs) ∧ FIn H xs fs
def FIn (H : Hp) : List V → List (Str × Kd) → Prop
  | xs, [] => xs = []
  | xs, (nm, k) :: r => ∃ p u ys, xs = .ref p :: ys ∧ H p = some (.tup [.str nm, u]) ∧ KIn H u k ∧ FIn H ys r
end
mutual
theorem KIn.mono {H H' : Hp} (t : Tp H H') : ∀ {k : Kd} {v : V}, KIn H v k → KIn H' v k
  | .num w, v, h => by
    unfold KIn at h ⊢
    obtain ⟨a, e, h⟩ := h
    exact ⟨a, e, t _ _ h⟩
  | .text, v, h => by
    unfold KIn at h ⊢
    obtain ⟨a, e, h⟩ := h
    exact ⟨a, e, t _ _ h⟩
  | .row k, v, h => by
    unfold KIn at h ⊢
    obtain ⟨a, u, e, h, q⟩ := h
    exact ⟨a, u, e, t _ _ h, KIn.mono t q⟩
  | .rec_ fs, v, h => by
    unfold KIn at h ⊢
    obtain ⟨a, f, xs, e, h, h2, q⟩ := h
    exact ⟨a, f, xs, e, t _ _ h, t _ _ h2, FIn.mono t q⟩
  | .pick fs, v, h => by
    unfold KIn at h ⊢
    obtain ⟨a, f, xs, e, h, h2, q⟩ := h
    exact ⟨a, f, xs, e, t _ _ h, t _ _ h2, FIn.mono t q⟩
theorem FIn.mono {H H' : Hp} (t : Tp H H') : ∀ {fs : List (Str × Kd)} {xs : List V}, FIn H xs fs → FIn H' xs fs
  | [], xs, h => by
    unfold FIn at h ⊢
    exact h
  | (nm, k) :: r, xs, h => by
    unfold FIn at h ⊢
    obtain ⟨p, u, ys, e, h, q, z⟩ := h
    exact ⟨p, u, ys, e, t _ _ h, KIn.mono t q, FIn.mono t z⟩
end
theorem FIn.length {H : Hp} : ∀ {fs : List (Str × Kd)} {xs : List V}, FIn H xs fs → xs.length = fs.length
  | [], xs, h => by unfold FIn at h; subst h; rfl
  | (nm, k) :: r, xs, h => by
    unfold FIn at h
    obtain ⟨p, u, ys, e, _, _, z⟩ := h
    rw [e, List.length_cons, List.length_cons, FIn.length z]
theorem FIn.get {H : Hp} : ∀ {fs : List (Str × Kd)} {xs : List V} {i : Nat} {x : V}, FIn H xs fs → xs[i]? = some x → ∃ p nm u k, x = .ref p ∧ H p = some (.tup [.str nm, u]) ∧ KIn H u k ∧ fs[i]? = some (nm, k)
  | [], xs, i, x, h, e => by unfold FIn at h; rw [h] at e; cases e
  | (nm, k) :: r, xs, i, x, h, e => by
    unfold FIn at h
    obtain ⟨p, u, ys, e1, h1, h2, z⟩ := h
    subst e1
    cases i with
    | zero => cases e; exact ⟨p, nm, u, k, rfl, h1, h2, rfl⟩
    | succ i => exact FIn.get (i := i) z e
theorem FIn.snoc {H : Hp} {nm : Str} {k : Kd} {p : Addr} {u : V} : ∀ {fs : List (Str × Kd)} {xs : List V}, FIn H xs fs → H p = some (.tup [.str nm, u]) → KIn H u k → FIn H (xs ++ [.ref p]) (fs ++ [(nm, k)])
  | [], xs, h, h1, h2 => by
    unfold FIn at h
    subst h
    show FIn H [.ref p] [(nm, k)]
    unfold FIn
    exact ⟨p, u, [], rfl, h1, h2, by unfold FIn; rfl⟩
  | (nm', k') :: r, xs, h, h1, h2 => by
    unfold FIn at h
    obtain ⟨q, u', ys, e1, g1, g2, z⟩ := h
    subst e1
    show FIn H (.ref q :: (ys ++ [.ref p])) ((nm', k') :: (r ++ [(nm, k)]))
    unfold FIn
    exact ⟨q, u', _, rfl, g1, g2, FIn.snoc z h1 h2⟩
theorem sizesF_map : ∀ fs : List (Str × Kd), sizesF fs = fs.map fun p => p.2.size
  | [] => by unfold sizesF; rfl
  | (_, k) :: r => by unfold sizesF; rw [List.map_cons, sizesF_map r]
theorem depthF_le : ∀ {fs : List (Str × Kd)} {p : Str × Kd}, p ∈ fs → p.2.depth ≤ depthF fs
  | (nm, k) :: r, p, h => by
    unfold depthF
    rcases List.mem_cons.mp h with rfl | h
    · exact Nat.le_max_left _ _
    · exact Nat.le_trans (depthF_le h) (Nat.le_max_right _ _)
theorem depthF_snoc {nm : Str} {k : Kd} : ∀ {fs : List (Str × Kd)} {n : Nat}, depthF fs ≤ n → k.depth ≤ n → depthF (fs ++ [(nm, k)]) ≤ n
  | [], n, _, h => by show depthF [(nm, k)] ≤ n; unfold depthF; unfold depthF; omega
  | (nm', k') :: r, n, h, h2 => by
    show depthF ((nm', k') :: (r ++ [(nm, k)])) ≤ n
    unfold depthF at h ⊢
    have := depthF_snoc (fs := r) (n := n) (nm := nm) (k := k) (by omega) h2
    omega
mutual
/-- a kind as the document tells it: widths, fields one to six, no name twice, names of one to eight small letters -/
def Kd.good : Kd → Prop
  | .num w => 1 ≤ w ∧ w ≤ 4
  | .text => True
  | .row k => k.good
  | .rec_ fs => goodF fs ∧ 1 ≤ fs.length ∧ fs.length ≤ 6 ∧ (fs.map (·.1)).Nodup
  | .pick fs => goodF fs ∧ 1 ≤ fs.length ∧ fs.length ≤ 6 ∧ (fs.map (·.1)).Nodup
def goodF : List (Str × Kd) → Prop
  | [] => True
  | (nm, k) :: r => (1 ≤ nm.length ∧ nm.length ≤ 8 ∧ ∀ c ∈ nm.cps.toList, 97 ≤ c ∧ c ≤ 122) ∧ k.good ∧ goodF r
end
end Tg

set_option Elab.async false
set_option linter.all false
set_option maxRecDepth 100000
/-! NAMES: the mathematics -/
namespace Tg
open PySem L2
def Lets (z : Str) : Prop := ∀ c ∈ z.cps.toList, 97 ≤ c ∧ c ≤ 122
def Nm (z : Str) : Prop := 1 ≤ z.length ∧ z.length ≤ 8 ∧ Lets z
theorem len_codes (z : Str) : z.cps.toList.length = z.length := by simp [Str.length]
theorem app_codes (x y : Str) : (x ++ y).cps.toList = x.cps.toList ++ y.cps.toList := by rw [Str.cps_append, Array.toList_append]
theorem app_len (x y : Str) : (x ++ y).length = x.length + y.length := by rw [← len_codes, app_codes, List.length_append, len_codes, len_codes]
theorem Lets.app {x y : Str} (a : Lets x) (b : Lets y) : Lets (x ++ y) := fun c h => by
  rw [app_codes] at h
  rcases List.mem_append.mp h with h | h
  · exact a c h
  · exact b c h
theorem Lets.cut {x y : Str} {lo hi : Option Int} (a : Lets x) (e : y.cps.toList = cutN x.cps.toList lo hi) : Lets y := fun c h => by
  rw [e] at h
  exact a c (List.mem_of_mem_drop (List.mem_of_mem_take h))
theorem cut_le {x y : Str} {lo hi : Option Int} (e : y.cps.toList = cutN x.cps.toList lo hi) : y.length ≤ x.length := by
  rw [← len_codes, ← len_codes, e]; exact cutN_length _ _ _
/-- x[:n] -/
theorem cut_head {x y : Str} {n : Int} (h : 0 ≤ n) (e : y.cps.toList = cutN x.cps.toList none (some n)) : y.length = min n.toNat x.length := by
  rw [← len_codes, e]
  unfold cutN
  have e1 : HT.sIx x.cps.toList.length x.cps.toList.length (some n) = min n.toNat x.cps.toList.length := by
    show (if n < 0 then _ else min n.toNat _) = _
    rw [if_neg (by omega)]
  rw [e1, HT.sIx_none, List.drop_zero, List.length_take, len_codes]
  omega
theorem lets_of {x : Str} (h : (x.cps.toList.all fun c => decide (97 ≤ c) && decide (c ≤ 122)) = true) : Lets x := fun c hc => by
  have q := List.all_eq_true.mp h c hc
  simpa using q
theorem nm_of {x : Str} (h : (decide (1 ≤ x.length) && decide (x.length ≤ 8) && x.cps.toList.all fun c => decide (97 ≤ c) && decide (c ≤ 122)) = true) : Nm x := by
  simp only [Bool.and_eq_true, decide_eq_true_eq] at h
  exact ⟨h.1.1, h.1.2, lets_of h.2⟩
abbrev abc : Str := "abcdefghijklmnopqrstuvwxyz"
theorem abc_len : abc.length = 26 := by decide +kernel
theorem abc_lets : Lets abc := lets_of (by decide +kernel)
theorem abc_at {r : Int} (h0 : 0 ≤ r) (h1 : r < 26) : ∃ c, atI abc.cps.toList r = some c ∧ 97 ≤ c ∧ c ≤ 122 := by
  have hl : abc.cps.toList.length = 26 := by rw [len_codes, abc_len]
  have hk : r.toNat < abc.cps.toList.length := by omega
  have e : r = ((r.toNat : Nat) : Int) := by omega
  have q : atI abc.cps.toList ((r.toNat : Nat) : Int) = some abc.cps.toList[r.toNat] := atI_nat (by rw [List.getElem?_eq_getElem hk] <;> rfl)
  rw [← e] at q
  exact ⟨_, q, abc_lets _ (List.getElem_mem hk)⟩
/-- an item of a list at a drawn place -/
theorem at_some {α : Type} {xs : List α} {r : Int} (h0 : 0 ≤ r) (h1 : r < xs.length) : ∃ x, atI xs r = some x ∧ x ∈ xs := by
  have hk : r.toNat < xs.length := by omega
  have e : r = ((r.toNat : Nat) : Int) := by omega
  have q : atI xs ((r.toNat : Nat) : Int) = some xs[r.toNat] := atI_nat (by rw [List.getElem?_eq_getElem hk] <;> rfl)
  rw [← e] at q
  exact ⟨_, q, List.getElem_mem hk⟩
theorem sub_len {α : Type} [BEq α] [LawfulBEq α] : ∀ {l m : List α}, l.Nodup → (∀ x ∈ l, x ∈ m) → l.length ≤ m.length
  | [], m, _, _ => Nat.zero_le _
  | x :: r, m, nd, h => by
    have hx := h x List.mem_cons_self
    have e := List.length_erase_of_mem hx
    have nd' := List.nodup_cons.mp nd
    have ih := sub_len (l := r) (m := m.erase x) nd'.2 fun y hy => by
      refine (List.mem_erase_of_ne ?_).mpr (h y (List.mem_cons_of_mem _ hy))
      rintro rfl
      exact nd'.1 hy
    have : 0 < m.length := List.length_pos_of_mem hx
    rw [List.length_cons]
    omega
abbrev spareL : List Str := ["z", "y", "x", "w", "v", "u", "t"]
theorem spare_nd : spareL.Nodup := by decide +kernel
theorem spare_nm : ∀ z ∈ spareL, Nm z := by
  intro z hz
  simp only [List.mem_cons, List.not_mem_nil, or_false] at hz
  rcases hz with rfl | rfl | rfl | rfl | rfl | rfl | rfl <;> exact nm_of (by decide +kernel)
theorem inV_strs {x : Str} : ∀ {ss : List Str}, inV (.str x) (ss.map V.str) = decide (x ∈ ss)
  | [] => by simp [inV]
  | y :: r => by
    have ih := inV_strs (x := x) (ss := r)
    unfold inV at ih ⊢
    rw [List.map_cons, List.any_cons, ih]
    show (y == x || decide (x ∈ r)) = decide (x ∈ y :: r)
    rw [Bool.eq_iff_iff]
    simp only [Bool.or_eq_true, beq_iff_eq, decide_eq_true_eq, List.mem_cons]
    constructor
    · rintro (h | h)
      · exact .inl h.symm
      · exact .inr h
    · rintro (h | h)
      · exact .inl h.symm
      · exact .inr h
theorem flat_strs (ss : List Str) : (ss.map V.str).all flatV = true := by
  rw [List.all_eq_true]
  intro x hx
  obtain ⟨z, _, rfl⟩ := List.mem_map.mp hx
  rfl
/-- the first of the candidates that is not taken -/
theorem fresh_name {z : Str} {ss : List Str} (hz : Nm z) (h6 : ss.length ≤ 6) : ∃ y r, ((z :: spareL).filter fun x => !decide (x ∈ ss)) = y :: r ∧ Nm y ∧ y ∉ ss := by
  cases e : ((z :: spareL).filter fun x => !decide (x ∈ ss)) with
  | nil =>
    exfalso
    have h : ∀ x ∈ spareL, x ∈ ss := fun x hx => by
      have q := List.filter_eq_nil_iff.mp e x (List.mem_cons_of_mem _ hx)
      simpa using q
    have := sub_len spare_nd h
    simp at this
    omega
  | cons y r =>
    have hy : y ∈ ((z :: spareL).filter fun x => !decide (x ∈ ss)) := by rw [e]; exact List.mem_cons_self
    obtain ⟨h1, h2⟩ := List.mem_filter.mp hy
    refine ⟨y, r, rfl, ?_, by simpa using h2⟩
    rcases List.mem_cons.mp h1 with rfl | h1
    · exact hz
    · exact spare_nm y h1
abbrev wordsL : List Str := ["num", "text", "row", "rec", "pick", "none", "low", "told"]
theorem words_nm : ∀ z ∈ wordsL, Nm z := by
  intro z hz
  simp only [List.mem_cons, List.not_mem_nil, or_false] at hz
  rcases hz with rfl | rfl | rfl | rfl | rfl | rfl | rfl | rfl <;> exact nm_of (by decide +kernel)
end Tg

set_option Elab.async false
set_option linter.all false
set_option maxRecDepth 100000
/-! numbers in words by the base 65536 -/
namespace Tg
def digs : Nat → Int → List Int
  | 0, _ => []
  | k + 1, n => n % 65536 :: digs k (n / 65536)
def val : List Int → Int
  | [] => 0
  | d :: ds => d + 65536 * val ds
theorem digs_len : ∀ (k : Nat) (n : Int), (digs k n).length = k
  | 0, _ => rfl
  | k + 1, n => by show (digs k (n / 65536)).length + 1 = _; rw [digs_len k]
theorem digs_mem : ∀ {k : Nat} {n d : Int}, d ∈ digs k n → 0 ≤ d ∧ d < 65536
  | k + 1, n, d, h => by
    rcases List.mem_cons.mp h with rfl | h
    · exact ⟨Int.emod_nonneg _ (by decide), Int.emod_lt_of_pos _ (by decide)⟩
    · exact digs_mem h
theorem val_digs : ∀ (k : Nat) (n : Int), val (digs k n) = n % 65536 ^ k
  | 0, n => by show (0 : Int) = n % 1; omega
  | k + 1, n => by
    show n % 65536 + 65536 * val (digs k (n / 65536)) = _
    rw [val_digs k, Int.pow_succ, Int.mul_comm (65536 ^ k) 65536]
    have h1 := Int.emod_add_mul_ediv n 65536
    have h2 := Int.emod_add_mul_ediv (n / 65536) (65536 ^ k)
    have h3 := Int.emod_add_mul_ediv n (65536 * 65536 ^ k)
    have h4 : n / (65536 * 65536 ^ k) = n / 65536 / 65536 ^ k := by rw [Int.ediv_ediv, if_neg (fun h => absurd h.1 (by decide)), Int.sub_zero]
    rw [h4, Int.mul_assoc] at h3
    have h5 : 65536 * (n / 65536) = 65536 * (n / 65536 % 65536 ^ k) + 65536 * (65536 ^ k * (n / 65536 / 65536 ^ k)) := by rw [← Int.mul_add, h2]
    omega
theorem pow_pos' (k : Nat) : (0 : Int) < 65536 ^ k := Int.pow_pos (by decide)
theorem back_ok {k : Nat} {n : Int} (h1 : -(65536 ^ k) ≤ 2 * n) (h2 : 2 * n < 65536 ^ k) : (if 2 * val (digs k n) ≥ 65536 ^ k then val (digs k n) - 65536 ^ k else val (digs k n)) = n := by
  rw [val_digs]
  have hp := pow_pos' k
  by_cases h : 0 ≤ n
  · rw [Int.emod_eq_of_lt h (by omega), if_neg (by omega)]
  · have e : n % 65536 ^ k = n + 65536 ^ k := by
      rw [← Int.add_emod_right, Int.emod_eq_of_lt (by omega) (by omega)]
    rw [e, if_pos (by omega)]
    omega
theorem due_ok {k : Nat} {n : Int} (h1 : -(65536 ^ k) ≤ 2 * n) (h2 : 2 * n < 65536 ^ k) : (if n < 0 then val (digs k n) - 65536 ^ k else val (digs k n)) = n := by
  rw [val_digs]
  have hp := pow_pos' k
  by_cases h : 0 ≤ n
  · rw [Int.emod_eq_of_lt h (by omega), if_neg (by omega)]
  · have e : n % 65536 ^ k = n + 65536 ^ k := by
      rw [← Int.add_emod_right, Int.emod_eq_of_lt (by omega) (by omega)]
    rw [e, if_pos (by omega)]
    omega
/-- Horner's way -/
def hor (l : List Int) : Int := l.foldl (fun a d => a * 65536 + d) 0
theorem hor_snoc (l : List Int) (d : Int) : hor (l ++ [d]) = hor l * 65536 + d := by
  unfold hor; rw [List.foldl_append]; rfl
theorem hor_rev : ∀ ws : List Int, hor ws.reverse = val ws
  | [] => rfl
  | d :: ds => by
    rw [List.reverse_cons, hor_snoc, hor_rev ds]
    show _ = d + 65536 * val ds
    omega
end Tg

set_option Elab.async false
set_option linter.all false
set_option maxRecDepth 100000
/-! THINGS of any form in the heap, and which are worths of a kind -/
namespace Tg
open PySem L2
/-- a thing whose form is known throughout -/
inductive Wf (H : Hp) : V → Prop
  | non : Wf H .non
  | bl (b : Bool) : Wf H (.bl b)
  | int (i : Int) : Wf H (.int i)
  | str {z : Str} (l : z.length ≤ 1000) (c : ∀ c ∈ z.cps.toList, c < 128) : Wf H (.str z)
  | tup {a : Addr} {vs : List V} (h : H a = some (.tup vs)) (q : ∀ x ∈ vs, Wf H x) : Wf H (.ref a)
  | lst {a : Addr} {vs : List V} (h : H a = some (.lst vs)) : Wf H (.ref a)
  | dic {a : Addr} (h : H a = some (.dK [])) : Wf H (.ref a)
/-- a thing of ints, texts and tuples alone, none of them long -/
inductive Wp (H : Hp) : V → Prop
  | int (i : Int) : Wp H (.int i)
  | str {z : Str} (l : z.length ≤ 100) (c : ∀ c ∈ z.cps.toList, c < 128) : Wp H (.str z)
  | tup {a : Addr} {vs : List V} (h : H a = some (.tup vs)) (l : vs.length ≤ 100) (q : ∀ x ∈ vs, Wp H x) : Wp H (.ref a)
theorem Wf.keep {H H' : Hp} (k : Kp [] H H') {v : V} (w : Wf H v) : Wf H' v := by
  induction w with
  | non => exact .non
  | bl b => exact .bl b
  | int i => exact .int i
  | str l c => exact .str l c
  | tup h q ih => exact .tup (k _ _ (by simp) h) ih
  | lst h => exact .lst (k _ _ (by simp) h)
  | dic h => exact .dic (k _ _ (by simp) h)
theorem Wp.mono {H H' : Hp} (t : Tp H H') {v : V} (w : Wp H v) : Wp H' v := by
  induction w with
  | int i => exact .int i
  | str l c => exact .str l c
  | tup h l q ih => exact .tup (t _ _ h) l ih
theorem Wp.wf {H : Hp} {v : V} (w : Wp H v) : Wf H v := by
  induction w with
  | int i => exact .int i
  | str l c => exact .str (Nat.le_trans l (by decide)) c
  | tup h l q ih => exact .tup h ih
/-- the items of a tuple -/
def tupAt (H : Hp) : V → Option (List V)
  | .ref a => match H a with | some (.tup vs) => some vs | _ => none
  | _ => none
theorem tupAt_of {H : Hp} {a : Addr} {vs : List V} (h : H a = some (.tup vs)) : tupAt H (.ref a) = some vs := by
  show (match H a with | some (.tup vs) => some vs | _ => none) = _
  rw [h]
theorem tupAt_lst {H : Hp} {a : Addr} {vs : List V} (h : H a = some (.lst vs)) : tupAt H (.ref a) = none := by
  show (match H a with | some (.tup vs) => some vs | _ => none) = _
  rw [h]
theorem tupAt_dic {H : Hp} {a : Addr} (h : H a = some (.dK [])) : tupAt H (.ref a) = none := by
  show (match H a with | some (.tup vs) => some vs | _ => none) = _
  rw [h]
theorem tupAt_keep {H H' : Hp} (k : Kp [] H H') {v : V} (w : Wf H v) : tupAt H' v = tupAt H v := by
  cases w with
  | tup h q => rw [tupAt_of h, tupAt_of (k _ _ (by simp) h)]
  | lst h => rw [tupAt_lst h, tupAt_lst (k _ _ (by simp) h)]
  | dic h => rw [tupAt_dic h, tupAt_dic (k _ _ (by simp) h)]
  | _ => rfl
theorem Wf.items {H : Hp} {v : V} {vs : List V} (w : Wf H v) (e : tupAt H v = some vs) : ∃ a, v = .ref a ∧ H a = some (.tup vs) ∧ ∀ x ∈ vs, Wf H x := by
  cases w with
  | tup h q => rw [tupAt_of h] at e; cases e; exact ⟨_, rfl, h, q⟩
  | lst h => rw [tupAt_lst h] at e; cases e
  | dic h => rw [tupAt_dic h] at e; cases e
  | _ => cases e
/-- a sign that a text may have -/
def okc (c : Nat) : Bool := decide (32 ≤ c) && decide (c ≤ 126) && !decide (c = 37)
mutual
def isW (H : Hp) : Kd → V → Bool
  | .num w, v => match v with | .int i => decide (-(65536 ^ w.toNat) ≤ 2 * i) && decide (2 * i < 65536 ^ w.toNat) | _ => false
  | .text, v => match v with | .str z => decide (z.length ≤ 60) && z.cps.toList.all okc | _ => false
  | .row k, v => match tupAt H v with | some vs => decide (vs.length ≤ 60) && vs.all (fun x => isW H k x) | none => false
  | .rec_ fs, v => match tupAt H v with | some vs => decide (vs.length = fs.length) && isR H fs vs | none => false
  | .pick fs, v => match tupAt H v with | some [.str n, x] => isP H fs n x | _ => false
def isR (H : Hp) : List (Str × Kd) → List V → Bool
  | [], _ => true
  | (_, _) :: _, [] => true
  | (_, k) :: r, x :: xs => isW H k x && isR H r xs
def isP (H : Hp) : List (Str × Kd) → Str → V → Bool
  | [], _, _ => false
  | (m, k) :: r, n, x => (decide (m = n) && isW H k x) || isP H r n x
end
mutual
theorem isW_keep {H H' : Hp} (kp : Kp [] H H') : ∀ (k : Kd) {v : V}, Wf H v → isW H' k v = isW H k v
  | .num w, v, _ => by unfold isW; rfl
  | .text, v, _ => by unfold isW; rfl
  | .row k, v, w => by
    unfold isW
    rw [tupAt_keep kp w]
    cases e : tupAt H v with
    | none => rfl
    | some vs =>
      obtain ⟨a, _, _, q⟩ := w.items e
      have : ∀ xs : List V, (∀ x ∈ xs, Wf H x) → xs.all (fun x => isW H' k x) = xs.all (fun x => isW H k x) := by
        intro xs
        induction xs with
        | nil => intro _; rfl
        | cons x r ih =>
          intro hq
          rw [List.all_cons, List.all_cons, ih fun y hy => hq y (List.mem_cons_of_mem _ hy), isW_keep kp k (hq x List.mem_cons_self)]
      show (decide (vs.length ≤ 60) && vs.all _) = (decide (vs.length ≤ 60) && vs.all _)
      rw [this vs q]
  | .rec_ fs, v, w => by
    unfold isW
    rw [tupAt_keep kp w]
    cases e : tupAt H v with
    | none => rfl
    | some vs =>
      obtain ⟨a, _, _, q⟩ := w.items e
      show (decide _ && isR H' fs vs) = (decide _ && isR H fs vs)
      rw [isR_keep kp fs q]
  | .pick fs, v, w => by
    unfold isW
    rw [tupAt_keep kp w]
    cases e : tupAt H v with
    | none => rfl
    | some vs =>
      obtain ⟨a, _, _, q⟩ := w.items e
      match vs, q with
      | [.str n, x], q => exact isP_keep kp fs (q x (by simp))
      | [], _ => rfl
      | [.non], _ => rfl
      | [.bl _], _ => rfl
      | [.int _], _ => rfl
      | [.str _], _ => rfl
      | [.byt _], _ => rfl
      | [.flt _], _ => rfl
      | [.ref _], _ => rfl
      | [.ty _], _ => rfl
      | .non :: _ :: _, _ => rfl
      | .bl _ :: _ :: _, _ => rfl
      | .int _ :: _ :: _, _ => rfl
      | .byt _ :: _ :: _, _ => rfl
      | .flt _ :: _ :: _, _ => rfl
      | .ref _ :: _ :: _, _ => rfl
      | .ty _ :: _ :: _, _ => rfl
      | .str _ :: _ :: _ :: _, _ => rfl
theorem isR_keep {H H' : Hp} (kp : Kp [] H H') : ∀ (fs : List (Str × Kd)) {vs : List V}, (∀ x ∈ vs, Wf H x) → isR H' fs vs = isR H fs vs
  | [], vs, _ => by unfold isR; rfl
  | (_, _) :: _, [], _ => by unfold isR; rfl
  | (_, k) :: r, x :: xs, q => by
    unfold isR
    rw [isW_keep kp k (q x List.mem_cons_self), isR_keep kp r fun y hy => q y (List.mem_cons_of_mem _ hy)]
theorem isP_keep {H H' : Hp} (kp : Kp [] H H') : ∀ (fs : List (Str × Kd)) {n : Str} {x : V}, Wf H x → isP H' fs n x = isP H fs n x
  | [], n, x, _ => by unfold isP; rfl
  | (m, k) :: r, n, x, w => by
    unfold isP
    rw [isW_keep kp k w, isP_keep kp r w]
end
/-! what isinstance says of such things -/
def isS : V → Bool
  | .str _ => true
  | _ => false
def isI : V → Bool
  | .int _ => true
  | .bl _ => true
  | _ => false
def isB : V → Bool
  | .bl _ => true
  | _ => false
section
variable {K : PySem.W.Frag} {H : Hp} {v : V}
theorem Wf.tyT (w : Wf H v) : ∃ t, TyOf K H v t ∧ PySem.W.kitOne K t (.type "tuple") = some (tupAt H v).isSome := by
  cases w with
  | non => exact ⟨_, .non, rfl⟩
  | bl b => exact ⟨_, .bl b, rfl⟩
  | int i => exact ⟨_, .int i, rfl⟩
  | str l c => exact ⟨_, .str _, rfl⟩
  | tup h q => exact ⟨_, .tup h, by rw [tupAt_of h]; rfl⟩
  | lst h => exact ⟨_, .lst h, by rw [tupAt_lst h]; rfl⟩
  | dic h => exact ⟨_, .dK h, by rw [tupAt_dic h]; rfl⟩
theorem Wf.tyS (w : Wf H v) : ∃ t, TyOf K H v t ∧ PySem.W.kitOne K t (.type "str") = some (isS v) := by
  cases w with
  | non => exact ⟨_, .non, rfl⟩
  | bl b => exact ⟨_, .bl b, rfl⟩
  | int i => exact ⟨_, .int i, rfl⟩
  | str l c => exact ⟨_, .str _, rfl⟩
  | tup h q => exact ⟨_, .tup h, rfl⟩
  | lst h => exact ⟨_, .lst h, rfl⟩
  | dic h => exact ⟨_, .dK h, rfl⟩
theorem Wf.tyI (w : Wf H v) : ∃ t, TyOf K H v t ∧ PySem.W.kitOne K t (.type "int") = some (isI v) := by
  cases w with
  | non => exact ⟨_, .non, rfl⟩
  | bl b => exact ⟨_, .bl b, rfl⟩
  | int i => exact ⟨_, .int i, rfl⟩
  | str l c => exact ⟨_, .str _, rfl⟩
  | tup h q => exact ⟨_, .tup h, rfl⟩
  | lst h => exact ⟨_, .lst h, rfl⟩
  | dic h => exact ⟨_, .dK h, rfl⟩
theorem Wf.tyB (w : Wf H v) : ∃ t, TyOf K H v t ∧ PySem.W.kitOne K t (.type "bool") = some (isB v) := by
  cases w with
  | non => exact ⟨_, .non, rfl⟩
  | bl b => exact ⟨_, .bl b, rfl⟩
  | int i => exact ⟨_, .int i, rfl⟩
  | str l c => exact ⟨_, .str _, rfl⟩
  | tup h q => exact ⟨_, .tup h, rfl⟩
  | lst h => exact ⟨_, .lst h, rfl⟩
  | dic h => exact ⟨_, .dK h, rfl⟩
end
end Tg

set_option Elab.async false
set_option linter.all false
set_option maxRecDepth 100000
set_option maxHeartbeats 4000000
namespace Tg
open PySem L2
def top (i : Nat) : Stmt := PySem.Challenge.pw_tonguegate_k03_kinds_at_paths.main.body.getD i (.Pass ⟨0, 0, 0, 0⟩)

section
variable {P : Program} {w : World} {K : PySem.W.Frag} {mg : Str → Option Value} {base : Heap} {f : Addr} {fd : FuncData}

/-! ### cell_at -/
abbrev s_law_cell_at : Stmt := top 21
theorem sc_law_cell_at : FnScope ["script", "k"] ["script", "k"] (defScope s_law_cell_at) := ⟨rfl, rfl, rfl, by decide +kernel, rfl, by decide +kernel, by decide +kernel⟩
def spCell (K : PySem.W.Frag) : Sp := fun vs H Q _ => ∃ (a : Addr) (ns : List Int) (k : Int), vs = [.ref a, .int k] ∧ SqL K H a (ns.map V.int) ∧ 0 ≤ k ∧ ∀ c : Int, Q (.int c) H
theorem ok_cell (F : Fun K "_law_cell_at" "_law_cell_at" s_law_cell_at f fd) (z_len : mg "len" = none) : FnOk P w K mg base CX0 1 f fd ["script", "k"] (spCell K) := by
  refine F.ok sc_law_cell_at (fun vs H Q E h => ?_) (fun cdv A outer s H vs Q E hr h => ?_)
  · obtain ⟨a, ns, k, rfl, _⟩ := h
    rfl
  obtain ⟨a, ns, k, rfl, hS, h0, q⟩ := h
  refine ⟨_, (pss_cons (ps_if (pt_cmpR op_lt (pv 1) (pe_callB call_len_seq rfl z_len PySem.boot_len (pa_cons (pv 0) pa_nil)) (nomark _)) (pss_cons (ps_ret (pe_ix ix_list (pv 0) (pv 1) (fun _ _ => rfl)))
    pss_nil) pss_nil)
    (pss_cons (ps_ret pe_int)
    pss_nil)), ?_⟩
  have hl : (ns.map V.int).length = ns.length := List.length_map _
  refine ⟨_, rfl, _, rfl, a, _, rfl, .inl hS, _, _, rfl, rfl, _, rfl, ?_⟩
  refine ite2 (fun c => ?_) (fun c => q 0)
  have c' : k < (((ns.map V.int).length : Nat) : Int) := of_decide_eq_true c
  rw [hl] at c'
  have hk : k.toNat < ns.length := by omega
  have ek : k = ((k.toNat : Nat) : Int) := by omega
  have e : atI (ns.map V.int) ((k.toNat : Nat) : Int) = some (.int ns[k.toNat]) := atI_nat (by rw [List.getElem?_map, List.getElem?_eq_getElem hk] <;> rfl)
  rw [← ek] at e
  exact ⟨_, rfl, _, rfl, a, _, _, _, rfl, rfl, hS, e, q _⟩

/-! ### flow -/
abbrev s_law_flow : Stmt := top 22
theorem sc_law_flow : FnScope ["cell", "mixed"] ["cell"] (defScope s_law_flow) := ⟨rfl, rfl, rfl, by decide +kernel, rfl, by decide +kernel, by decide +kernel⟩
/-- a flow: three ints -/
def Flow (H : Hp) (a : Addr) : Prop := ∃ f0 f1 f2 : Int, H a = some (.lst [.int f0, .int f1, .int f2]) ∧ 0 ≤ f0 ∧ 0 ≤ f1 ∧ f1 < 10 ^ 40 + 121
def spFlow : Sp := fun vs H Q _ => ∃ c : Int, vs = [.int c] ∧ ∀ (a : Addr) (H' : Hp), H a = none → Same H H' → Flow H' a → Q (.ref a) H'
theorem ok_flow (F : Fun K "_law_flow" "_law_flow" s_law_flow f fd) (z_max : mg "max" = none) : FnOk P w K mg base CX0 1 f fd ["cell"] spFlow := by
  refine F.ok sc_law_flow (fun vs H Q E h => ?_) (fun cdv A outer s H vs Q E hr h => ?_)
  · obtain ⟨c, rfl, _⟩ := h
    rfl
  obtain ⟨c, rfl, q⟩ := h
  refine ⟨_, (pss_cons (ps_set (i := 1) sc_law_flow.nd rfl (Or.inl rfl) (pe_op op_add (pe_op op_mul (pe_op op_mul (pv 0) pe_int) pe_int) pe_int))
    (pss_cons (ps_ret (pe_lst (pa_cons (pe_callB (call_max2 rfl) rfl z_max PyProof.Rows.boot_max (pa_cons pe_int (pa_cons (pe_op op_sub (pv 0) (pe_op op_pow pe_int pe_int)) pa_nil))) (pa_cons (pe_op op_mod (pv 1) (pe_op op_add (pe_op op_pow pe_int pe_int) pe_int)) (pa_cons pe_int pa_nil)))))
    pss_nil)), ?_⟩
  refine ⟨_, rfl, _, _, rfl, rfl, .inr ⟨by decide, by decide⟩, _, _, rfl, rfl, .inr ⟨by decide, by decide⟩, _, _, rfl, rfl, ?_⟩
  refine ⟨_, rfl, _, _, rfl, rfl, ⟨by decide, by decide, by decide⟩, _, _, rfl, rfl, _, _, rfl, ?_⟩
  refine ⟨_, rfl, _, _, rfl, rfl, ⟨by decide, by decide, by decide⟩, _, _, rfl, rfl, _, _, rfl, rfl, (by show (0 : Int) < 10 ^ Int.toNat 40 + 121; decide), ?_⟩
  refine ⟨by show 3 ≤ sizeLine; decide, fun p hp => ?_⟩
  refine q p _ hp (fun b o h => by rw [upd_ne (ne_of_none h hp)]; exact h) ⟨_, _, _, upd_same, ?_, ?_, ?_⟩
  · split <;> omega
  · exact Int.emod_nonneg _ (by decide)
  · exact Int.emod_lt_of_pos _ (by decide)

/-! ### draw -/
abbrev s_law_draw : Stmt := top 23
theorem sc_law_draw : FnScope ["flow", "many", "found"] ["flow", "many"] (defScope s_law_draw) := ⟨rfl, rfl, rfl, by decide +kernel, rfl, by decide +kernel, by decide +kernel⟩
def spDraw : Sp := fun vs H Q _ => ∃ (a : Addr) (m : Int), vs = [.ref a, .int m] ∧ Flow H a ∧ 0 < m ∧ m < 2 ^ 200 ∧ ∀ (r : Int) (H' : Hp), 0 ≤ r → r < m → Flow H' a → Kp [a] H H' → Q (.int r) H'
theorem atI0 {α : Type} {x : α} {r : List α} : atI (x :: r) 0 = some x := atI_nat (j := 0) rfl
theorem atI1 {α : Type} {x y : α} {r : List α} : atI (x :: y :: r) 1 = some y := atI_nat (j := 1) rfl
theorem atI2 {α : Type} {x y z : α} {r : List α} : atI (x :: y :: z :: r) 2 = some z := atI_nat (j := 2) rfl
theorem ok_draw (F : Fun K "_law_draw" "_law_draw" s_law_draw f fd) : FnOk P w K mg base CX0 1 f fd ["flow", "many"] spDraw := by
  refine F.ok sc_law_draw (fun vs H Q E h => ?_) (fun cdv A outer s H vs Q E hr h => ?_)
  · obtain ⟨a, m, rfl, _⟩ := h
    rfl
  obtain ⟨a, m, rfl, ⟨f0, f1, f2, hf, b0, b1, b2⟩, m0, m1, q⟩ := h
  refine ⟨_, (pss_cons (ps_if (pt_cmpR op_gt (pe_ix ix_list (pv 0) pe_int (fun _ _ => rfl)) pe_int (nomark _)) (pss_cons (ps_set (i := 2) sc_law_draw.nd rfl (Or.inl rfl) (pe_op op_mod (pe_ix ix_list (pv 0) pe_int (fun _ _ => rfl)) (pv 1)))
    (pss_cons (ps_asg (pe_op op_fdivG (pe_ix ix_list (pv 0) pe_int (fun _ _ => rfl)) (pv 1)) (pg_sub (pv 0) pe_int set_list (fun _ => rfl)))
    (pss_cons (ps_ret (pv 2))
    pss_nil))) pss_nil)
    (pss_cons (ps_asg (pe_op op_add (pe_ix ix_list (pv 0) pe_int (fun _ _ => rfl)) pe_int) (pg_sub (pv 0) pe_int set_list (fun _ => rfl)))
    (pss_cons (ps_asg (pe_op op_mod (pe_op op_add (pe_op op_mulB (pe_ix ix_list (pv 0) pe_int (fun _ _ => rfl)) (pe_ix ix_list (pv 0) pe_int (fun _ _ => rfl))) (pe_op op_mul (pe_ix ix_list (pv 0) pe_int (fun _ _ => rfl)) pe_int)) (pe_op op_add (pe_op op_pow pe_int pe_int) pe_int)) (pg_sub (pv 0) pe_int set_list (fun _ => rfl)))
    (pss_cons (ps_ret (pe_op op_mod (pe_op op_fdivG (pe_ix ix_list (pv 0) pe_int (fun _ _ => rfl)) pe_int) (pv 1)))
    pss_nil)))), ?_⟩
  have sq : SqL K H a [.int f0, .int f1, .int f2] := SqL.of hf
  refine ⟨_, rfl, a, _, _, _, rfl, rfl, sq, atI0, _, _, rfl, rfl, _, rfl, ?_⟩
  refine ite2 (fun c => ?_) (fun c => ?_)
  · refine ⟨_, rfl, a, _, _, _, rfl, rfl, sq, atI0, _, rfl, _, _, rfl, rfl, m0, ?_⟩
    refine ⟨_, rfl, a, _, _, _, rfl, rfl, sq, atI0, _, rfl, _, _, rfl, rfl, ⟨m0, m1⟩, _, rfl, a, _, _, _, rfl, rfl, hf, rfl, ?_⟩
    refine ⟨_, rfl, ?_⟩
    refine q _ _ (Int.emod_nonneg _ (by omega)) (Int.emod_lt_of_pos _ m0) ⟨_, _, _, upd_same, Int.ediv_nonneg b0 (by omega), b1, b2⟩ (Kp.set (by simp) _)
  · refine ⟨_, rfl, a, _, _, _, rfl, rfl, sq, atI2, _, _, rfl, rfl, _, rfl, a, _, _, _, rfl, rfl, hf, rfl, ?_⟩
    have sq2 : SqL K (upd H a (.lst ([.int f0, .int f1, .int f2].set 2 (.int (f2 + 1))))) a [.int f0, .int f1, .int (f2 + 1)] := SqL.of upd_same
    have n1 : f1.natAbs < 2 ^ 200 := Nat.lt_of_lt_of_le (by omega : f1.natAbs < 10 ^ 40 + 121) (by decide)
    refine ⟨_, rfl, a, _, _, _, rfl, rfl, sq2, atI1, _, rfl, a, _, _, _, rfl, rfl, sq2, atI1, _, _, rfl, rfl, ⟨n1, n1⟩, _, rfl, a, _, _, _, rfl, rfl, sq2, atI2, _, _, rfl, rfl, .inr ⟨by decide, by decide⟩, _, _, rfl, rfl, _, _, rfl, rfl, ⟨by decide, by decide, by decide⟩, _, _, rfl, rfl, _, _, rfl, rfl, (by show (0 : Int) < 10 ^ Int.toNat 40 + 121; decide), ?_⟩
    refine ⟨_, rfl, a, _, _, _, rfl, rfl, upd_same, rfl, ?_⟩
    refine ⟨_, rfl, a, _, _, _, rfl, rfl, SqL.of upd_same, atI1, _, _, rfl, rfl, ⟨by decide, by decide⟩, _, rfl, _, _, rfl, rfl, m0, ?_⟩
    refine q _ _ (Int.emod_nonneg _ (by omega)) (Int.emod_lt_of_pos _ m0) ⟨_, _, _, upd_same, b0, ?_, ?_⟩ ((Kp.set (by simp) _).trans (Kp.set (by simp) _))
    · exact Int.emod_nonneg _ (by decide)
    · exact Int.emod_lt_of_pos _ (by decide)
end
end Tg


set_option Elab.async false
set_option linter.all false
set_option maxRecDepth 100000
set_option maxHeartbeats 4000000
namespace Tg
open PySem L2
section
variable {P : Program} {w : World} {K : PySem.W.Frag} {mg : Str → Option Value} {base : Heap} {f : Addr} {fd : FuncData}
/-! ### name -/
abbrev s_law_name : Stmt := top 24
theorem sc_law_name : FnScope ["flow", "taken", "way", "name", "k", "old", "at", "some", "spare"] ["flow", "taken"] (defScope s_law_name) := ⟨rfl, rfl, rfl, by decide +kernel, rfl, by decide +kernel, by decide +kernel⟩
def spName : Sp := fun vs H Q _ => ∃ (a b : Addr) (ss : List Str), vs = [.ref a, .ref b] ∧ Flow H a ∧ H b = some (.lst (ss.map V.str)) ∧ ss.length ≤ 6 ∧ (∀ z ∈ ss, Nm z) ∧
  ∀ (z : Str) (H' : Hp), Nm z → z ∉ ss → Flow H' a → Kp [a] H H' → Q (.str z) H'
theorem Flow.ne {H : Hp} {a b : Addr} {ss : List Str} (h : Flow H a) (h' : H b = some (.lst (ss.map V.str))) : b ≠ a := by
  obtain ⟨f0, f1, f2, e, _⟩ := h
  refine ne_of h' e ?_
  intro z
  have z' := HO.lst.inj z
  cases ss with
  | nil => cases z'
  | cons x r => cases z'
theorem Flow.kp {H H' : Hp} {a : Addr} {l : List Addr} (h : Flow H a) (k : Kp l H H') (n : a ∉ l) : Flow H' a := by
  obtain ⟨f0, f1, f2, e, r⟩ := h
  exact ⟨f0, f1, f2, k a _ n e, r⟩
theorem Flow.some {H : Hp} {a : Addr} (h : Flow H a) : ∃ o, H a = .some o := by
  obtain ⟨f0, f1, f2, e, r⟩ := h
  exact ⟨_, e⟩
theorem Flow.new {H : Hp} {a p : Addr} {o : HO} (h : Flow H a) (n : H p = none) : Flow (upd H p o) a := by
  obtain ⟨f0, f1, f2, e, r⟩ := h
  exact ⟨f0, f1, f2, by rw [upd_ne (ne_of_none e n)]; exact e, r⟩
theorem ok_name (F : Fun K "_law_name" "_law_name" s_law_name f fd) (c_law_draw : Callee P w K mg base "_law_draw" 1 ["flow", "many"] spDraw)
    (z_len : mg "len" = none) (z_max : mg "max" = none) (z_range : mg "range" = none) : FnOk P w K mg base CX0 2 f fd ["flow", "taken"] spName := by
  refine F.ok sc_law_name (fun vs H Q E h => ?_) (fun cdv A outer s H vs Q E hr h => ?_)
  · obtain ⟨a, b, ss, rfl, _⟩ := h
    rfl
  obtain ⟨a, b, ss, rfl, fl, hb, h6, hnm, q⟩ := h
  refine ⟨_, (pss_cons (ps_set (i := 2) sc_law_name.nd rfl (Or.inl rfl) (pe_callC c_law_draw hr (by omega) rfl (pa_cons (pv 0) (pa_cons pe_int pa_nil))))
    (pss_cons (ps_set (i := 3) sc_law_name.nd rfl (Or.inl rfl) pe_str)
    (pss_cons (ps_for PassesOwn.never rfl (pi_range1 rfl z_range (pa_cons (pe_op op_add pe_int (pe_callC c_law_draw hr (by omega) rfl (pa_cons (pv 0) (pa_cons pe_int pa_nil)))) pa_nil)) (pg_name (i := 4) sc_law_name.nd rfl (Or.inl rfl)) (pss_cons (ps_set (i := 3) sc_law_name.nd rfl (Or.inl rfl) (pe_op op_add_str (pv 3) (pe_ix ix_str pe_str (pe_callC c_law_draw hr (by omega) rfl (pa_cons (pv 0) (pa_cons pe_int pa_nil))) (fun _ _ => rfl))))
    pss_nil))
    (pss_cons (ps_cut (ps_if (pt_cmpR op_eq (pv 2) pe_int (nomark _)) (pss_cons (ps_set (i := 3) sc_law_name.nd rfl (Or.inl rfl) (pe_ix ix_list (pe_lst (pa_cons pe_str (pa_cons pe_str (pa_cons pe_str (pa_cons pe_str (pa_cons pe_str (pa_cons pe_str (pa_cons pe_str (pa_cons pe_str pa_nil))))))))) (pe_callC c_law_draw hr (by omega) rfl (pa_cons (pv 0) (pa_cons pe_int pa_nil))) (fun _ _ => rfl)))
    pss_nil) pss_nil))
    (pss_cons (ps_cut (ps_if (PW.pt (pw_and (pt_cmpR (op_neNil hr.units0) (pv 1) (pe_lst pa_nil) (nomark _)) (pw_and (pt_cmpR op_le pe_int (pv 2) (nomark _)) (pw_and1 (pt_cmpR op_le (pv 2) pe_int (nomark _)))))) (pss_cons (ps_set (i := 5) sc_law_name.nd rfl (Or.inl rfl) (pe_ix ix_list (pv 1) (pe_callC c_law_draw hr (by omega) rfl (pa_cons (pv 0) (pa_cons (pe_callB call_len_seq rfl z_len PySem.boot_len (pa_cons (pv 1) pa_nil)) pa_nil))) (fun _ _ => rfl)))
    (pss_cons (ps_set (i := 6) sc_law_name.nd rfl (Or.inl rfl) (pe_callC c_law_draw hr (by omega) rfl (pa_cons (pv 0) (pa_cons (pe_op op_add (pe_callB call_len_str rfl z_len PySem.boot_len (pa_cons (pv 5) pa_nil)) pe_int) pa_nil))))
    (pss_cons (ps_set (i := 7) sc_law_name.nd rfl (Or.inl rfl) (pe_lst (pa_cons (pe_op op_add_str (pe_op op_add_str (pe_slice sl_str (pv 5) po_none (po_some (pv 6))) (pe_slice sl_str (pv 3) po_none (po_some pe_int))) (pe_slice sl_str (pv 5) (po_some (pe_op op_add (pv 6) pe_int)) po_none)) (pa_cons (pe_op op_add_str (pe_op op_add_str (pe_slice sl_str (pv 5) po_none (po_some (pv 6))) (pe_slice sl_str (pv 3) po_none (po_some pe_int))) (pe_slice sl_str (pv 5) (po_some (pv 6)) po_none)) (pa_cons (pe_slice sl_str (pv 5) po_none (po_some (pe_callB (call_max2 rfl) rfl z_max PyProof.Rows.boot_max (pa_cons pe_int (pa_cons (pv 6) pa_nil))))) (pa_cons (pe_op op_add_str (pv 3) (pv 5)) pa_nil))))))
    (pss_cons (ps_set (i := 3) sc_law_name.nd rfl (Or.inl rfl) (pe_slice sl_str (pe_ix ix_list (pv 7) (pe_op op_sub (pv 2) pe_int) (fun _ _ => rfl)) po_none (po_some pe_int)))
    pss_nil)))) pss_nil))
    (pss_cons (ps_comp (i := 8) (own := ["one"]) (cap := [(1, "taken")]) (compOkC rfl (by decide +kernel) (by decide +kernel) rfl (⟨rfl, trivial⟩) rfl (⟨⟨rfl, rfl, rfl⟩, trivial⟩)) rfl (pi_list (pe_lst (pa_cons (pv 3) (pa_cons pe_str (pa_cons pe_str (pa_cons pe_str (pa_cons pe_str (pa_cons pe_str (pa_cons pe_str (pa_cons pe_str pa_nil)))))))))) (fun _ _ _ _ => (pg_name (i := 0) (show List.Nodup (["one", "taken"] : List Str) from by decide +kernel) rfl (Or.inl rfl) (Or.inr rfl))) (fun _ _ _ _ => (pts_one (pt_cmpR (show OpR _ (compareOp .NotIn) (rIn K true) from op_notIn_seq) (pv 0) (pv 1) (by with_unfolding_all rfl)))) (fun _ _ _ _ => (pv 0)) sc_law_name.nd rfl rfl)
    (pss_cons (ps_ret (pe_ix ix_list (pv 8) pe_int (fun _ _ => rfl)))
    pss_nil))))))), ?_⟩
  have hba : b ≠ a := fl.ne hb
  have hbn : b ∉ [a] := by simpa using hba
  refine ⟨_, rfl, a, 8, rfl, fl, by decide, by decide, fun way H1 w0 w8 fl1 k1 => ?_⟩
  -- the letters
  refine ⟨_, rfl, a, 8, rfl, fl1, by decide, by decide, fun r2 H2 r0 r8 fl2 k2 => ?_⟩
  refine ⟨_, _, rfl, rfl, 1 + r2, rfl, by omega, by omega, ?_⟩
  refine for_range (fun i σ H' => ∃ o z, σ = [some (.ref a), some (.ref b), some (.int way), some (.str z), o, none, none, none, none] ∧ z.length = i ∧ Lets z ∧ Flow H' a ∧ Kp [a] H H') ?_ ?_ ?_
  · exact ⟨none, _, rfl, by decide, (fun c hc => nomatch (show c ∈ ([] : List Nat) from hc)), fl2, k1.trans k2⟩
  · rintro i σ H3 hi ⟨o, z, rfl, hz, hl, fl3, k3⟩
    refine ⟨_, rfl, _, rfl, a, 26, rfl, fl3, by decide, by decide, fun r4 H4 r40 r41 fl4 k4 => ?_⟩
    obtain ⟨c, hc, hc1⟩ := abc_at r40 r41
    refine ⟨_, _, c, rfl, rfl, (by show abc.length ≤ sizeLine; rw [abc_len]; decide), hc, _, _, rfl, rfl, ?_, ?_⟩
    · have : z.length + 1 ≤ sizeLine := by rw [hz]; have : i + 1 ≤ 1000 := by omega
                                           exact Nat.le_of_lt (small1000 this)
      exact this
    · refine ⟨_, _, rfl, ?_, hl.app (fun d hd => ?_), fl4, k3.trans k4⟩
      · rw [app_len, hz]; rfl
      · have hd' : d ∈ [c] := hd
        rw [List.mem_singleton.mp hd']; exact hc1
  rintro σ H3 ⟨o, z, rfl, hz, hl, fl3, k3⟩
  have hz1 : Nm z := ⟨by omega, by omega, hl⟩
  have hb3 := k3 b _ hbn hb
  -- a word in its place
  refine ⟨fun σ H' => ∃ z, σ = [some (.ref a), some (.ref b), some (.int way), some (.str z), o, none, none, none, none] ∧ Nm z ∧ Flow H' a ∧ Kp [a] H H', ?_, ?_⟩
  · refine ⟨_, rfl, rfl, _, rfl, ?_⟩
    refine ite2 (fun c => ?_) (fun c => ⟨z, rfl, hz1, fl3, k3⟩)
    refine ⟨by show 8 ≤ sizeLine; decide, fun p hp => ?_⟩
    refine ⟨_, rfl, a, 8, rfl, fl3.new hp, by decide, by decide, fun r4 H4 r40 r41 fl4 k4 => ?_⟩
    have hpa : p ∉ [a] := by
      obtain ⟨u, e⟩ := fl3.some
      simpa using (ne_of_none e hp).symm
    obtain ⟨x, hx, hm⟩ := at_some (xs := wordsL.map V.str) r40 (by simpa using r41)
    obtain ⟨y, hy, rfl⟩ := List.mem_map.mp hm
    exact ⟨p, _, _, _, rfl, rfl, SqL.of (k4 p _ hpa upd_same), hx, y, rfl, words_nm y hy, fl4, (k3.trans (Kp.new hp _)).trans k4⟩
  rintro σ H5 ⟨z5, rfl, nm5, fl5, k5⟩
  have hb5 := k5 b _ hbn hb
  -- near a taken one
  refine ⟨fun σ H' => ∃ z o5 o6 o7, σ = [some (.ref a), some (.ref b), some (.int way), some (.str z), o, o5, o6, o7, none] ∧ Nm z ∧ Flow H' a ∧ Kp [a] H H', ?_, ?_⟩
  · have sz : ∀ n : Nat, n ≤ 1000 → n ≤ sizeLine := fun n h => Nat.le_of_lt (small1000 h)
    have stay : ∀ {p : Addr} {o' : HO}, H5 p = none → Kp [a] H (upd H5 p o') := fun hp => k5.trans (Kp.new hp _)
    refine ⟨_, rfl, by show 0 ≤ sizeLine; decide, fun p hp => ⟨b, p, _, rfl, rfl, SqL.of (by rw [upd_ne (ne_of_none hb5 hp)]; exact hb5), SqL.of upd_same, _, rfl, ?_⟩⟩
    have flp : Flow (upd H5 p (.lst [])) a := fl5.new hp
    refine ite2 (fun c1 => ?_) (fun c1 => iteF ⟨z5, none, none, none, rfl, nm5, flp, stay hp⟩)
    refine ⟨_, rfl, _, _, rfl, rfl, _, rfl, ?_⟩
    refine ite2 (fun c2 => ?_) (fun c2 => iteF ⟨z5, none, none, none, rfl, nm5, flp, stay hp⟩)
    refine ⟨_, rfl, _, _, rfl, rfl, _, rfl, ?_⟩
    refine ite2 (fun c3 => ?_) (fun c3 => ⟨z5, none, none, none, rfl, nm5, flp, stay hp⟩)
    have w1 : (1 : Int) ≤ way := of_decide_eq_true c2
    have w4 : way ≤ 4 := of_decide_eq_true c3
    have hss : 0 < ss.length := by
      cases ss with
      | nil => exact absurd c1 (by decide)
      | cons x r => exact Nat.succ_pos _
    have hbp : (upd H5 p (.lst [])) b = some (.lst (ss.map V.str)) := by rw [upd_ne (ne_of_none hb5 hp)]; exact hb5
    have kp0 : Kp [a] H (upd H5 p (.lst [])) := stay hp
    generalize upd H5 p (.lst []) = Hp0 at hbp kp0 flp ⊢
    -- old
    refine ⟨_, rfl, _, rfl, _, rfl, b, _, rfl, .inl (SqL.of hbp), a, _, rfl, flp, (by show (0 : Int) < ((ss.map V.str).length : Nat); rw [List.length_map]; omega), (by show (((ss.map V.str).length : Nat) : Int) < 2 ^ 200; rw [List.length_map]; omega), fun r7 H7 r70 r71 fl7 k7 => ?_⟩
    obtain ⟨x, hx, hm⟩ := at_some r70 r71
    obtain ⟨y, hy, rfl⟩ := List.mem_map.mp hm
    have nmy := hnm y hy
    have hb7 := k7 b _ hbn hbp
    refine ⟨b, _, _, _, rfl, rfl, SqL.of hb7, hx, ?_⟩
    -- at
    refine ⟨_, rfl, _, rfl, y, rfl, sz _ (by have := nmy.2.1; omega), _, _, rfl, rfl, a, _, rfl, fl7, (by show (0 : Int) < (y.length : Int) + 1; omega), (by have := nmy.2.1; show (y.length : Int) + 1 < 2 ^ 200; omega), fun r8 H8 r80 r81 fl8 k8 => ?_⟩
    have ly : y.length ≤ sizeLine := sz _ (by have := nmy.2.1; omega)
    have lz : z5.length ≤ sizeLine := sz _ (by have := nm5.2.1; omega)
    have l8 := nmy.2.1
    have z8 := nm5.2.1
    have ny := nmy.1
    have nz := nm5.1
    -- some
    refine ⟨_, rfl, _, rfl, _, rfl, y, rfl, ly, fun s1 e1 => ?_⟩
    refine ⟨_, rfl, _, rfl, z5, rfl, lz, fun s2 e2 => ?_⟩
    have q1 := cut_le e1
    have q2 := cut_le e2
    refine ⟨_, _, rfl, rfl, sz _ (by omega), ?_⟩
    refine ⟨_, rfl, _, rfl, _, _, rfl, rfl, _, rfl, y, rfl, ly, fun s3 e3 => ?_⟩
    have q3 := cut_le e3
    refine ⟨_, _, rfl, rfl, sz _ (by rw [app_len]; omega), ?_⟩
    refine ⟨_, rfl, _, rfl, _, rfl, y, rfl, ly, fun s4 e4 => ?_⟩
    refine ⟨_, rfl, _, rfl, z5, rfl, lz, fun s5 e5 => ?_⟩
    have q4 := cut_le e4
    have q5 := cut_le e5
    refine ⟨_, _, rfl, rfl, sz _ (by omega), ?_⟩
    refine ⟨_, rfl, _, rfl, _, rfl, y, rfl, ly, fun s6 e6 => ?_⟩
    have q6 := cut_le e6
    refine ⟨_, _, rfl, rfl, sz _ (by rw [app_len]; omega), ?_⟩
    refine ⟨_, rfl, _, rfl, _, _, rfl, _, rfl, y, rfl, ly, fun s7 e7 => ?_⟩
    refine ⟨_, rfl, _, rfl, _, _, rfl, rfl, sz _ (by omega), ?_⟩
    refine ⟨by show 4 ≤ sizeLine; decide, fun p2 hp2 => ?_⟩
    have h2 := cut_head (by decide : (0 : Int) ≤ 1) e2
    have h5 := cut_head (by decide : (0 : Int) ≤ 1) e5
    have h7 := cut_head (by split <;> omega) e7
    have good : ∀ x ∈ [s1 ++ s2 ++ s3, s4 ++ s5 ++ s6, s7, z5 ++ y], 1 ≤ x.length ∧ x.length ≤ 24 ∧ Lets x := by
      intro x hx
      simp only [List.mem_cons, List.not_mem_nil, or_false] at hx
      rcases hx with rfl | rfl | rfl | rfl
      · refine ⟨?_, ?_, ((nmy.2.2.cut e1).app (nm5.2.2.cut e2)).app (nmy.2.2.cut e3)⟩
        · rw [app_len, app_len, h2]; omega
        · rw [app_len, app_len]; omega
      · refine ⟨?_, ?_, ((nmy.2.2.cut e4).app (nm5.2.2.cut e5)).app (nmy.2.2.cut e6)⟩
        · rw [app_len, app_len, h5]; omega
        · rw [app_len, app_len]; omega
      · refine ⟨?_, ?_, nmy.2.2.cut e7⟩
        · rw [h7]; split <;> omega
        · have := cut_le e7; omega
      · refine ⟨?_, ?_, nm5.2.2.app nmy.2.2⟩
        · rw [app_len]; omega
        · rw [app_len]; omega
    obtain ⟨v, hv, hvm⟩ := at_some (xs := [s1 ++ s2 ++ s3, s4 ++ s5 ++ s6, s7, z5 ++ y].map V.str) (r := way - 1) (by omega) (by show way - 1 < 4; omega)
    obtain ⟨u, hu, rfl⟩ := List.mem_map.mp hvm
    obtain ⟨g1, g2, g3⟩ := good u hu
    refine ⟨_, rfl, _, rfl, _, _, rfl, rfl, p2, _, _, _, rfl, rfl, SqL.of upd_same, hv, _, rfl, u, rfl, sz _ (by omega), fun t9 e9 => ?_⟩
    have h9 := cut_head (by decide : (0 : Int) ≤ 8) e9
    exact ⟨t9, _, _, _, rfl, ⟨by rw [h9]; have : (8 : Int).toNat = 8 := rfl; omega, by rw [h9]; have : (8 : Int).toNat = 8 := rfl; omega, g3.cut e9⟩, fl8.new hp2, ((kp0.trans k7).trans k8).trans (Kp.new hp2 _)⟩
  rintro σ H6 ⟨z6, o5, o6, o7, rfl, nm6, fl6, k6⟩
  have hb6 := k6 b _ hbn hb
  -- the spare ones
  refine ⟨_, rfl, by show 8 ≤ sizeLine; decide, fun p hp => ?_⟩
  have hbp : (upd H6 p (.lst ((z6 :: spareL).map V.str))) b = some (.lst (ss.map V.str)) := by rw [upd_ne (ne_of_none hb6 hp)]; exact hb6
  have flp : Flow (upd H6 p (.lst ((z6 :: spareL).map V.str))) a := fl6.new hp
  have kpp : Kp [a] H (upd H6 p (.lst ((z6 :: spareL).map V.str))) := k6.trans (Kp.new hp _)
  have hpp : (upd H6 p (.lst ((z6 :: spareL).map V.str))) p = some (.lst ((z6 :: spareL).map V.str)) := upd_same
  refine ⟨p, rfl, ⟨_, SqL.of hpp⟩, ?_⟩
  intro D hD
  have hD : (upd H6 p (.lst ((z6 :: spareL).map V.str))) D = none := hD
  refine comp_list (K := K) (xs := (z6 :: spareL).map V.str) (fun i σ' ys H' => ∃ o', σ' = [o', some (.ref b)] ∧ ys = (((z6 :: spareL).take i).filter fun x => !decide (x ∈ ss)).map V.str ∧ H' = upd (upd H6 p (.lst ((z6 :: spareL).map V.str))) D (.lst ys)) ?_ ?_ ?_ ?_ ?_
  · exact ⟨none, rfl, rfl, rfl⟩
  · rintro i σ' ys H' hi ⟨o', rfl, rfl, rfl⟩
    refine ⟨upd_same, ?_, SqL.of (by rw [upd_ne (ne_of_none hpp hD)]; exact hpp)⟩
    rw [List.length_map]
    refine Nat.le_trans (List.length_filter_le _ _) ?_
    rw [List.length_take]
    exact Nat.min_le_left _ _
  · show 8 ≤ sizeLine
    decide
  · rintro i x σ' ys H' hx ⟨o', rfl, rfl, rfl⟩
    rw [List.getElem?_map] at hx
    cases hy : (z6 :: spareL)[i]? with
    | none => rw [hy] at hx; cases hx
    | some y =>
      rw [hy] at hx
      cases hx
      have hb8 : (upd (upd H6 p (.lst ((z6 :: spareL).map V.str))) D (.lst ((((z6 :: spareL).take i).filter fun x => !decide (x ∈ ss)).map V.str))) b = some (.lst (ss.map V.str)) := by rw [upd_ne (ne_of_none hbp hD)]; exact hbp
      refine ⟨_, rfl, _, rfl, b, _, rfl, .inl (SqL.of hb8), rfl, flat_strs ss, _, rfl, ?_⟩
      have tk : (z6 :: spareL).take (i + 1) = (z6 :: spareL).take i ++ [y] := by rw [List.take_add_one, hy]; rfl
      show if (!inV (.str y) (ss.map V.str)) = true then _ else _
      rw [inV_strs]
      refine ite2 (fun c => ?_) (fun c => ?_)
      · refine ⟨_, rfl, upd_same, _, rfl, ?_, ?_⟩
        · rw [tk, List.filter_append, List.map_append]
          simp only [List.filter_cons, c, if_true, List.filter_nil, List.map_cons, List.map_nil]
        · rw [upd_upd]
      · refine ⟨_, rfl, ?_, rfl⟩
        rw [tk, List.filter_append, List.map_append]
        have c' : (!decide (y ∈ ss)) = false := Bool.eq_false_iff.mpr c
        simp only [List.filter_cons, c', Bool.false_eq_true, if_false, List.filter_nil, List.map_nil, List.append_nil]
  · rintro σ' ys H' ⟨o', rfl, rfl, rfl⟩
    obtain ⟨y, r, e, ny, ns⟩ := fresh_name nm6 h6
    have e8 : (((z6 :: spareL).take ((z6 :: spareL).map V.str).length).filter fun x => !decide (x ∈ ss)) = y :: r := by rw [List.length_map, List.take_length]; exact e
    rw [e8]
    refine ⟨_, rfl, D, _, _, _, rfl, rfl, SqL.of upd_same, atI0, ?_⟩
    exact q y _ ny ns (flp.new hD) (kpp.trans (Kp.new hD _))
end
end Tg

set_option Elab.async false
set_option linter.all false
set_option maxRecDepth 100000
set_option maxHeartbeats 4000000
namespace Tg
open PySem L2
section
variable {P : Program} {w : World} {K : PySem.W.Frag} {mg : Str → Option Value} {base : Heap} {f : Addr} {fd : FuncData}
/-! ### kind -/
abbrev s_law_kind : Stmt := top 25
theorem sc_law_kind : FnScope ["flow", "depth", "room", "word", "many", "deepest", "names", "fields", "k", "below"] ["flow", "depth", "room"] (defScope s_law_kind) := ⟨rfl, rfl, rfl, by decide +kernel, rfl, by decide +kernel, by decide +kernel⟩
/-- a list of one int -/
def One (H : Hp) (b : Addr) : Prop := ∃ r : Int, H b = some (.lst [.int r])
theorem One.ne {H : Hp} {a b : Addr} (h : Flow H a) (h' : One H b) : b ≠ a := by
  obtain ⟨f0, f1, f2, e, _⟩ := h
  obtain ⟨r, e'⟩ := h'
  exact ne_of e' e (by intro z; have z' := HO.lst.inj z; cases z')
theorem One.kp {H H' : Hp} {b : Addr} {l : List Addr} (h : One H b) (k : Kp l H H') (n : b ∉ l) : One H' b := by
  obtain ⟨r, e⟩ := h
  exact ⟨r, k b _ n e⟩
theorem One.new {H : Hp} {b p : Addr} {o : HO} (h : One H b) (n : H p = none) : One (upd H p o) b := by
  obtain ⟨r, e⟩ := h
  exact ⟨r, by rw [upd_ne (ne_of_none e n)]; exact e⟩
theorem tp_set {H : Hp} {p : Addr} {xs : List V} (h : H p = some (.lst xs)) (o : HO) : Tp H (upd H p o) := fun b ys q => by
  rw [upd_ne (ne_of q h (by intro z; cases z))]; exact q
theorem tp_new {H : Hp} {p : Addr} (h : H p = none) (o : HO) : Tp H (upd H p o) := fun b ys q => by rw [upd_ne (ne_of_none q h)]; exact q
theorem Flow.tp {H H' : Hp} {a : Addr} (h : Flow H a) (k : Kp [a] H H') : Tp H H' := k.tp fun b hb xs e => by
  obtain ⟨f0, f1, f2, e', _⟩ := h
  rw [List.mem_singleton.mp hb, e'] at e
  cases e
theorem Flow.tp2 {H H' : Hp} {a b : Addr} (h : Flow H a) (h' : One H b) (k : Kp [a, b] H H') : Tp H H' := k.tp fun c hb xs e => by
  obtain ⟨f0, f1, f2, e', _⟩ := h
  obtain ⟨r, e2⟩ := h'
  rcases List.mem_cons.mp hb with rfl | hb
  · rw [e'] at e; cases e
  · rw [List.mem_singleton.mp hb, e2] at e; cases e
def spKind (n : Nat) : Sp := fun vs H Q _ => ∃ (a b : Addr) (d : Int), vs = [.ref a, .int d, .ref b] ∧ Flow H a ∧ One H b ∧ 1 ≤ d ∧ d < n ∧ d ≤ 10 ∧
  ∀ (v : V) (k : Kd) (H' : Hp), KIn H' v k → k.good → k.depth ≤ d.toNat → Flow H' a → One H' b → Kp [a, b] H H' → Q v H'
theorem goodF_snoc {nm : Str} {k : Kd} (h1 : Nm nm) (h2 : k.good) : ∀ {fs : List (Str × Kd)}, goodF fs → goodF (fs ++ [(nm, k)])
  | [], _ => by show goodF [(nm, k)]; unfold goodF; exact ⟨⟨h1.1, h1.2.1, h1.2.2⟩, h2, by unfold goodF; trivial⟩
  | (n', k') :: r, h => by
    show goodF ((n', k') :: (r ++ [(nm, k)]))
    unfold goodF at h ⊢
    exact ⟨h.1, h.2.1, goodF_snoc h1 h2 h.2.2⟩
theorem nodup_snoc {α : Type} {xs : List α} {x : α} (h : xs.Nodup) (n : x ∉ xs) : (xs ++ [x]).Nodup := by
  rw [List.nodup_append]
  exact ⟨h, by simp, fun a ha b hb => by rw [List.mem_singleton.mp hb]; rintro rfl; exact n ha⟩
theorem ok_kind {n : Nat} (F : Fun K "_law_kind" "_law_kind" s_law_kind f fd) (c_law_draw : Callee P w K mg base "_law_draw" 1 ["flow", "many"] spDraw) (c_law_name : Callee P w K mg base "_law_name" 2 ["flow", "taken"] spName)
    (c_law_kind : Callee P w K mg base "_law_kind" (2 + n) ["flow", "depth", "room"] (spKind n))
    (z_range : mg "range" = none) (z_tuple : mg "tuple" = none) : FnOk P w K mg base CX0 (2 + n + 1) f fd ["flow", "depth", "room"] (spKind (n + 1)) := by
  refine F.ok sc_law_kind (fun vs H Q E h => ?_) (fun cdv A outer s H vs Q E hr h => ?_)
  · obtain ⟨a, b, d, rfl, _⟩ := h
    rfl
  obtain ⟨a, b, d, rfl, fl, on, d1, dn, d10, q⟩ := h
  refine ⟨_, (pss_cons (ps_if (pt_cmpR op_lt (pv 1) pe_int (nomark _)) (pss_cons (ps_if (pt_cmpR op_eq (pe_callC c_law_draw hr (by omega) rfl (pa_cons (pv 0) (pa_cons pe_int pa_nil))) pe_int (nomark _)) (pss_cons (ps_ret (pe_tup (pa_cons pe_str pa_nil)))
    pss_nil) pss_nil)
    (pss_cons (ps_ret (pe_tup (pa_cons pe_str (pa_cons (pe_op op_add pe_int (pe_callC c_law_draw hr (by omega) rfl (pa_cons (pv 0) (pa_cons pe_int pa_nil)))) pa_nil))))
    pss_nil)) pss_nil)
    (pss_cons (ps_set (i := 3) sc_law_kind.nd rfl (Or.inl rfl) (pe_ix ix_list (pe_lst (pa_cons pe_str (pa_cons pe_str (pa_cons pe_str (pa_cons pe_str pa_nil))))) (pe_callC c_law_draw hr (by omega) rfl (pa_cons (pv 0) (pa_cons pe_int pa_nil))) (fun _ _ => rfl)))
    (pss_cons (ps_if (pt_cmpR op_eq (pv 3) pe_str (nomark _)) (pss_cons (ps_ret (pe_tup (pa_cons pe_str (pa_cons (pe_callC c_law_kind hr (by omega) rfl (pa_cons (pv 0) (pa_cons (pe_op op_sub (pv 1) pe_int) (pa_cons (pv 2) pa_nil)))) pa_nil))))
    pss_nil) pss_nil)
    (pss_cons (ps_set (i := 4) sc_law_kind.nd rfl (Or.inl rfl) (pe_op op_add pe_int (pe_callC c_law_draw hr (by omega) rfl (pa_cons (pv 0) (pa_cons (pe_ix ix_list (pe_lst (pa_cons pe_int (pa_cons pe_int (pa_cons pe_int (pa_cons pe_int pa_nil))))) (pe_callC c_law_draw hr (by omega) rfl (pa_cons (pv 0) (pa_cons pe_int pa_nil))) (fun _ _ => rfl)) pa_nil)))))
    (pss_cons (ps_set (i := 5) sc_law_kind.nd rfl (Or.inl rfl) (pe_callC c_law_draw hr (by omega) rfl (pa_cons (pv 0) (pa_cons (pv 4) pa_nil))))
    (pss_cons (ps_set (i := 6) sc_law_kind.nd rfl (Or.inl rfl) (pe_lst pa_nil))
    (pss_cons (ps_set (i := 7) sc_law_kind.nd rfl (Or.inl rfl) (pe_lst pa_nil))
    (pss_cons (ps_for PassesOwn.never rfl (pi_range1 rfl z_range (pa_cons (pv 4) pa_nil)) (pg_name (i := 8) sc_law_kind.nd rfl (Or.inl rfl)) (pss_cons (ps_set (i := 9) sc_law_kind.nd rfl (Or.inl rfl) pe_int)
    (pss_cons (ps_cut (ps_if (pt_cmpR op_eq (pv 8) (pv 5) (nomark _)) (pss_cons (ps_set (i := 9) sc_law_kind.nd rfl (Or.inl rfl) (pe_op op_sub (pv 1) pe_int))
    pss_nil) (pss_cons (ps_cut (ps_if (PW.pt (pw_and (pt_cmpR op_gt (pe_ix ix_list (pv 2) pe_int (fun _ _ => rfl)) pe_int (nomark _)) (pw_and1 (pt_cmpR op_eq (pe_callC c_law_draw hr (by omega) rfl (pa_cons (pv 0) (pa_cons pe_int pa_nil))) pe_int (nomark _))))) (pss_cons (ps_asg (pe_op op_sub (pe_ix ix_list (pv 2) pe_int (fun _ _ => rfl)) pe_int) (pg_sub (pv 2) pe_int set_list (fun _ => rfl)))
    (pss_cons (ps_set (i := 9) sc_law_kind.nd rfl (Or.inl rfl) (pe_op op_add pe_int (pe_callC c_law_draw hr (by omega) rfl (pa_cons (pv 0) (pa_cons (pe_op op_sub (pv 1) pe_int) pa_nil)))))
    pss_nil)) pss_nil))
    pss_nil)))
    (pss_cons (ps_expr (pe_bm PySem.F.plainAttrs_list PySem.F.slot_list_append PySem.F.type_list_append mt_append (pv 6) (pa_cons (pe_callC c_law_name hr (by omega) rfl (pa_cons (pv 0) (pa_cons (pv 6) pa_nil))) pa_nil)))
    (pss_cons (ps_expr (pe_bm PySem.F.plainAttrs_list PySem.F.slot_list_append PySem.F.type_list_append mt_append (pv 7) (pa_cons (pe_tup (pa_cons (pe_ix ix_list (pv 6) (pv 8) (fun _ _ => rfl)) (pa_cons (pe_callC c_law_kind hr (by omega) rfl (pa_cons (pv 0) (pa_cons (pv 9) (pa_cons (pv 2) pa_nil)))) pa_nil))) pa_nil)))
    pss_nil)))))
    (pss_cons (ps_ret (pe_tup (pa_cons (pv 3) (pa_cons (pe_callTy call_tuple_of rfl z_tuple bt_tuple (pa_cons (pv 7) pa_nil)) pa_nil))))
    pss_nil))))))))), ?_⟩
  have hba : b ≠ a := One.ne fl on
  have hbn : b ∉ [a] := by simpa using hba
  have up1 : ∀ {H1 H2 : Hp}, Kp [a] H1 H2 → Kp [a, b] H1 H2 := fun k => k.mono (by simp)
  have sz : ∀ n : Nat, n ≤ 1000 → n ≤ sizeLine := fun n h => Nat.le_of_lt (small1000 h)
  refine ⟨_, rfl, _, _, rfl, rfl, _, rfl, ?_⟩
  refine ite2 (fun c => ?_) (fun c => ?_)
  · -- a leaf
    refine ⟨_, rfl, a, 3, rfl, fl, by decide, by decide, fun r H1 r0 r1 fl1 k1 => ⟨rfl, _, rfl, ?_⟩⟩
    refine ite2 (fun c => ?_) (fun c => ?_)
    · refine ⟨by show 1 ≤ sizeLine; decide, fun p hp => ?_⟩
      refine q _ .text _ (by unfold KIn; exact ⟨p, rfl, upd_same⟩) (by unfold Kd.good; trivial) (by unfold Kd.depth; omega) (fl1.new hp) ((on.kp k1 hbn).new hp) ((up1 k1).trans (Kp.new hp _))
    · refine ⟨_, rfl, a, 4, rfl, fl1, by decide, by decide, fun r2 H2 r20 r21 fl2 k2 => ⟨_, _, rfl, rfl, by show 2 ≤ sizeLine; decide, fun p hp => ?_⟩⟩
      refine q _ (.num (1 + r2)) _ (by unfold KIn; exact ⟨p, rfl, upd_same⟩) (by unfold Kd.good; omega) (by unfold Kd.depth; omega) (fl2.new hp) (((on.kp k1 hbn).kp k2 hbn).new hp) (((up1 k1).trans (up1 k2)).trans (Kp.new hp _))
  have d2 : 2 ≤ d := by
    have : ¬ d < 2 := fun z => c (decide_eq_true z)
    omega
  -- the word
  refine ⟨by show 4 ≤ sizeLine; decide, fun p0 hp0 => ?_⟩
  refine ⟨_, rfl, a, 4, rfl, fl.new hp0, by decide, by decide, fun r1 H1 r10 r11 fl1 k1 => ?_⟩
  have hp0a : p0 ∉ [a] := by
    obtain ⟨u, e⟩ := fl.some
    simpa using (ne_of_none e hp0).symm
  obtain ⟨x, hx, hm⟩ := at_some (xs := (["row", "rec", "pick", "rec"] : List Str).map V.str) r10 (by simpa using r11)
  obtain ⟨word, hw, rfl⟩ := List.mem_map.mp hm
  refine ⟨p0, _, _, _, rfl, rfl, SqL.of (k1 p0 _ hp0a upd_same), hx, ?_⟩
  have kH1 : Kp [a, b] H H1 := (Kp.new hp0 _).trans (up1 k1)
  have on1 : One H1 b := (on.new hp0).kp k1 hbn
  refine ⟨_, rfl, rfl, _, rfl, ?_⟩
  refine ite2 (fun c => ?_) (fun c => ?_)
  · -- a row
    refine ⟨_, rfl, _, rfl, _, _, rfl, rfl, _, rfl, a, b, d - 1, rfl, fl1, on1, by omega, by omega, by omega, fun v k H2 ki kg kd fl2 on2 k2 => ?_⟩
    refine ⟨by show 2 ≤ sizeLine; decide, fun p hp => ?_⟩
    refine q _ (.row k) _ (by unfold KIn; exact ⟨p, v, rfl, upd_same, ki.mono (tp_new hp _)⟩) (by unfold Kd.good; exact kg) (by unfold Kd.depth; omega) (fl2.new hp) (on2.new hp) ((kH1.trans k2).trans (Kp.new hp _))
  have hw2 : word = "rec" ∨ word = "pick" := by
    have cw : ¬ word = "row" := fun z => c (decide_eq_true (congrArg V.str z))
    simp only [List.mem_cons, List.not_mem_nil, or_false] at hw
    rcases hw with h | h | h | h
    · exact absurd h cw
    · exact .inl h
    · exact .inr h
    · exact .inl h
  -- many
  refine ⟨_, rfl, by show 4 ≤ sizeLine; decide, fun p1 hp1 => ?_⟩
  refine ⟨_, rfl, a, 4, rfl, fl1.new hp1, by decide, by decide, fun r2 H2 r20 r21 fl2 k2 => ?_⟩
  have hp1a : p1 ∉ [a] := by
    obtain ⟨u, e⟩ := fl1.some
    simpa using (ne_of_none e hp1).symm
  obtain ⟨x2, hx2, hm2⟩ := at_some (xs := ([3, 3, 2, 6] : List Int).map V.int) r20 (by simpa using r21)
  obtain ⟨m, hmm, rfl⟩ := List.mem_map.mp hm2
  have hm6 : 0 < m ∧ m ≤ 6 := by
    simp only [List.mem_cons, List.not_mem_nil, or_false] at hmm
    omega
  refine ⟨p1, _, _, _, rfl, rfl, SqL.of (k2 p1 _ hp1a upd_same), hx2, a, m, rfl, fl2, hm6.1, by omega, fun r3 H3 r30 r31 fl3 k3 => ⟨_, _, rfl, rfl, ?_⟩⟩
  -- deepest
  refine ⟨_, rfl, _, rfl, a, 1 + r3, rfl, fl3, by omega, by omega, fun dp H4 dp0 dp1 fl4 k4 => ?_⟩
  have kH4 : Kp [a, b] H H4 := (((kH1.trans (Kp.new hp1 _)).trans (up1 k2)).trans (up1 k3)).trans (up1 k4)
  have on4 : One H4 b := ((((on1.new hp1).kp k2 hbn).kp k3 hbn).kp k4 hbn)
  -- names, fields
  refine ⟨by show 0 ≤ sizeLine; decide, fun N hN => ?_⟩
  refine ⟨by show 0 ≤ sizeLine; decide, fun Fa hF => ?_⟩
  have hNa : N ≠ a := by
    obtain ⟨u, e⟩ := fl4.some
    exact (ne_of_none e hN).symm
  have hNb : N ≠ b := by
    obtain ⟨u, e⟩ := on4
    exact (ne_of_none e hN).symm
  have hFN : Fa ≠ N := (ne_of_none (upd_same (H := H4) (a := N) (o := .lst [])) hF).symm
  have hF4 : H4 Fa = none := by rw [upd_ne hFN] at hF; exact hF
  have hFa : Fa ≠ a := by
    obtain ⟨u, e⟩ := fl4.some
    exact (ne_of_none e hF4).symm
  have hFb : Fa ≠ b := by
    obtain ⟨u, e⟩ := on4
    exact (ne_of_none e hF4).symm
  have frH : ∀ {c : Addr}, H4 c = none → (c ≠ a) → (c ≠ b) → H c = none := fun {c} h1 h2 h3 => by
    cases e : H c with
    | none => rfl
    | some o => rw [kH4 c o (by simp [h2, h3]) e] at h1; cases h1
  have HN : H N = none := frH hN hNa hNb
  have HF : H Fa = none := frH hF4 hFa hFb
  have stay : ∀ {H' : Hp} {c : Addr} {o : HO}, H c = none → Kp [a, b] H H' → Kp [a, b] H (upd H' c o) := fun {H' c o} hc k x u hx hu => by
    have e : x ≠ c := ne_of_none hu hc
    rw [upd_ne e]; exact k x u hx hu
  refine ⟨_, rfl, 1 + r3, rfl, by omega, by omega, ?_⟩
  refine for_range (fun i σ H' => ∃ o8 o9 ss xs fs, σ = [some (.ref a), some (.int d), some (.ref b), some (.str word), some (.int (1 + r3)), some (.int dp), some (.ref N), some (.ref Fa), o8, o9] ∧
      H' N = some (.lst (ss.map V.str)) ∧ ss.length = i ∧ (∀ z ∈ ss, Nm z) ∧ ss.Nodup ∧ H' Fa = some (.lst xs) ∧ FIn H' xs fs ∧ fs.map (·.1) = ss ∧ goodF fs ∧ depthF fs ≤ (d - 1).toNat ∧ Flow H' a ∧ One H' b ∧ Kp [a, b] H H') ?_ ?_ ?_
  · refine ⟨none, none, [], [], [], rfl, ?_, rfl, (fun z hz => nomatch hz), List.nodup_nil, upd_same, by unfold FIn; rfl, rfl, by unfold goodF; trivial, by unfold depthF; omega, (fl4.new hN).new hF, (on4.new hN).new hF, stay HF (stay HN kH4)⟩
    rw [upd_ne hFN.symm]; exact upd_same
  · rintro i σ H5 hi ⟨o8, o9, ss, xs, fs, rfl, hN5, hsl, hnm, hnd, hF5, fin, hfs, hgf, hdf, fl5, on5, k5⟩
    -- below
    refine ⟨fun σ H' => ∃ bl : Int, σ = [some (.ref a), some (.int d), some (.ref b), some (.str word), some (.int (1 + r3)), some (.int dp), some (.ref N), some (.ref Fa), some (.int (0 + i)), some (.int bl)] ∧ 1 ≤ bl ∧ bl ≤ d - 1 ∧
      H' N = some (.lst (ss.map V.str)) ∧ H' Fa = some (.lst xs) ∧ FIn H' xs fs ∧ Flow H' a ∧ One H' b ∧ Kp [a, b] H H', ?_, ?_⟩
    · refine ⟨_, rfl, _, rfl, rfl, _, rfl, ?_⟩
      refine ite2 (fun c => ?_) (fun c => ?_)
      · exact ⟨_, rfl, _, _, rfl, rfl, d - 1, rfl, by omega, by omega, hN5, hF5, fin, fl5, on5, k5⟩
      · refine ⟨fun σ H' => ∃ bl : Int, σ = [some (.ref a), some (.int d), some (.ref b), some (.str word), some (.int (1 + r3)), some (.int dp), some (.ref N), some (.ref Fa), some (.int (0 + i)), some (.int bl)] ∧ 1 ≤ bl ∧ bl ≤ d - 1 ∧
          H' N = some (.lst (ss.map V.str)) ∧ H' Fa = some (.lst xs) ∧ FIn H' xs fs ∧ Flow H' a ∧ One H' b ∧ Kp [a, b] H H', ?_, fun _ _ h => h⟩
        obtain ⟨rr, er⟩ := id on5
        refine ⟨_, rfl, b, _, _, _, rfl, rfl, SqL.of er, atI0, _, _, rfl, rfl, _, rfl, ?_⟩
        refine ite2 (fun c1 => ?_) (fun c1 => iteF ⟨1, rfl, by omega, by omega, hN5, hF5, fin, fl5, on5, k5⟩)
        refine ⟨_, rfl, a, 3, rfl, fl5, by decide, by decide, fun r6 H6 r60 r61 fl6 k6 => ⟨rfl, _, rfl, ?_⟩⟩
        have on6 := on5.kp k6 hbn
        have hN6 := k6 N _ (by simpa using hNa) hN5
        have hF6 := k6 Fa _ (by simpa using hFa) hF5
        have fin6 := fin.mono (fl5.tp k6)
        refine ite2 (fun c2 => ?_) (fun c2 => ⟨1, rfl, by omega, by omega, hN6, hF6, fin6, fl6, on6, k5.trans (up1 k6)⟩)
        obtain ⟨r7, er7⟩ := id on6
        refine ⟨_, rfl, b, _, _, _, rfl, rfl, SqL.of er7, atI0, _, _, rfl, rfl, _, rfl, b, _, _, _, rfl, rfl, er7, rfl, ?_⟩
        have flb : Flow (upd H6 b (.lst ([.int r7].set 0 (.int (r7 - 1))))) a := by
          obtain ⟨f0, f1, f2, e, z⟩ := fl6
          exact ⟨f0, f1, f2, by rw [upd_ne hba.symm]; exact e, z⟩
        have onb : One (upd H6 b (.lst ([.int r7].set 0 (.int (r7 - 1))))) b := ⟨r7 - 1, upd_same⟩
        refine ⟨_, rfl, _, rfl, _, _, rfl, rfl, a, d - 1, rfl, flb, by omega, by omega, fun r8 H8 r80 r81 fl8 k8 => ⟨_, _, rfl, rfl, ?_⟩⟩
        refine ⟨1 + r8, rfl, by omega, by omega, k8 N _ (by simpa using hNa) (by rw [upd_ne hNb]; exact hN6), k8 Fa _ (by simpa using hFa) (by rw [upd_ne hFb]; exact hF6), (fin6.mono (tp_set er7 _)).mono (flb.tp k8), fl8, onb.kp k8 hbn, ?_⟩
        exact ((k5.trans (up1 k6)).trans (Kp.set (by simp) _)).trans (up1 k8)
    rintro σ H6 ⟨bl, rfl, bl1, bld, hN6, hF6, fin6, fl6, on6, k6⟩
    -- names.append(name)
    refine ⟨_, rfl, .inl ⟨rfl, _, SqL.of hN6⟩, _, rfl, _, rfl, a, N, ss, rfl, fl6, hN6, by omega, hnm, fun z H7 nz nf fl7 k7 => ?_⟩
    have hN7 := k7 N _ (by simpa using hNa) hN6
    have hF7 := k7 Fa _ (by simpa using hFa) hF6
    refine ⟨N, _, _, rfl, rfl, hN7, ?_, ?_⟩
    · rw [List.length_map, hsl]; exact small1000 (by omega)
    -- fields.append((names[k], kind))
    have on7 := on6.kp k7 hbn
    have fl8 : Flow (upd H7 N (.lst (ss.map V.str ++ [.str z]))) a := by
      obtain ⟨f0, f1, f2, e, zz⟩ := fl7
      exact ⟨f0, f1, f2, by rw [upd_ne hNa.symm]; exact e, zz⟩
    have on8 : One (upd H7 N (.lst (ss.map V.str ++ [.str z]))) b := by
      obtain ⟨r, e⟩ := on7
      exact ⟨r, by rw [upd_ne hNb.symm]; exact e⟩
    have fin8 := (fin6.mono (fl6.tp k7)).mono (tp_set hN7 (.lst (ss.map V.str ++ [.str z])))
    have hF8 : (upd H7 N (.lst (ss.map V.str ++ [.str z]))) Fa = some (.lst xs) := by rw [upd_ne hFN]; exact hF7
    have k8 : Kp [a, b] H (upd H7 N (.lst (ss.map V.str ++ [.str z]))) := stay HN (k6.trans (up1 k7))
    have hix : atI (ss.map V.str ++ [.str z]) (0 + (i : Int)) = some (.str z) := by
      have e : (0 + (i : Int)) = ((ss.map V.str).length : Nat) := by rw [List.length_map, hsl]; omega
      rw [e]
      exact atI_nat (by rw [List.getElem?_append_right (Nat.le_refl _), Nat.sub_self]; rfl)
    refine ⟨_, rfl, .inl ⟨rfl, _, SqL.of hF8⟩, _, rfl, _, rfl, N, _, _, _, rfl, rfl, SqL.of upd_same, hix, ?_⟩
    refine ⟨_, rfl, _, rfl, _, rfl, a, b, bl, rfl, fl8, on8, bl1, by omega, by omega, fun v k H9 ki kg kd fl9 on9 k9 => ?_⟩
    have nNab : N ∉ [a, b] := by simp [hNa, hNb]
    have nFab : Fa ∉ [a, b] := by simp [hFa, hFb]
    have hN9 := k9 N _ nNab upd_same
    have hF9 := k9 Fa _ nFab hF8
    have fin9 := fin8.mono (fl8.tp2 on8 k9)
    refine ⟨by show 2 ≤ sizeLine; decide, fun p hp => ?_⟩
    have hFp : Fa ≠ p := ne_of_none hF9 hp
    have hNp : N ≠ p := ne_of_none hN9 hp
    have hF10 : (upd H9 p (.tup [.str z, v])) Fa = some (.lst xs) := by rw [upd_ne hFp]; exact hF9
    have xl : xs.length = i := by rw [fin.length, ← hsl, ← hfs, List.length_map]
    refine ⟨Fa, _, _, rfl, rfl, hF10, by rw [xl]; exact small1000 (by omega), ?_⟩
    refine ⟨_, _, ss ++ [z], xs ++ [.ref p], fs ++ [(z, k)], rfl, ?_, ?_, ?_, ?_, upd_same, ?_, ?_, ?_, ?_, ?_, ?_, ?_⟩
    · rw [upd_ne hFN.symm, upd_ne hNp, hN9, List.map_append]; rfl
    · rw [List.length_append, hsl]; rfl
    · intro y hy
      rcases List.mem_append.mp hy with h | h
      · exact hnm y h
      · rw [List.mem_singleton.mp h]; exact nz
    · exact nodup_snoc hnd nf
    · have t1 : Tp H9 (upd (upd H9 p (.tup [.str z, v])) Fa (.lst (xs ++ [.ref p]))) := (tp_new hp _).trans (tp_set hF10 _)
      exact (fin9.mono t1).snoc (by rw [upd_ne hFp.symm]; exact upd_same) (ki.mono t1)
    · rw [List.map_append, hfs]; rfl
    · exact goodF_snoc nz kg hgf
    · exact depthF_snoc hdf (by omega)
    · obtain ⟨f0, f1, f2, e, zz⟩ := fl9
      have ea : a ≠ p := ne_of_none e hp
      exact ⟨f0, f1, f2, by rw [upd_ne hFa.symm, upd_ne ea]; exact e, zz⟩
    · obtain ⟨r, e⟩ := on9
      have eb : b ≠ p := ne_of_none e hp
      exact ⟨r, by rw [upd_ne hFb.symm, upd_ne eb]; exact e⟩
    · exact stay HF ((k8.trans k9).trans (Kp.new hp _))
  rintro σ H5 ⟨o8, o9, ss, xs, fs, rfl, hN5, hsl, hnm, hnd, hF5, fin, hfs, hgf, hdf, fl5, on5, k5⟩
  -- the end
  refine ⟨_, rfl, _, rfl, Fa, xs, rfl, .inl ⟨SqL.of hF5, fun l hl => ⟨by show 2 ≤ sizeLine; decide, fun p hp => ?_⟩⟩⟩
  have lp : l ≠ p := ne_of_none upd_same hp
  have fl7 : fs.length = (1 + r3).toNat := by rw [← hsl, ← hfs, List.length_map]
  have t1 : Tp H5 (upd (upd H5 l (.tup xs)) p (.tup [.str word, .ref l])) := (tp_new hl _).trans (tp_new hp _)
  have hl' : (upd (upd H5 l (.tup xs)) p (.tup [.str word, .ref l])) l = some (.tup xs) := by rw [upd_ne lp]; exact upd_same
  have kk : Kp [a, b] H (upd (upd H5 l (.tup xs)) p (.tup [.str word, .ref l])) := (k5.trans (Kp.new hl _)).trans (Kp.new hp _)
  rcases hw2 with e | e <;> subst e
  · refine q _ (.rec_ fs) _ (by unfold KIn; exact ⟨p, l, xs, rfl, upd_same, hl', fin.mono t1⟩) (by unfold Kd.good; exact ⟨hgf, by omega, by omega, by rw [hfs]; exact hnd⟩) (by unfold Kd.depth; omega) ((fl5.new hl).new hp) ((on5.new hl).new hp) kk
  · refine q _ (.pick fs) _ (by unfold KIn; exact ⟨p, l, xs, rfl, upd_same, hl', fin.mono t1⟩) (by unfold Kd.good; exact ⟨hgf, by omega, by omega, by rw [hfs]; exact hnd⟩) (by unfold Kd.depth; omega) ((fl5.new hl).new hp) ((on5.new hl).new hp) kk
end
end Tg

set_option Elab.async false
set_option linter.all false
set_option maxRecDepth 100000
set_option maxHeartbeats 4000000
namespace Tg
open PySem L2
theorem ifT {c : Prop} [Decidable c] {A B : Prop} (h : c) (a : A) : if c then A else B := by rw [if_pos h]; exact a
theorem ifF {c : Prop} [Decidable c] {A B : Prop} (h : ¬ c) (b : B) : if c then A else B := by rw [if_neg h]; exact b
theorem nt {b : Bool} (h : (!b) = true) : b = false := by cases b with | false => rfl | true => cases h
theorem nf {b : Bool} (h : ¬ (!b) = true) : b = true := by cases b with | true => rfl | false => exact absurd rfl h
theorem kp_tp {H H' : Hp} (k : Kp [] H H') : Tp H H' := fun b xs h => k b _ (by simp) h
theorem kp_new {H H' : Hp} {D : Addr} {o : HO} (k : Kp [] H H') (h : H D = none) : Kp [] H (upd H' D o) := fun b u _ q => by
  rw [upd_ne (ne_of_none q h)]; exact k b u (by simp) q
/-! ### a path in a kind -/
def lookF : List (Str × Kd) → Str → Option Kd
  | [], _ => none
  | (m, k) :: r, n => if m = n then some k else lookF r n
def stepK : Kd → V → Option Kd
  | .row k, .int i => if 0 ≤ i ∧ i < 60 then some k else none
  | .rec_ fs, .str n => lookF fs n
  | .pick fs, .str n => lookF fs n
  | _, _ => none
def atK : Kd → List V → Option Kd
  | k, [] => some k
  | k, p :: r => match stepK k p with | some k' => atK k' r | none => none
/-- a step: a number or a text -/
inductive Stp : V → Prop
  | int (i : Int) : Stp (.int i)
  | str {z : Str} (l : z.length ≤ 1000) : Stp (.str z)
theorem Stp.scal {v : V} {z : Str} (h : Stp v) : scal (.str z) v = true := by
  cases h with
  | int i => rfl
  | str l => rfl
theorem goodF_mem : ∀ {fs : List (Str × Kd)} {p : Str × Kd}, goodF fs → p ∈ fs → p.2.good
  | (nm, k) :: r, p, g, h => by
    unfold goodF at g
    rcases List.mem_cons.mp h with rfl | h
    · exact g.2.1
    · exact goodF_mem g.2.2 h
theorem lookF_good {n : Str} {k : Kd} : ∀ {fs : List (Str × Kd)}, goodF fs → lookF fs n = some k → k.good ∧ k.depth ≤ depthF fs
  | (m, j) :: r, g, h => by
    unfold goodF at g
    unfold lookF at h
    unfold depthF
    by_cases e : m = n
    · rw [if_pos e] at h; cases h; exact ⟨g.2.1, Nat.le_max_left _ _⟩
    · rw [if_neg e] at h
      obtain ⟨a, b⟩ := lookF_good g.2.2 h
      exact ⟨a, Nat.le_trans b (Nat.le_max_right _ _)⟩
section
variable {P : Program} {w : World} {K : PySem.W.Frag} {mg : Str → Option Value} {base : Heap} {f : Addr} {fd : FuncData} {v1 v2 v3 : Value} {dN : Addr}
/-! ### field_place -/
abbrev s_field_place : Stmt := top 19
theorem sc_field_place : FnScope ["kind", "name", "place", "other", "inner"] ["kind", "name"] (defScope s_field_place) := ⟨rfl, rfl, rfl, by decide +kernel, rfl, by decide +kernel, by decide +kernel⟩
def spFP (D : Addr) : Sp := fun vs H Q E => ∃ (a fa : Addr) (wd : Str) (xs : List V) (fs : List (Str × Kd)) (nv : V), vs = [.ref a, nv] ∧ H a = some (.tup [.str wd, .ref fa]) ∧ H fa = some (.tup xs) ∧ FIn H xs fs ∧ Stp nv ∧
  (∀ (n : Str) (i : Nat) (p : Addr) (u : V) (kk : Kd) (H' : Hp), nv = .str n → lookF fs n = some kk → xs[i]? = some (.ref p) → H p = some (.tup [.str n, u]) → KIn H u kk → Kp [] H H' → Q (.int i) H') ∧
  (∀ H', (∀ n, nv = .str n → lookF fs n = none) → Kp [] H H' → E (.ref D) none H')
theorem ok_field_place (F : Fun K "field_place" "field_place" s_field_place f fd) (m_NoPart : mg "NoPart" = some (.ref dN)) (x_NoPart : PySem.W.excIn K dN [.type "ValueError", .type "Exception", .type "BaseException", .type "object"] "ValueError.__new__" = true)
    (z_enumerate : mg "enumerate" = none) : FnOk P w K mg base (CXe P w) 1 f fd ["kind", "name"] (spFP dN) := by
  refine F.okX sc_field_place (fun vs H Q E h => ?_) (fun cdv A outer s H vs Q E hr h => ?_)
  · obtain ⟨a, fa, wd, xs, fs, nv, rfl, _⟩ := h
    rfl
  obtain ⟨a, fa, wd, xs, fs, nv, rfl, ha, hfa, fin, sn, q, qE⟩ := h
  refine ⟨_, (pss_cons (ps_for own_def rfl (pi_enum rfl z_enumerate (pa_cons (pe_ix ix_tup (pv 0) pe_int (fun _ _ => rfl)) pa_nil)) (pg_tup (n := 2) rfl (pgs_cons (pg_name (i := 2) sc_field_place.nd rfl (Or.inl rfl)) (pgs_cons (pg_tup (n := 2) rfl (pgs_cons (pg_name (i := 3) sc_field_place.nd rfl (Or.inl rfl)) (pgs_cons (pg_name (i := 4) sc_field_place.nd rfl (Or.inl rfl)) pgs_nil))) pgs_nil))) (pss_cons (ps_if (pt_cmpR op_eq (pv 3) (pv 1) (nomark _)) (pss_cons (ps_ret (pv 2))
    pss_nil) pss_nil)
    pss_nil))
    (pss_cons (ps_raise rfl rfl m_NoPart x_NoPart PySem.F.excBase_ValueError (pa_cons pe_str pa_nil) raise_def)
    pss_nil)), ?_⟩
  refine ⟨_, rfl, a, _, _, _, rfl, rfl, SqT.of ha, atI1, fa, xs, rfl, SqT.of hfa, ?_⟩
  refine for_enum (K := K) (xs := xs) (fun i σ H' => ∃ o2 o3 o4, σ = [some (.ref a), some nv, o2, o3, o4] ∧ (∀ n, nv = .str n → lookF fs n = lookF (fs.drop i) n) ∧ Kp [] H H') ?_ ?_ ?_ ?_
  · exact ⟨none, none, none, rfl, (fun n _ => rfl), Kp.refl _⟩
  · rintro i σ H' hi ⟨o2, o3, o4, rfl, _, k'⟩
    exact SqT.of (k' fa _ (by simp) hfa)
  · rintro i x p σ H' hx hp ⟨o2, o3, o4, rfl, hl, k'⟩
    obtain ⟨fx, nm, u, kk, rfl, hfx, ki, hk⟩ := fin.get hx
    have k1 : Kp [] H (upd H' p (.tup [.int i, .ref fx])) := k'.trans (Kp.new hp _)
    refine ⟨p, _, rfl, SqT.of upd_same, rfl, _, _, rfl, _, _, rfl, fx, _, rfl, SqT.of (k1 fx _ (by simp) hfx), rfl, _, _, rfl, _, _, rfl, rfl, rfl, ?_⟩
    refine ⟨_, rfl, _, rfl, sn.scal, _, rfl, ?_⟩
    have dr : fs.drop i = (nm, kk) :: fs.drop (i + 1) := by
      obtain ⟨hlt, e⟩ := List.getElem?_eq_some_iff.mp hk
      rw [List.drop_eq_getElem_cons hlt, e]
    refine ite2 (fun c => ?_) (fun c => ?_)
    · have c' : V.str nm = nv := of_decide_eq_true c
      refine ⟨_, rfl, q nm i fx u kk _ c'.symm ?_ hx hfx ki k1⟩
      rw [hl nm c'.symm, dr]
      unfold lookF
      rw [if_pos rfl]
    · refine ⟨_, _, _, rfl, fun n hn => ?_, k1⟩
      rw [hl n hn, dr]
      conv => lhs; unfold lookF
      rw [if_neg fun e => c (decide_eq_true (by rw [hn, e]))]
  · rintro σ H' ⟨o2, o3, o4, rfl, hl, k'⟩
    refine ⟨by show 1 ≤ sizeLine; decide, qE H' (fun n hn => ?_) k'⟩
    rw [hl n hn, fin.length, List.drop_length]
    rfl
/-! ### is_whole -/
abbrev s_is_whole : Stmt := top 16
theorem sc_is_whole : FnScope ["thing"] ["thing"] (defScope s_is_whole) := ⟨rfl, rfl, rfl, by decide +kernel, rfl, by decide +kernel, by decide +kernel⟩
def spWhole : Sp := fun vs H Q _ => ∃ v : V, vs = [v] ∧ Stp v ∧ Q (.bl (match v with | .int _ => true | _ => false)) H
theorem ok_is_whole (F : Fun K "is_whole" "is_whole" s_is_whole f fd) (z_isinstance : mg "isinstance" = none) (z_int : mg "int" = none) (z_bool : mg "bool" = none) : FnOk P w K mg base CX0 1 f fd ["thing"] spWhole := by
  refine F.ok sc_is_whole (fun vs H Q E h => ?_) (fun cdv A outer s H vs Q E hr h => ?_)
  · obtain ⟨v, rfl, _⟩ := h
    rfl
  obtain ⟨v, rfl, wf, q⟩ := h
  refine ⟨_, (pss_cons (ps_ret (pe_and (pe_inst rfl z_isinstance rfl z_int bt_int (pv 0)) (pe_one (pe_not (pe_inst rfl z_isinstance rfl z_bool bt_bool (pv 0))))))
    pss_nil), ?_⟩
  cases wf with
  | int i =>
    refine ⟨_, rfl, _, rfl, _, true, TyOf.int i, rfl, _, rfl, ifT rfl ?_⟩
    exact ⟨_, rfl, _, rfl, _, false, TyOf.int i, rfl, _, rfl, q⟩
  | @str z l =>
    exact ⟨_, rfl, _, rfl, _, false, TyOf.str z, rfl, _, rfl, ifF (by decide) q⟩
end
end Tg

set_option Elab.async false
set_option linter.all false
set_option maxRecDepth 100000
set_option maxHeartbeats 4000000
namespace Tg
open PySem L2
def byName (fs : List (Str × Kd)) : V → Option Kd
  | .str n => lookF fs n
  | _ => none
section
variable {P : Program} {w : World} {K : PySem.W.Frag} {mg : Str → Option Value} {base : Heap} {f : Addr} {fd : FuncData} {v1 v2 v3 : Value} {dN : Addr}
/-! ### step_kind -/
abbrev s_step_kind : Stmt := top 18
theorem sc_step_kind : FnScope ["kind", "step", "head"] ["kind", "step"] (defScope s_step_kind) := ⟨rfl, rfl, rfl, by decide +kernel, rfl, by decide +kernel, by decide +kernel⟩
def spSt (D : Addr) : Sp := fun vs H Q E => ∃ (kv nv : V) (k : Kd), vs = [kv, nv] ∧ KIn H kv k ∧ k.good ∧ Stp nv ∧
  (∀ (v' : V) (k' : Kd) (H' : Hp), stepK k nv = some k' → KIn H' v' k' → k'.good → k'.depth < k.depth → Kp [] H H' → Q v' H') ∧
  (∀ H', stepK k nv = none → Kp [] H H' → E (.ref D) none H')
theorem ok_step_kind (F : Fun K "step_kind" "step_kind" s_step_kind f fd) (c_is_whole : Callee P w K mg base "is_whole" 1 ["thing"] spWhole) (c_field_place : CalleeX P w K mg base "field_place" 1 ["kind", "name"] (spFP dN)) (m_NoPart : mg "NoPart" = some (.ref dN)) (x_NoPart : PySem.W.excIn K dN [.type "ValueError", .type "Exception", .type "BaseException", .type "object"] "ValueError.__new__" = true)
    (m_MOST_ITEMS : mg "MOST_ITEMS" = some v1) (r_MOST_ITEMS : RelV (.int 60) v1) : FnOk P w K mg base (CXe P w) 2 f fd ["kind", "step"] (spSt dN) := by
  refine F.okX sc_step_kind (fun vs H Q E h => ?_) (fun cdv A outer s H vs Q E hr h => ?_)
  · obtain ⟨kv, nv, k, rfl, _⟩ := h
    rfl
  obtain ⟨kv, nv, k, rfl, ki, kg, sn, q, qE⟩ := h
  refine ⟨_, (pss_cons (ps_set (i := 2) sc_step_kind.nd rfl (Or.inl rfl) (pe_ix ix_tup (pv 0) pe_int (fun _ _ => rfl)))
    (pss_cons (ps_if (pt_cmpR op_eq (pv 2) pe_str (nomark _)) (pss_cons (ps_if (PW.pt (pw_and (pt_val (pe_callC c_is_whole hr (by omega) rfl (pa_cons (pv 1) pa_nil))) (pw_and1 (pt_chain op_le op_lt pe_int (pv 1) (pe_glob rfl m_MOST_ITEMS r_MOST_ITEMS))))) (pss_cons (ps_ret (pe_ix ix_tup (pv 0) pe_int (fun _ _ => rfl)))
    pss_nil) pss_nil)
    (pss_cons (ps_raise rfl rfl m_NoPart x_NoPart PySem.F.excBase_ValueError (pa_cons pe_str pa_nil) raise_def)
    pss_nil)) pss_nil)
    (pss_cons (ps_if (pt_cmpR op_in_seq (pv 2) (pe_tup (pa_cons pe_str (pa_cons pe_str pa_nil))) (by with_unfolding_all rfl)) (pss_cons (ps_ret (pe_ix ix_tup (pe_ix ix_tup (pe_ix ix_tup (pv 0) pe_int (fun _ _ => rfl)) (pe_callX c_field_place hr (by omega) rfl pass_def (pa_cons (pv 0) (pa_cons (pv 1) pa_nil))) (fun _ _ => rfl)) pe_int (fun _ _ => rfl)))
    pss_nil) pss_nil)
    (pss_cons (ps_raise rfl rfl m_NoPart x_NoPart PySem.F.excBase_ValueError (pa_cons pe_str pa_nil) raise_def)
    pss_nil)))), ?_⟩
  have alt : (∃ (a fa : Addr) (wd : Str) (xs : List V) (fs : List (Str × Kd)), kv = V.ref a ∧ H a = some (.tup [.str wd, .ref fa]) ∧ H fa = some (.tup xs) ∧ FIn H xs fs ∧ goodF fs ∧ (wd = "rec" ∨ wd = "pick") ∧ stepK k nv = byName fs nv ∧ depthF fs + 1 = k.depth)
      ∨ (∃ (a : Addr) (wd : Str) (r : List V), kv = V.ref a ∧ H a = some (.tup (.str wd :: r)) ∧ (wd = "num" ∨ wd = "text") ∧ stepK k nv = none)
      ∨ (∃ (a : Addr) (u : V) (j : Kd), kv = V.ref a ∧ H a = some (.tup [.str "row", u]) ∧ k = .row j ∧ KIn H u j) := by
    cases k with
    | num wd =>
      unfold KIn at ki
      obtain ⟨a, e, ha⟩ := ki
      exact .inr (.inl ⟨a, _, _, e, ha, .inl rfl, by cases sn <;> rfl⟩)
    | text =>
      unfold KIn at ki
      obtain ⟨a, e, ha⟩ := ki
      exact .inr (.inl ⟨a, _, _, e, ha, .inr rfl, by cases sn <;> rfl⟩)
    | row j =>
      unfold KIn at ki
      obtain ⟨a, u, e, ha, ku⟩ := ki
      exact .inr (.inr ⟨a, u, j, e, ha, rfl, ku⟩)
    | rec_ fs =>
      unfold KIn at ki
      unfold Kd.good at kg
      obtain ⟨a, fa, xs, e, ha, hfa, fin⟩ := ki
      exact .inl ⟨a, fa, _, xs, fs, e, ha, hfa, fin, kg.1, .inl rfl, by cases sn <;> rfl, by rw [Kd.depth]⟩
    | pick fs =>
      unfold KIn at ki
      unfold Kd.good at kg
      obtain ⟨a, fa, xs, e, ha, hfa, fin⟩ := ki
      exact .inl ⟨a, fa, _, xs, fs, e, ha, hfa, fin, kg.1, .inr rfl, by cases sn <;> rfl, by rw [Kd.depth]⟩
  rcases alt with ⟨a, fa, wd, xs, fs, rfl, ha, hfa, fin, gf, hw, es, ed⟩ | ⟨a, wd, r, rfl, ha, hw, es⟩ | ⟨a, u, j, rfl, ha, rfl, ku⟩
  · refine ⟨_, rfl, a, _, _, _, rfl, rfl, SqT.of ha, atI0, ?_⟩
    refine ⟨_, rfl, rfl, _, rfl, ifF (fun z => by have z' := V.str.inj (of_decide_eq_true z); rcases hw with rfl | rfl <;> revert z' <;> decide +kernel) ?_⟩
    refine ⟨_, rfl, by show 2 ≤ sizeLine; decide, fun p hp => ⟨p, _, rfl, .inr (SqT.of upd_same), rfl, rfl, _, rfl, ifT (by rcases hw with rfl | rfl <;> decide +kernel) ?_⟩⟩
    have k1 : Kp [] H (upd H p (.tup [.str "rec", .str "pick"])) := Kp.new hp _
    generalize upd H p (.tup [.str "rec", .str "pick"]) = H1 at k1 ⊢
    refine ⟨_, rfl, a, _, _, _, rfl, rfl, SqT.of (k1 a _ (by simp) ha), atI1, _, rfl, _, rfl, a, fa, wd, xs, fs, nv, rfl, k1 a _ (by simp) ha, k1 fa _ (by simp) hfa, fin.mono (kp_tp k1), sn, ?_, ?_⟩
    · intro n i px u kk H2 en hl hx hp ki2 k2
      refine ⟨fa, xs, _, _, rfl, rfl, SqT.of ((k1.trans k2) fa _ (by simp) hfa), atI_nat hx, px, _, _, _, rfl, rfl, SqT.of (k2 px _ (by simp) hp), atI1, ?_⟩
      obtain ⟨g1, g2⟩ := lookF_good gf hl
      refine q u kk H2 (by rw [es, en]; exact hl) (ki2.mono (kp_tp k2)) g1 (by omega) (k1.trans k2)
    · intro H2 hn k2
      refine qE H2 ?_ (k1.trans k2)
      rw [es]
      cases sn with
      | int i => rfl
      | str l => exact hn _ rfl
  · refine ⟨_, rfl, a, _, _, _, rfl, rfl, SqT.of ha, atI0, ?_⟩
    refine ⟨_, rfl, rfl, _, rfl, ifF (fun z => by have z' := V.str.inj (of_decide_eq_true z); rcases hw with rfl | rfl <;> revert z' <;> decide +kernel) ?_⟩
    refine ⟨_, rfl, by show 2 ≤ sizeLine; decide, fun p hp => ⟨p, _, rfl, .inr (SqT.of upd_same), rfl, rfl, _, rfl, ifF (by rcases hw with rfl | rfl <;> decide +kernel) ?_⟩⟩
    exact ⟨by show 1 ≤ sizeLine; decide, qE _ es (Kp.new hp _)⟩
  · unfold Kd.good at kg
    refine ⟨_, rfl, a, _, _, _, rfl, rfl, SqT.of ha, atI0, ?_⟩
    refine ⟨_, rfl, rfl, _, rfl, ifT (by decide +kernel) ?_⟩
    refine ⟨_, rfl, nv, rfl, sn, _, rfl, ?_⟩
    cases sn with
    | str l =>
      refine ifF Bool.false_ne_true (ifF Bool.false_ne_true ?_)
      exact ⟨by show 1 ≤ sizeLine; decide, qE _ rfl (Kp.refl _)⟩
    | int i =>
      refine ifT rfl ?_
      refine ⟨_, rfl, _, _, rfl, rfl, _, rfl, ?_⟩
      refine ite2 (fun c => ?_) (fun c => ?_)
      · have c1 : 0 ≤ i := of_decide_eq_true c
        refine ⟨_, _, rfl, rfl, _, rfl, ?_⟩
        refine ite2 (fun c => ?_) (fun c => ?_)
        · have c2 : i < 60 := of_decide_eq_true c
          refine ⟨_, rfl, a, _, _, _, rfl, rfl, SqT.of ha, atI1, q u j H ?_ ku kg (by rw [Kd.depth]; omega) (Kp.refl _)⟩
          show (if 0 ≤ i ∧ i < 60 then some j else none) = some j
          rw [if_pos ⟨c1, c2⟩]
        · have c2 : ¬ i < 60 := fun z => c (decide_eq_true z)
          refine ⟨by show 1 ≤ sizeLine; decide, qE _ ?_ (Kp.refl _)⟩
          show (if 0 ≤ i ∧ i < 60 then some j else none) = none
          rw [if_neg fun z => c2 z.2]
      · have c1 : ¬ 0 ≤ i := fun z => c (decide_eq_true z)
        refine ⟨_, rfl, ifF (by decide) ⟨by show 1 ≤ sizeLine; decide, qE _ ?_ (Kp.refl _)⟩⟩
        show (if 0 ≤ i ∧ i < 60 then some j else none) = none
        rw [if_neg fun z => c1 z.1]
/-! ### part_kind -/
abbrev s_part_kind : Stmt := top 17
theorem sc_part_kind : FnScope ["kind", "path", "found", "step"] ["kind", "path"] (defScope s_part_kind) := ⟨rfl, rfl, rfl, by decide +kernel, rfl, by decide +kernel, by decide +kernel⟩
def spPk (D : Addr) : Sp := fun vs H Q E => ∃ (kv : V) (pa : Addr) (ps : List V) (k : Kd), vs = [kv, .ref pa] ∧ KIn H kv k ∧ k.good ∧ H pa = some (.tup ps) ∧ (∀ p ∈ ps, Stp p) ∧
  (∀ (v' : V) (k' : Kd) (H' : Hp), atK k ps = some k' → KIn H' v' k' → k'.good → k'.depth ≤ k.depth → Kp [] H H' → Q v' H') ∧
  (∀ H', atK k ps = none → Kp [] H H' → E (.ref D) none H')
theorem ok_part_kind (F : Fun K "part_kind" "part_kind" s_part_kind f fd) (c_step_kind : CalleeX P w K mg base "step_kind" 2 ["kind", "step"] (spSt dN)) : FnOk P w K mg base (CXe P w) 3 f fd ["kind", "path"] (spPk dN) := by
  refine F.okX sc_part_kind (fun vs H Q E h => ?_) (fun cdv A outer s H vs Q E hr h => ?_)
  · obtain ⟨kv, pa, ps, k, rfl, _⟩ := h
    rfl
  obtain ⟨kv, pa, ps, k, rfl, ki, kg, hp, sp, q, qE⟩ := h
  refine ⟨_, (pss_cons (ps_set (i := 2) sc_part_kind.nd rfl (Or.inl rfl) (pv 0))
    (pss_cons (ps_for own_def rfl (pi_tup (pv 1)) (pg_name (i := 3) sc_part_kind.nd rfl (Or.inl rfl)) (pss_cons (ps_set (i := 2) sc_part_kind.nd rfl (Or.inl rfl) (pe_callX c_step_kind hr (by omega) rfl pass_def (pa_cons (pv 2) (pa_cons (pv 3) pa_nil))))
    pss_nil))
    (pss_cons (ps_ret (pv 2))
    pss_nil))), ?_⟩
  refine ⟨_, rfl, ?_⟩
  refine ⟨_, rfl, pa, rfl, ⟨_, SqT.of hp⟩, ?_⟩
  refine for_tup (K := K) (xs := ps) (fun i σ H' => ∃ (fv : V) (fk : Kd) (o : Option V), σ = [some kv, some (.ref pa), some fv, o] ∧ KIn H' fv fk ∧ fk.good ∧ fk.depth ≤ k.depth ∧ atK k ps = atK fk (ps.drop i) ∧ Kp [] H H') ?_ ?_ ?_ ?_
  · exact ⟨kv, k, none, rfl, ki, kg, Nat.le_refl _, rfl, Kp.refl _⟩
  · rintro i σ H' hi ⟨fv, fk, o, rfl, _, _, _, _, k'⟩
    exact SqT.of (k' pa _ (by simp) hp)
  · rintro i x σ H' hx ⟨fv, fk, o, rfl, fki, fkg, fkd, ea, k'⟩
    have dr : ps.drop i = x :: ps.drop (i + 1) := by
      obtain ⟨hlt, e⟩ := List.getElem?_eq_some_iff.mp hx
      rw [List.drop_eq_getElem_cons hlt, e]
    rw [dr] at ea
    refine ⟨_, rfl, _, rfl, fv, x, fk, rfl, fki, fkg, sp x (List.mem_of_getElem? hx), ?_, ?_⟩
    · intro v' k2 H2 es ki2 kg2 kd2 kp2
      refine ⟨v', k2, _, rfl, ki2, kg2, by omega, ?_, k'.trans kp2⟩
      rw [ea]
      show (match stepK fk x with | some k' => atK k' (ps.drop (i + 1)) | none => none) = _
      rw [es]
    · intro H2 es kp2
      refine qE H2 ?_ (k'.trans kp2)
      rw [ea]
      show (match stepK fk x with | some k' => atK k' (ps.drop (i + 1)) | none => none) = _
      rw [es]
  · rintro σ H' ⟨fv, fk, o, rfl, fki, fkg, fkd, ea, k'⟩
    rw [List.drop_length] at ea
    exact ⟨_, rfl, q fv fk H' ea fki fkg fkd k'⟩
end
end Tg

set_option Elab.async false
set_option linter.all false
set_option maxRecDepth 100000
set_option maxHeartbeats 4000000
namespace Tg
open PySem L2
theorem kd_alt {H : Hp} {kv : V} {k : Kd} (ki : KIn H kv k) (kg : k.good) :
    (∃ (a fa : Addr) (wd : Str) (xs : List V) (fs : List (Str × Kd)), kv = V.ref a ∧ H a = some (.tup [.str wd, .ref fa]) ∧ H fa = some (.tup xs) ∧ FIn H xs fs ∧ goodF fs ∧ (1 ≤ fs.length ∧ fs.length ≤ 6) ∧ (wd = "rec" ∨ wd = "pick") ∧ (∀ nv, stepK k nv = byName fs nv) ∧ depthF fs + 1 = k.depth)
      ∨ (∃ (a : Addr) (wd : Str) (r : List V), kv = V.ref a ∧ H a = some (.tup (.str wd :: r)) ∧ (wd = "num" ∨ wd = "text") ∧ ∀ nv, stepK k nv = none)
      ∨ (∃ (a : Addr) (u : V) (j : Kd), kv = V.ref a ∧ H a = some (.tup [.str "row", u]) ∧ k = .row j ∧ KIn H u j ∧ j.good) := by
  cases k with
  | num wd =>
    unfold KIn at ki
    obtain ⟨a, e, ha⟩ := ki
    exact .inr (.inl ⟨a, _, _, e, ha, .inl rfl, fun nv => by cases nv <;> rfl⟩)
  | text =>
    unfold KIn at ki
    obtain ⟨a, e, ha⟩ := ki
    exact .inr (.inl ⟨a, _, _, e, ha, .inr rfl, fun nv => by cases nv <;> rfl⟩)
  | row j =>
    unfold KIn at ki
    unfold Kd.good at kg
    obtain ⟨a, u, e, ha, ku⟩ := ki
    exact .inr (.inr ⟨a, u, j, e, ha, rfl, ku, kg⟩)
  | rec_ fs =>
    unfold KIn at ki
    unfold Kd.good at kg
    obtain ⟨a, fa, xs, e, ha, hfa, fin⟩ := ki
    exact .inl ⟨a, fa, _, xs, fs, e, ha, hfa, fin, kg.1, ⟨kg.2.1, kg.2.2.1⟩, .inl rfl, fun nv => by cases nv <;> rfl, by rw [Kd.depth]⟩
  | pick fs =>
    unfold KIn at ki
    unfold Kd.good at kg
    obtain ⟨a, fa, xs, e, ha, hfa, fin⟩ := ki
    exact .inl ⟨a, fa, _, xs, fs, e, ha, hfa, fin, kg.1, ⟨kg.2.1, kg.2.2.1⟩, .inr rfl, fun nv => by cases nv <;> rfl, by rw [Kd.depth]⟩
theorem byName_good {fs : List (Str × Kd)} {nv : V} {k : Kd} (g : goodF fs) (h : byName fs nv = some k) : k.good := by
  cases nv with
  | str n => exact (lookF_good g h).1
  | _ => cases h
section
variable {P : Program} {w : World} {K : PySem.W.Frag} {mg : Str → Option Value} {base : Heap} {f : Addr} {fd : FuncData} {v1 v2 v3 : Value} {dN : Addr}
/-! ### kind_at -/
abbrev s_law_kind_at : Stmt := top 27
theorem sc_law_kind_at : FnScope ["kind", "path", "step", "below"] ["kind", "path"] (defScope s_law_kind_at) := ⟨rfl, rfl, rfl, by decide +kernel, rfl, by decide +kernel, by decide +kernel⟩
def spKA : Sp := fun vs H Q _ => ∃ (kv : V) (pa : Addr) (ps : List V) (k : Kd), vs = [kv, .ref pa] ∧ KIn H kv k ∧ k.good ∧ H pa = some (.tup ps) ∧ (∀ p ∈ ps, Stp p) ∧
  (∀ (v' : V) (k' : Kd) (H' : Hp), atK k ps = some k' → KIn H' v' k' → k'.good → Kp [] H H' → Q v' H') ∧
  (∀ H', atK k ps = none → Kp [] H H' → Q .non H')
theorem ok_kind_at (F : Fun K "_law_kind_at" "_law_kind_at" s_law_kind_at f fd) (z_isinstance : mg "isinstance" = none) (z_str : mg "str" = none) : FnOk P w K mg base CX0 1 f fd ["kind", "path"] spKA := by
  refine F.ok sc_law_kind_at (fun vs H Q E h => ?_) (fun cdv A outer s H vs Q E hr h => ?_)
  · obtain ⟨kv, pa, ps, k, rfl, _⟩ := h
    rfl
  obtain ⟨kv, pa, ps, k, rfl, ki, kg, hp, sp, q, qN⟩ := h
  refine ⟨_, (pss_cons (ps_for PassesOwn.never rfl (pi_tup (pv 1)) (pg_name (i := 2) sc_law_kind_at.nd rfl (Or.inr rfl)) (pss_cons (ps_if (PW.pt (pw_or (pt_cmpR op_eq (pe_ix ix_tup (pv 0) pe_int (fun _ _ => rfl)) pe_str (nomark _)) (pw_or1 (pt_cmpR op_eq (pe_ix ix_tup (pv 0) pe_int (fun _ _ => rfl)) pe_str (nomark _))))) (pss_cons (ps_ret pe_non)
    pss_nil) pss_nil)
    (pss_cons (ps_cut (ps_if (pt_cmpR op_eq (pe_ix ix_tup (pv 0) pe_int (fun _ _ => rfl)) pe_str (nomark _)) (pss_cons (ps_if (PW.pt (pw_or (pt_val (pe_inst rfl z_isinstance rfl z_str bt_str (pv 2))) (pw_or (pt_cmpR op_lt (pv 2) pe_int (nomark _)) (pw_or1 (pt_cmpR op_gt (pv 2) pe_int (nomark _)))))) (pss_cons (ps_ret pe_non)
    pss_nil) pss_nil)
    (pss_cons (ps_set (i := 0) sc_law_kind_at.nd rfl (Or.inl rfl) (pe_ix ix_tup (pv 0) pe_int (fun _ _ => rfl)))
    pss_nil)) (pss_cons (ps_comp (i := 3) (own := ["name", "one"]) (cap := [(2, "step")]) (compOkC rfl (by decide +kernel) (by decide +kernel) rfl (⟨rfl, trivial⟩) rfl (⟨⟨rfl, rfl, rfl⟩, trivial⟩)) rfl (pi_tup (pe_ix ix_tup (pv 0) pe_int (fun _ _ => rfl))) (fun _ _ _ _ => (show PG _ _ (gTup K 2 _) from pg_tup (n := 2) rfl (pgs_cons (pg_name (i := 0) (show List.Nodup (["name", "one", "step"] : List Str) from by decide +kernel) rfl (Or.inl rfl) (Or.inr rfl)) (pgs_cons (pg_name (i := 1) (show List.Nodup (["name", "one", "step"] : List Str) from by decide +kernel) rfl (Or.inl rfl) (Or.inr rfl)) pgs_nil)))) (fun _ _ _ _ => (pts_one (pt_cmpR op_eq (pv 0) (pv 2) (nomark _)))) (fun _ _ _ _ => (pv 1)) sc_law_kind_at.nd rfl rfl)
    (pss_cons (ps_if (pt_cmpR (op_eqNil hr.units0) (pv 3) (pe_lst pa_nil) (nomark _)) (pss_cons (ps_ret pe_non)
    pss_nil) pss_nil)
    (pss_cons (ps_set (i := 0) sc_law_kind_at.nd rfl (Or.inl rfl) (pe_ix ix_list (pv 3) pe_int (fun _ _ => rfl)))
    pss_nil)))))
    pss_nil)))
    (pss_cons (ps_ret (pv 0))
    pss_nil)), ?_⟩
  refine ⟨_, rfl, pa, rfl, ⟨_, SqT.of hp⟩, ?_⟩
  refine for_tup (K := K) (xs := ps) (fun i σ H' => ∃ (fv : V) (fk : Kd) (o2 o3 : Option V), σ = [some fv, some (.ref pa), o2, o3] ∧ KIn H' fv fk ∧ fk.good ∧ atK k ps = atK fk (ps.drop i) ∧ Kp [] H H') ?_ ?_ ?_ ?_
  · exact ⟨kv, k, none, none, rfl, ki, kg, rfl, Kp.refl _⟩
  · rintro i σ H' hi ⟨fv, fk, o2, o3, rfl, _, _, _, k'⟩
    exact SqT.of (k' pa _ (by simp) hp)
  · rintro i x σ H' hx ⟨fv, fk, o2, o3, rfl, fki, fkg, ea, k'⟩
    have sx := sp x (List.mem_of_getElem? hx)
    have dr : ps.drop i = x :: ps.drop (i + 1) := by
      obtain ⟨hlt, e⟩ := List.getElem?_eq_some_iff.mp hx
      rw [List.drop_eq_getElem_cons hlt, e]
    rw [dr] at ea
    have ea' : atK k ps = match stepK fk x with | some k' => atK k' (ps.drop (i + 1)) | none => none := ea
    have no : ∀ {H2 : Hp}, stepK fk x = none → Kp [] H H2 → Q .non H2 := fun es k2 => qN _ (by rw [ea', es]) k2
    rcases kd_alt fki fkg with ⟨a, fa, wd, xs, fs, rfl, ha, hfa, fin, gf, f6, hw, es, ed⟩ | ⟨a, wd, r, rfl, ha, hw, es⟩ | ⟨a, u, j, rfl, ha, rfl, ku, jg⟩
    · refine ⟨_, rfl, a, _, _, _, rfl, rfl, SqT.of ha, atI0, rfl, _, rfl, ifF (fun z => by have z' := V.str.inj (of_decide_eq_true z); rcases hw with rfl | rfl <;> revert z' <;> decide +kernel) ?_⟩
      refine ⟨_, rfl, a, _, _, _, rfl, rfl, SqT.of ha, atI0, rfl, _, rfl, ifF (fun z => by have z' := V.str.inj (of_decide_eq_true z); rcases hw with rfl | rfl <;> revert z' <;> decide +kernel) ?_⟩
      refine ⟨fun σ H' => ∃ (fv : V) (fk : Kd) (o2 o3 : Option V), σ = [some fv, some (.ref pa), o2, o3] ∧ KIn H' fv fk ∧ fk.good ∧ atK k ps = atK fk (ps.drop (i + 1)) ∧ Kp [] H H', ?_, fun _ _ h => h⟩
      refine ⟨_, rfl, a, _, _, _, rfl, rfl, SqT.of ha, atI0, rfl, _, rfl, ifF (fun z => by have z' := V.str.inj (of_decide_eq_true z); rcases hw with rfl | rfl <;> revert z' <;> decide +kernel) ?_⟩
      refine ⟨_, rfl, a, _, _, _, rfl, rfl, SqT.of ha, atI1, fa, rfl, ⟨_, SqT.of hfa⟩, fun D hD => ?_⟩
      have xl := fin.length
      refine comp_tup (K := K) (xs := xs) (fun m σ' ys H2 => ∃ (o0 o1 : Option V), σ' = [o0, o1, some x] ∧ H2 D = some (.lst ys) ∧ ys.length ≤ m ∧ ((ys = [] ∧ byName fs x = byName (fs.drop m) x) ∨ ∃ u r kk, ys = u :: r ∧ byName fs x = some kk ∧ KIn H' u kk) ∧ Kp [] H' H2) ?_ ?_ ?_ ?_ ?_
      · exact ⟨none, none, rfl, upd_same, Nat.zero_le _, .inl ⟨rfl, rfl⟩, Kp.new hD _⟩
      · rintro m σ' ys H2 hm ⟨o0, o1, rfl, hD2, hyl, _, k2⟩
        exact ⟨hD2, hyl, SqT.of (k2 fa _ (by simp) hfa)⟩
      · exact Nat.le_of_lt (small1000 (by omega))
      · rintro m y σ' ys H2 hy ⟨o0, o1, rfl, hD2, hyl, fnd, k2⟩
        obtain ⟨fx, nm, u, kk, rfl, hfx, kiu, hk⟩ := fin.get hy
        have dr2 : fs.drop m = (nm, kk) :: fs.drop (m + 1) := by
          obtain ⟨hlt, e⟩ := List.getElem?_eq_some_iff.mp hk
          rw [List.drop_eq_getElem_cons hlt, e]
        refine ⟨fx, _, rfl, SqT.of (k2 fx _ (by simp) hfx), rfl, _, _, rfl, _, _, rfl, rfl, ?_⟩
        refine ⟨_, rfl, _, rfl, sx.scal, _, rfl, ?_⟩
        refine ite2 (fun c => ?_) (fun c => ?_)
        · have c' : V.str nm = x := of_decide_eq_true c
          refine ⟨_, rfl, hD2, _, _, rfl, upd_same, by rw [List.length_append]; exact Nat.succ_le_succ hyl, .inr ?_, kp_new k2 hD⟩
          rcases fnd with ⟨rfl, e⟩ | ⟨u', r, kk', rfl, e, ki'⟩
          · refine ⟨u, [], kk, rfl, ?_, kiu⟩
            rw [e, dr2, ← c']
            show lookF ((nm, kk) :: fs.drop (m + 1)) nm = some kk
            unfold lookF
            rw [if_pos rfl]
          · exact ⟨u', r ++ [u], kk', rfl, e, ki'⟩
        · refine ⟨_, _, rfl, hD2, Nat.le_succ_of_le hyl, ?_, k2⟩
          rcases fnd with ⟨rfl, e⟩ | h
          · refine .inl ⟨rfl, ?_⟩
            rw [e, dr2]
            cases sx with
            | int i => rfl
            | @str n l =>
              show lookF ((nm, kk) :: fs.drop (m + 1)) n = lookF (fs.drop (m + 1)) n
              conv => lhs; unfold lookF
              rw [if_neg fun e => c (decide_eq_true (by rw [e]))]
          · exact .inr h
      · rintro σ' ys H2 ⟨o0, o1, rfl, hD2, hyl, fnd, k2⟩
        rw [xl, List.drop_length] at fnd
        refine ⟨_, rfl, by show 0 ≤ sizeLine; decide, fun E0 hE0 => ?_⟩
        have k3 : Kp [] H' (upd H2 E0 (.lst [])) := k2.trans (Kp.new hE0 _)
        have hD3 : (upd H2 E0 (.lst [])) D = some (.lst ys) := by rw [upd_ne (ne_of_none hD2 hE0)]; exact hD2
        refine ⟨D, E0, ys, rfl, rfl, SqL.of hD3, SqL.of upd_same, _, rfl, ?_⟩
        rcases fnd with ⟨rfl, e⟩ | ⟨u, r, kk, rfl, e, ki'⟩
        · refine ifT rfl (no ?_ (k'.trans k3))
          rw [es, e]
          cases sx <;> rfl
        · refine ifF (by simp) ⟨_, rfl, D, _, _, _, rfl, rfl, SqL.of hD3, atI0, ?_⟩
          refine ⟨u, kk, _, _, rfl, ki'.mono (kp_tp k3), byName_good gf e, ?_, k'.trans k3⟩
          rw [ea', es, e]
    · have es0 := es x
      refine ⟨_, rfl, a, _, _, _, rfl, rfl, SqT.of ha, atI0, rfl, _, rfl, ?_⟩
      refine ite2 (fun c => ?_) (fun c => ?_)
      · exact ifT rfl (no es0 k')
      · refine ⟨_, rfl, a, _, _, _, rfl, rfl, SqT.of ha, atI0, rfl, _, rfl, ?_⟩
        refine ite2 (fun c2 => ?_) (fun c2 => ?_)
        · exact no es0 k'
        · rcases hw with rfl | rfl
          · exact absurd (decide_eq_true rfl) c
          · exact absurd (decide_eq_true rfl) c2
    · refine ⟨_, rfl, a, _, _, _, rfl, rfl, SqT.of ha, atI0, rfl, _, rfl, ifF (by decide +kernel) ?_⟩
      refine ⟨_, rfl, a, _, _, _, rfl, rfl, SqT.of ha, atI0, rfl, _, rfl, ifF (by decide +kernel) ?_⟩
      refine ⟨fun σ H' => ∃ (fv : V) (fk : Kd) (o2 o3 : Option V), σ = [some fv, some (.ref pa), o2, o3] ∧ KIn H' fv fk ∧ fk.good ∧ atK k ps = atK fk (ps.drop (i + 1)) ∧ Kp [] H H', ?_, fun _ _ h => h⟩
      refine ⟨_, rfl, a, _, _, _, rfl, rfl, SqT.of ha, atI0, rfl, _, rfl, ifT (by decide +kernel) ?_⟩
      cases sx with
      | @str n l => exact ⟨_, rfl, _, rfl, _, true, TyOf.str n, rfl, _, rfl, ifT rfl (ifT rfl (no rfl k'))⟩
      | int i' =>
        refine ⟨_, rfl, _, rfl, _, false, TyOf.int i', rfl, _, rfl, ifF (by decide) ?_⟩
        refine ⟨_, rfl, _, _, rfl, rfl, _, rfl, ?_⟩
        refine ite2 (fun c => ?_) (fun c => ?_)
        · have c' : i' < 0 := of_decide_eq_true c
          refine ifT rfl (no ?_ k')
          show (if 0 ≤ i' ∧ i' < 60 then some j else none) = none
          rw [if_neg fun z => by omega]
        · have c1 : ¬ i' < 0 := fun z => c (decide_eq_true z)
          refine ⟨_, rfl, _, _, rfl, rfl, _, rfl, ?_⟩
          refine ite2 (fun c => ?_) (fun c => ?_)
          · have c' : 59 < i' := of_decide_eq_true c
            refine no ?_ k'
            show (if 0 ≤ i' ∧ i' < 60 then some j else none) = none
            rw [if_neg fun z => by omega]
          · have c2 : ¬ 59 < i' := fun z => c (decide_eq_true z)
            refine ⟨_, rfl, a, _, _, _, rfl, rfl, SqT.of ha, atI1, ?_⟩
            refine ⟨u, j, _, _, rfl, ku, jg, ?_, k'⟩
            rw [ea', show stepK (.row j) (.int i') = some j from if_pos ⟨by omega, by omega⟩]
  · rintro σ H' ⟨fv, fk, o2, o3, rfl, fki, fkg, ea, k'⟩
    rw [List.drop_length] at ea
    exact ⟨_, rfl, q fv fk H' ea fki fkg k'⟩
end
end Tg

set_option Elab.async false
set_option linter.all false
set_option maxRecDepth 100000
set_option maxHeartbeats 4000000
namespace Tg
open PySem L2
inductive Sm : V → Prop
  | int {i : Int} (l : i.natAbs ≤ 100) : Sm (.int i)
  | str {z : Str} (l : z.length ≤ 100) : Sm (.str z)
theorem Sm.stp {v : V} (h : Sm v) : Stp v := by
  cases h with
  | int l => exact .int _
  | str l => exact .str (Nat.le_trans l (by decide))
theorem mem_cut {xs : List V} {lo hi : Option Int} {x : V} (h : x ∈ cutV xs lo hi) : x ∈ xs := by
  unfold cutV at h
  exact List.mem_of_mem_drop (List.mem_of_mem_take h)
theorem goodF_nm : ∀ {fs : List (Str × Kd)} {nm : Str} {k : Kd}, goodF fs → (nm, k) ∈ fs → nm.length ≤ 8
  | (m, j) :: r, nm, k, g, h => by
    unfold goodF at g
    rcases List.mem_cons.mp h with e | h
    · cases e; exact g.1.2.1
    · exact goodF_nm g.2.2 h
section
variable {P : Program} {w : World} {K : PySem.W.Frag} {mg : Str → Option Value} {base : Heap} {f : Addr} {fd : FuncData} {v1 v2 v3 : Value} {dN : Addr}
/-! ### down -/
abbrev s_law_down : Stmt := top 29
theorem sc_law_down : FnScope ["flow", "kind", "path", "turn", "stops", "name"] ["flow", "kind"] (defScope s_law_down) := ⟨rfl, rfl, rfl, by decide +kernel, rfl, by decide +kernel, by decide +kernel⟩
def spDn : Sp := fun vs H Q _ => ∃ (a : Addr) (kv : V) (k : Kd), vs = [.ref a, kv] ∧ Flow H a ∧ KIn H kv k ∧ k.good ∧
  ∀ (pa : Addr) (ps : List V) (H' : Hp), H' pa = some (.tup ps) → ps.length ≤ 5 → (∀ p ∈ ps, Sm p) → Flow H' a → Kp [a] H H' → Q (.ref pa) H'
theorem ok_down (F : Fun K "_law_down" "_law_down" s_law_down f fd) (c_law_draw : Callee P w K mg base "_law_draw" 1 ["flow", "many"] spDraw) (z_range : mg "range" = none) (z_len : mg "len" = none) : FnOk P w K mg base CX0 2 f fd ["flow", "kind"] spDn := by
  refine F.ok sc_law_down (fun vs H Q E h => ?_) (fun cdv A outer s H vs Q E hr h => ?_)
  · obtain ⟨a, kv, k, rfl, _⟩ := h
    rfl
  obtain ⟨a, kv, k, rfl, fl, ki, kg, q⟩ := h
  refine ⟨_, (pss_cons (ps_set (i := 2) sc_law_down.nd rfl (Or.inl rfl) (pe_tup pa_nil))
    (pss_cons (ps_for PassesOwn.never rfl (pi_range1 rfl z_range (pa_cons pe_int pa_nil)) (pg_name (i := 3) sc_law_down.nd rfl (Or.inl rfl)) (pss_cons (ps_set (i := 4) sc_law_down.nd rfl (Or.inl rfl) (pe_cmpR op_eq (pe_callC c_law_draw hr (by omega) rfl (pa_cons (pv 0) (pa_cons pe_int pa_nil))) pe_int (nomark _)))
    (pss_cons (ps_if (PW.pt (pw_or (pt_val (pv 4)) (pw_or (pt_cmpR op_eq (pe_ix ix_tup (pv 1) pe_int (fun _ _ => rfl)) pe_str (nomark _)) (pw_or1 (pt_cmpR op_eq (pe_ix ix_tup (pv 1) pe_int (fun _ _ => rfl)) pe_str (nomark _)))))) (pss_cons (ps_ret (pv 2))
    pss_nil) pss_nil)
    (pss_cons (ps_cut (ps_if (pt_cmpR op_eq (pe_ix ix_tup (pv 1) pe_int (fun _ _ => rfl)) pe_str (nomark _)) (pss_cons (ps_set (i := 2) sc_law_down.nd rfl (Or.inl rfl) (pe_op op_catA (pv 2) (pe_tup (pa_cons (pe_ix ix_list (pe_lst (pa_cons pe_int (pa_cons pe_int (pa_cons pe_int (pa_cons (pe_callC c_law_draw hr (by omega) rfl (pa_cons (pv 0) (pa_cons pe_int pa_nil))) pa_nil))))) (pe_callC c_law_draw hr (by omega) rfl (pa_cons (pv 0) (pa_cons pe_int pa_nil))) (fun _ _ => rfl)) pa_nil))))
    (pss_cons (ps_set (i := 1) sc_law_down.nd rfl (Or.inl rfl) (pe_ix ix_tup (pv 1) pe_int (fun _ _ => rfl)))
    pss_nil)) (pss_cons (ps_asg (pe_ix ix_tup (pe_ix ix_tup (pv 1) pe_int (fun _ _ => rfl)) (pe_callC c_law_draw hr (by omega) rfl (pa_cons (pv 0) (pa_cons (pe_callB call_len_seq rfl z_len PySem.boot_len (pa_cons (pe_ix ix_tup (pv 1) pe_int (fun _ _ => rfl)) pa_nil)) pa_nil))) (fun _ _ => rfl)) (pg_tup (n := 2) rfl (pgs_cons (pg_name (i := 5) sc_law_down.nd rfl (Or.inl rfl)) (pgs_cons (pg_name (i := 1) sc_law_down.nd rfl (Or.inl rfl)) pgs_nil))))
    (pss_cons (ps_set (i := 2) sc_law_down.nd rfl (Or.inl rfl) (pe_op op_catA (pv 2) (pe_tup (pa_cons (pv 5) pa_nil))))
    pss_nil))))
    pss_nil))))
    (pss_cons (ps_ret (pv 2))
    pss_nil))), ?_⟩
  have up : ∀ {H1 H2 : Hp}, Kp [] H1 H2 → Kp [a] H1 H2 := fun k => k.mono (fun x hx => nomatch hx)
  have sz : ∀ n : Nat, n ≤ 1000 → n ≤ sizeLine := fun n h => Nat.le_of_lt (small1000 h)
  have fr : ∀ {G : Hp} {c : Addr}, Flow G a → G c = none → c ∉ [a] := fun fG hc => by
    obtain ⟨u, e⟩ := fG.some
    simpa using (ne_of_none e hc).symm
  refine ⟨by show 0 ≤ sizeLine; decide, fun p0 hp0 => ?_⟩
  refine ⟨5, rfl, by decide, by decide, ?_⟩
  refine for_range (fun i σ H' => ∃ (kv : V) (k : Kd) (pa : Addr) (ps : List V) (o3 o4 o5 : Option V), σ = [some (.ref a), some kv, some (.ref pa), o3, o4, o5] ∧ H' pa = some (.tup ps) ∧ ps.length ≤ i ∧ (∀ p ∈ ps, Sm p) ∧ KIn H' kv k ∧ k.good ∧ Flow H' a ∧ Kp [a] H H') ?_ ?_ ?_
  · exact ⟨kv, k, p0, [], none, none, none, rfl, upd_same, Nat.le_refl _, (fun p hp => nomatch hp), ki.mono (tp_new hp0 _), kg, fl.new hp0, Kp.new hp0 _⟩
  · rintro i σ H1 hi ⟨kv, k, pa, ps, o3, o4, o5, rfl, hpa, hpl, hps, ki, kg, fl1, k1⟩
    have hi5 : i < 5 := hi
    refine ⟨_, rfl, a, 6, rfl, fl1, by decide, by decide, fun r H2 r0 r1 fl2 k2 => ⟨rfl, ?_⟩⟩
    have t2 : Tp H1 H2 := fl1.tp k2
    have hpa2 := t2 pa _ hpa
    have ki2 := ki.mono t2
    have kH2 := k1.trans k2
    have done : Q (.ref pa) H2 := q pa ps H2 hpa2 (by omega) hps fl2 kH2
    refine ⟨_, rfl, _, rfl, ?_⟩
    refine ite2 (fun c => ifT rfl ⟨_, rfl, done⟩) (fun c => ?_)
    rcases kd_alt ki2 kg with ⟨a0, fa, wd, xs, fs, rfl, ha, hfa, fin, gf, f6, hw, es, ed⟩ | ⟨a0, wd, r', rfl, ha, hw, es⟩ | ⟨a0, u, j, rfl, ha, rfl, ku, jg⟩
    · refine ⟨_, rfl, a0, _, _, _, rfl, rfl, SqT.of ha, atI0, rfl, _, rfl, ifF (fun z => by have z' := V.str.inj (of_decide_eq_true z); rcases hw with rfl | rfl <;> revert z' <;> decide +kernel) ?_⟩
      refine ⟨_, rfl, a0, _, _, _, rfl, rfl, SqT.of ha, atI0, rfl, _, rfl, ifF (fun z => by have z' := V.str.inj (of_decide_eq_true z); rcases hw with rfl | rfl <;> revert z' <;> decide +kernel) ?_⟩
      refine ⟨fun σ H' => ∃ (kv : V) (k : Kd) (pa : Addr) (ps : List V) (o3 o4 o5 : Option V), σ = [some (.ref a), some kv, some (.ref pa), o3, o4, o5] ∧ H' pa = some (.tup ps) ∧ ps.length ≤ i + 1 ∧ (∀ p ∈ ps, Sm p) ∧ KIn H' kv k ∧ k.good ∧ Flow H' a ∧ Kp [a] H H', ?_, fun _ _ h => h⟩
      refine ⟨_, rfl, a0, _, _, _, rfl, rfl, SqT.of ha, atI0, rfl, _, rfl, ifF (fun z => by have z' := V.str.inj (of_decide_eq_true z); rcases hw with rfl | rfl <;> revert z' <;> decide +kernel) ?_⟩
      have xl := fin.length
      refine ⟨_, rfl, a0, _, _, _, rfl, rfl, SqT.of ha, atI1, _, rfl, _, rfl, a0, _, _, _, rfl, rfl, SqT.of ha, atI1, fa, _, rfl, .inr (SqT.of hfa), a, _, rfl, fl2, by omega, by omega, fun r2 H3 r20 r21 fl3 k3 => ?_⟩
      have t3 : Tp H2 H3 := fl2.tp k3
      obtain ⟨x, hx, hm⟩ := at_some (xs := xs) r20 r21
      obtain ⟨j2, hj2⟩ := List.getElem?_of_mem hm
      obtain ⟨fx, nm, u, kk, rfl, hfx, kiu, hk⟩ := fin.get hj2
      have gm := List.mem_of_getElem? hk
      refine ⟨fa, xs, _, _, rfl, rfl, SqT.of (t3 fa _ hfa), hx, fx, _, rfl, SqT.of (t3 fx _ hfx), rfl, _, _, rfl, _, _, rfl, rfl, ?_⟩
      refine ⟨_, rfl, _, rfl, by show 1 ≤ sizeLine; decide, fun p hp => ?_⟩
      have hpa3 := t3 pa _ hpa2
      refine ⟨pa, p, _, _, rfl, rfl, by rw [upd_ne (ne_of_none hpa3 hp)]; exact hpa3, upd_same, sz _ (by show ps.length + 1 ≤ 1000; omega), fun c3 G g xc => ?_⟩
      have k4 : Kp [] H3 G := (Kp.new hp _).trans g
      refine ⟨u, kk, c3, _, _, _, _, rfl, xc, by rw [List.length_append]; show ps.length + 1 ≤ i + 1; omega, ?_, (kiu.mono t3).mono (kp_tp k4), goodF_mem gf gm, fl3.kp k4 (by simp), (kH2.trans k3).trans (up k4)⟩
      intro y hy
      rcases List.mem_append.mp hy with h | h
      · exact hps y h
      · rw [List.mem_singleton.mp h]
        exact .str (by have := goodF_nm gf gm; omega)
    · refine ⟨_, rfl, a0, _, _, _, rfl, rfl, SqT.of ha, atI0, rfl, _, rfl, ?_⟩
      refine ite2 (fun c => ifT rfl ⟨_, rfl, done⟩) (fun c => ?_)
      refine ⟨_, rfl, a0, _, _, _, rfl, rfl, SqT.of ha, atI0, rfl, _, rfl, ?_⟩
      refine ite2 (fun c2 => ⟨_, rfl, done⟩) (fun c2 => ?_)
      rcases hw with rfl | rfl
      · exact absurd (decide_eq_true rfl) c
      · exact absurd (decide_eq_true rfl) c2
    · refine ⟨_, rfl, a0, _, _, _, rfl, rfl, SqT.of ha, atI0, rfl, _, rfl, ifF (by decide +kernel) ?_⟩
      refine ⟨_, rfl, a0, _, _, _, rfl, rfl, SqT.of ha, atI0, rfl, _, rfl, ifF (by decide +kernel) ?_⟩
      refine ⟨fun σ H' => ∃ (kv : V) (k : Kd) (pa : Addr) (ps : List V) (o3 o4 o5 : Option V), σ = [some (.ref a), some kv, some (.ref pa), o3, o4, o5] ∧ H' pa = some (.tup ps) ∧ ps.length ≤ i + 1 ∧ (∀ p ∈ ps, Sm p) ∧ KIn H' kv k ∧ k.good ∧ Flow H' a ∧ Kp [a] H H', ?_, fun _ _ h => h⟩
      refine ⟨_, rfl, a0, _, _, _, rfl, rfl, SqT.of ha, atI0, rfl, _, rfl, ifT (by decide +kernel) ?_⟩
      refine ⟨_, rfl, _, rfl, a, 60, rfl, fl2, by decide, by decide, fun r1 H3 r10 r11 fl3 k3 => ⟨by show 4 ≤ sizeLine; decide, fun L hL => ?_⟩⟩
      refine ⟨_, rfl, a, 4, rfl, fl3.new hL, by decide, by decide, fun r2 H4 r20 r21 fl4 k4 => ?_⟩
      obtain ⟨x, hx, hm⟩ := at_some (xs := ([0, 59, 1, r1] : List Int).map V.int) r20 (by simpa using r21)
      obtain ⟨xi, hxi, rfl⟩ := List.mem_map.mp hm
      have t4 : Tp H2 H4 := ((fl2.tp k3).trans (tp_new hL _)).trans ((fl3.new hL).tp k4)
      refine ⟨L, _, _, _, rfl, rfl, SqL.of (k4 L _ (fr fl3 hL) upd_same), hx, by show 1 ≤ sizeLine; decide, fun p hp => ?_⟩
      have hpa4 := t4 pa _ hpa2
      refine ⟨pa, p, _, _, rfl, rfl, by rw [upd_ne (ne_of_none hpa4 hp)]; exact hpa4, upd_same, sz _ (by show ps.length + 1 ≤ 1000; omega), fun c3 G g xc => ?_⟩
      have k5 : Kp [] H4 G := (Kp.new hp _).trans g
      refine ⟨_, rfl, a0, _, _, _, rfl, rfl, SqT.of (k5 a0 _ (by simp) (t4 a0 _ ha)), atI1, ?_⟩
      refine ⟨u, j, c3, _, _, _, _, rfl, xc, by rw [List.length_append]; show ps.length + 1 ≤ i + 1; omega, ?_, (ku.mono t4).mono (kp_tp k5), jg, fl4.kp k5 (by simp), (((kH2.trans k3).trans (Kp.new hL _)).trans k4).trans (up k5)⟩
      intro y hy
      rcases List.mem_append.mp hy with h | h
      · exact hps y h
      · rw [List.mem_singleton.mp h]
        refine .int ?_
        simp only [List.mem_cons, List.not_mem_nil, or_false] at hxi
        omega
  · rintro σ H1 ⟨kv, k, pa, ps, o3, o4, o5, rfl, hpa, hpl, hps, ki, kg, fl1, k1⟩
    have hpl' : ps.length ≤ 5 := hpl
    exact ⟨_, rfl, q pa ps H1 hpa hpl' hps fl1 k1⟩
end
end Tg

set_option Elab.async false
set_option linter.all false
set_option maxRecDepth 100000
set_option maxHeartbeats 4000000
namespace Tg
open PySem L2
theorem str_app_len (x y : Str) : (x ++ y).length = x.length + y.length := by
  show (x.cps ++ y.cps).size = _
  rw [Array.size_append]
  rfl
theorem cut_len {z u : Str} {lo hi : Option Int} (e : u.cps.toList = cutN z.cps.toList lo hi) : u.length ≤ z.length := by
  have h1 : u.cps.toList.length = u.length := by rw [Array.length_toList]; rfl
  have h2 : z.cps.toList.length = z.length := by rw [Array.length_toList]; rfl
  have h3 := cutN_length z.cps.toList lo hi
  rw [← e] at h3
  omega
theorem str_short {i : Int} (h : i.natAbs ≤ 100) : (Str.ofString (toString i)).length ≤ 1000 := by
  have k1 : ∀ k : Fin 101, (Str.ofString (toString ((k.val : Nat) : Int))).length ≤ 1000 := by decide +kernel
  have k2 : ∀ k : Fin 101, (Str.ofString (toString (-((k.val : Nat) : Int)))).length ≤ 1000 := by decide +kernel
  rcases Int.natAbs_eq i with e | e
  · rw [e]; exact k1 ⟨i.natAbs, by omega⟩
  · rw [e]; exact k2 ⟨i.natAbs, by omega⟩
theorem cutV_tail {ps : List V} {at_ : Int} (h : 0 ≤ at_) : (cutV ps (some at_) none).length = ps.length - at_.toNat := by
  unfold cutV
  rw [List.length_take, List.length_drop]
  show min (ps.length - (if at_ < 0 then _ else min at_.toNat ps.length)) (ps.length - (if at_ < 0 then _ else min at_.toNat ps.length)) = _
  rw [if_neg (by omega)]
  omega
section
variable {P : Program} {w : World} {K : PySem.W.Frag} {mg : Str → Option Value} {base : Heap} {f : Addr} {fd : FuncData} {v1 v2 v3 : Value} {dN : Addr}
/-! ### bent -/
abbrev s_law_bent : Stmt := top 26
theorem sc_law_bent : FnScope ["flow", "path", "way", "at", "step"] ["flow", "path"] (defScope s_law_bent) := ⟨rfl, rfl, rfl, by decide +kernel, rfl, by decide +kernel, by decide +kernel⟩
def spBt : Sp := fun vs H Q _ => ∃ (a pa : Addr) (ps : List V), vs = [.ref a, .ref pa] ∧ Flow H a ∧ H pa = some (.tup ps) ∧ ps.length ≤ 5 ∧ (∀ p ∈ ps, Sm p) ∧
  ∀ (pb : Addr) (qs : List V) (H' : Hp), H' pb = some (.tup qs) → (∀ p ∈ qs, Stp p) → Kp [a] H H' → Q (.ref pb) H'
theorem ok_bent (F : Fun K "_law_bent" "_law_bent" s_law_bent f fd) (c_law_draw : Callee P w K mg base "_law_draw" 1 ["flow", "many"] spDraw) (z_isinstance : mg "isinstance" = none) (z_str : mg "str" = none) (z_list : mg "list" = none) (z_min : mg "min" = none) (z_len : mg "len" = none) : FnOk P w K mg base CX0 2 f fd ["flow", "path"] spBt := by
  refine F.ok sc_law_bent (fun vs H Q E h => ?_) (fun cdv A outer s H vs Q E hr h => ?_)
  · obtain ⟨a, pa, ps, rfl, _⟩ := h
    rfl
  obtain ⟨a, pa, ps, rfl, fl, hpa, hpl, hps, q⟩ := h
  refine ⟨_, (pss_cons (ps_set (i := 2) sc_law_bent.nd rfl (Or.inl rfl) (pe_callC c_law_draw hr (by omega) rfl (pa_cons (pv 0) (pa_cons pe_int pa_nil))))
    (pss_cons (ps_set (i := 3) sc_law_bent.nd rfl (Or.inl rfl) (pe_callC c_law_draw hr (by omega) rfl (pa_cons (pv 0) (pa_cons (pe_op op_add (pe_callB call_len_seq rfl z_len PySem.boot_len (pa_cons (pv 1) pa_nil)) pe_int) pa_nil))))
    (pss_cons (ps_set (i := 4) sc_law_bent.nd rfl (Or.inl rfl) (pe_ix ix_list (pe_op op_cat (pe_lst (pa_cons pe_str pa_nil)) (pe_callTy call_list_of rfl z_list bt_list (pa_cons (pe_slice sl_tupB (pv 1) (po_some (pv 3)) po_none) pa_nil))) (pe_callB (call_min2 rfl) rfl z_min PyProof.Rows.boot_min (pa_cons pe_int (pa_cons (pe_op op_sub (pe_callB call_len_seq rfl z_len PySem.boot_len (pa_cons (pv 1) pa_nil)) (pv 3)) pa_nil))) (fun _ _ => rfl)))
    (pss_cons (ps_cut (ps_if (pt_val (pe_inst rfl z_isinstance rfl z_str bt_str (pv 4))) (pss_cons (ps_set (i := 4) sc_law_bent.nd rfl (Or.inl rfl) (pe_ix ix_list (pe_lst (pa_cons (pe_op op_add_str (pv 4) pe_str) (pa_cons (pe_slice sl_str (pv 4) (po_some pe_int) po_none) (pa_cons (pe_slice sl_str (pv 4) po_none (po_some (pe_un un_neg pe_int))) (pa_cons (pe_rev rv_str (pv 4) (pe_un un_neg pe_int)) (pa_cons pe_str (pa_cons pe_int (pa_cons pe_str (pa_cons pe_int pa_nil))))))))) (pe_callC c_law_draw hr (by omega) rfl (pa_cons (pv 0) (pa_cons pe_int pa_nil))) (fun _ _ => rfl)))
    pss_nil) (pss_cons (ps_set (i := 4) sc_law_bent.nd rfl (Or.inl rfl) (pe_ix ix_list (pe_lst (pa_cons (pe_op op_add (pv 4) pe_int) (pa_cons (pe_op op_sub (pv 4) pe_int) (pa_cons (pe_op op_sub (pe_un un_neg pe_int) (pv 4)) (pa_cons pe_int (pa_cons pe_int (pa_cons pe_str (pa_cons (pe_callTy call_str_int rfl z_str bt_str (pa_cons (pv 4) pa_nil)) (pa_cons (pe_op op_pow pe_int pe_int) pa_nil))))))))) (pe_callC c_law_draw hr (by omega) rfl (pa_cons (pv 0) (pa_cons pe_int pa_nil))) (fun _ _ => rfl)))
    pss_nil)))
    (pss_cons (ps_if (pt_cmpR op_eq (pv 2) pe_int (nomark _)) (pss_cons (ps_ret (pe_op op_catA (pe_slice sl_tupB (pv 1) po_none (po_some (pv 3))) (pe_slice sl_tupB (pv 1) (po_some (pe_op op_add (pv 3) pe_int)) po_none)))
    pss_nil) pss_nil)
    (pss_cons (ps_if (pt_cmpR op_eq (pv 2) pe_int (nomark _)) (pss_cons (ps_ret (pe_op op_catA (pe_op op_catA (pe_slice sl_tupB (pv 1) po_none (po_some (pv 3))) (pe_tup (pa_cons (pv 4) pa_nil))) (pe_slice sl_tupB (pv 1) (po_some (pv 3)) po_none)))
    pss_nil) pss_nil)
    (pss_cons (ps_ret (pe_op op_catA (pe_op op_catA (pe_slice sl_tupB (pv 1) po_none (po_some (pv 3))) (pe_tup (pa_cons (pv 4) pa_nil))) (pe_slice sl_tupB (pv 1) (po_some (pe_op op_add (pv 3) pe_int)) po_none)))
    pss_nil))))))), ?_⟩
  have up : ∀ {H1 H2 : Hp}, Kp [] H1 H2 → Kp [a] H1 H2 := fun k => k.mono (fun x hx => nomatch hx)
  have sz : ∀ n : Nat, n ≤ 1000 → n ≤ sizeLine := fun n h => Nat.le_of_lt (small1000 h)
  have fr : ∀ {G : Hp} {c : Addr}, Flow G a → G c = none → c ∉ [a] := fun fG hc => by
    obtain ⟨u, e⟩ := fG.some
    simpa using (ne_of_none e hc).symm
  refine ⟨_, rfl, a, 8, rfl, fl, by decide, by decide, fun way H1 w0 w8 fl1 k1 => ?_⟩
  have h1 := fl.tp k1 pa _ hpa
  refine ⟨_, rfl, _, rfl, pa, _, rfl, .inr (SqT.of h1), _, _, rfl, rfl, a, _, rfl, fl1, by show (0 : Int) < (ps.length : Int) + 1; omega, by show (ps.length : Int) + 1 < 2 ^ 200; omega, fun at_ H2 a0 a1 fl2 k2 => ?_⟩
  have a1' : at_ < (ps.length : Int) + 1 := a1
  have h2 := fl1.tp k2 pa _ h1
  have kH2 := k1.trans k2
  -- the step that stands there
  refine ⟨by show 1 ≤ sizeLine; decide, fun l1 hl1 => ?_⟩
  have e1 : Kp [] H2 (upd H2 l1 (.lst [.str ""])) := Kp.new hl1 _
  refine ⟨_, rfl, _, rfl, _, rfl, pa, _, rfl, e1 pa _ (by simp) h2, fun c1 G1 g1 x1 => ?_⟩
  refine ⟨c1, _, rfl, .inr (SqT.of x1), fun l2 hl2 => ?_⟩
  have e2 : Kp [] G1 (upd G1 l2 (.lst (cutV ps (some at_) none))) := Kp.new hl2 _
  have cl := cutV_tail (ps := ps) a0
  refine ⟨l1, l2, _, _, rfl, rfl, e2 l1 _ (by simp) (g1 l1 _ (by simp) upd_same), upd_same, sz _ (by show 1 + (cutV ps (some at_) none).length ≤ 1000; omega), fun R hR => ?_⟩
  have e3 : Kp [] H2 (upd (upd G1 l2 (.lst (cutV ps (some at_) none))) R (.lst ([.str ""] ++ cutV ps (some at_) none))) := ((e1.trans g1).trans e2).trans (Kp.new hR _)
  refine ⟨_, rfl, pa, _, rfl, .inr (SqT.of (e3 pa _ (by simp) h2)), _, rfl, _, _, rfl, rfl, _, _, rfl, ?_⟩
  obtain ⟨x, hx, hm⟩ := at_some (xs := [V.str ""] ++ cutV ps (some at_) none) (r := if (ps.length : Int) - at_ < 1 then (ps.length : Int) - at_ else 1) (by split <;> omega) (by rw [List.length_append]; show (if (ps.length : Int) - at_ < 1 then (ps.length : Int) - at_ else 1) < ((1 + (cutV ps (some at_) none).length : Nat) : Int); split <;> omega)
  refine ⟨R, _, _, _, rfl, rfl, SqL.of upd_same, hx, ?_⟩
  have smx : Sm x := by
    rcases List.mem_append.mp hm with h | h
    · rw [List.mem_singleton.mp h]; exact .str (by decide +kernel)
    · exact hps x (mem_cut h)
  generalize hG : upd (upd G1 l2 (.lst (cutV ps (some at_) none))) R (.lst ([.str ""] ++ cutV ps (some at_) none)) = H3 at e3 ⊢
  have fl3 := fl2.kp e3 (by simp)
  have h3 := e3 pa _ (by simp) h2
  have kH3 := kH2.trans (up e3)
  refine ⟨fun σ H' => ∃ x : V, σ = [some (.ref a), some (.ref pa), some (.int way), some (.int at_), some x] ∧ Stp x ∧ H' pa = some (.tup ps) ∧ Kp [a] H H', ?_, ?_⟩
  · cases smx with
    | @str z l =>
      have zs : z.length ≤ sizeLine := sz _ (by omega)
      refine ⟨_, rfl, _, rfl, _, true, TyOf.str z, rfl, _, rfl, ifT rfl ?_⟩
      have al : ("a" : Str).length = 1 := by decide +kernel
      refine ⟨_, rfl, _, _, rfl, rfl, sz _ (by rw [al]; omega), ?_⟩
      refine ⟨_, rfl, _, rfl, z, rfl, zs, fun u1 q1 => ?_⟩
      refine ⟨_, rfl, _, rfl, _, rfl, z, rfl, zs, fun u2 q2 => ?_⟩
      refine ⟨_, rfl, _, rfl, rfl, z, rfl, zs, fun u3 q3 => ?_⟩
      refine ⟨by show 8 ≤ sizeLine; decide, fun L hL => ?_⟩
      refine ⟨_, rfl, a, 8, rfl, fl3.new hL, by decide, by decide, fun r H4 r0 r1 fl4 k4 => ?_⟩
      obtain ⟨y, hy, hym⟩ := at_some (xs := [V.str (z ++ "a"), V.str u1, V.str u2, V.str u3, V.str "", V.int 0, V.str "row", V.int 1]) r0 r1
      refine ⟨L, _, _, _, rfl, rfl, SqL.of (k4 L _ (fr fl3 hL) upd_same), hy, y, rfl, ?_, ((tp_new hL _).trans ((fl3.new hL).tp k4)) pa _ h3, (kH3.trans (Kp.new hL _)).trans k4⟩
      have c1 := cut_len q1
      have c2 := cut_len q2
      simp only [List.mem_cons, List.not_mem_nil, or_false] at hym
      rcases hym with rfl | rfl | rfl | rfl | rfl | rfl | rfl | rfl
      · exact .str (by rw [str_app_len, al]; omega)
      · exact .str (by omega)
      · exact .str (by omega)
      · exact .str (by omega)
      · exact .str (by decide +kernel)
      · exact .int _
      · exact .str (by decide +kernel)
      · exact .int _
    | @int i l =>
      refine ⟨_, rfl, _, rfl, _, false, TyOf.int i, rfl, _, rfl, ifF (by decide) ?_⟩
      have lg : i.natAbs.log2 < 1920 := Nat.lt_of_le_of_lt (Nat.log2_le_self _) (by omega)
      refine ⟨_, rfl, _, _, rfl, rfl, _, rfl, _, _, rfl, rfl, _, rfl, _, rfl, _, _, rfl, rfl, _, rfl, i, rfl, lg, _, _, rfl, rfl, ⟨by decide, by decide, by decide⟩, by show 8 ≤ sizeLine; decide, fun L hL => ?_⟩
      refine ⟨_, rfl, a, 8, rfl, fl3.new hL, by decide, by decide, fun r H4 r0 r1 fl4 k4 => ?_⟩
      obtain ⟨y, hy, hym⟩ := at_some (xs := [V.int (i + 1), V.int (i - 1), V.int (-1 - i), V.int 60, V.int 59, V.str "a", V.str (toString i), V.int (10 ^ (12 : Int).toNat)]) r0 r1
      refine ⟨L, _, _, _, rfl, rfl, SqL.of (k4 L _ (fr fl3 hL) upd_same), hy, y, rfl, ?_, ((tp_new hL _).trans ((fl3.new hL).tp k4)) pa _ h3, (kH3.trans (Kp.new hL _)).trans k4⟩
      simp only [List.mem_cons, List.not_mem_nil, or_false] at hym
      rcases hym with rfl | rfl | rfl | rfl | rfl | rfl | rfl | rfl
      · exact .int _
      · exact .int _
      · exact .int _
      · exact .int _
      · exact .int _
      · exact .str (by decide +kernel)
      · exact .str (str_short l)
      · exact .int _
  rintro σ H4 ⟨x', rfl, sx, h4, k4⟩
  have cl2 : ∀ lo hi, (cutV ps lo hi).length ≤ 5 := fun lo hi => Nat.le_trans (cutV_length ps lo hi) hpl
  have mc : ∀ {lo hi : Option Int} {u : V}, u ∈ cutV ps lo hi → Stp u := fun h => (hps _ (mem_cut h)).stp
  refine ⟨_, rfl, rfl, _, rfl, ?_⟩
  refine ite2 (fun c => ?_) (fun c => ?_)
  · refine ⟨_, rfl, _, rfl, _, rfl, pa, _, rfl, h4, fun c1 G1 g1 x1 => ?_⟩
    refine ⟨_, rfl, _, rfl, _, _, rfl, rfl, _, rfl, pa, _, rfl, g1 pa _ (by simp) h4, fun c2 G2 g2 x2 => ?_⟩
    refine ⟨c1, c2, _, _, rfl, rfl, g2 c1 _ (by simp) x1, x2, sz _ (by have := cl2 none (some at_); have := cl2 (some (at_ + 1)) none; omega), fun c3 G3 g3 x3 => ?_⟩
    exact q c3 _ G3 x3 (fun y hy => (List.mem_append.mp hy).elim mc mc) (k4.trans (up ((g1.trans g2).trans g3)))
  refine ⟨_, rfl, rfl, _, rfl, ?_⟩
  refine ite2 (fun c => ?_) (fun c => ?_)
  · refine ⟨_, rfl, _, rfl, _, rfl, pa, _, rfl, h4, fun c1 G1 g1 x1 => ?_⟩
    refine ⟨_, rfl, by show 1 ≤ sizeLine; decide, fun p hp => ?_⟩
    refine ⟨c1, p, _, _, rfl, rfl, by rw [upd_ne (ne_of_none x1 hp)]; exact x1, upd_same, sz _ (by have := cl2 none (some at_); show (cutV ps none (some at_)).length + 1 ≤ 1000; omega), fun c2 G2 g2 x2 => ?_⟩
    have e5 : Kp [] H4 G2 := (g1.trans (Kp.new hp _)).trans g2
    refine ⟨_, rfl, _, rfl, _, rfl, pa, _, rfl, e5 pa _ (by simp) h4, fun c3 G3 g3 x3 => ?_⟩
    refine ⟨c2, c3, _, _, rfl, rfl, g3 c2 _ (by simp) x2, x3, sz _ (by rw [List.length_append]; have := cl2 none (some at_); have := cl2 (some at_) none; show (cutV ps none (some at_)).length + 1 + (cutV ps (some at_) none).length ≤ 1000; omega), fun c4 G4 g4 x4 => ?_⟩
    refine q c4 _ G4 x4 (fun y hy => ?_) (k4.trans (up ((e5.trans g3).trans g4)))
    rcases List.mem_append.mp hy with hy | hy
    · rcases List.mem_append.mp hy with hy | hy
      · exact mc hy
      · rw [List.mem_singleton.mp hy]; exact sx
    · exact mc hy
  · refine ⟨_, rfl, _, rfl, _, rfl, pa, _, rfl, h4, fun c1 G1 g1 x1 => ?_⟩
    refine ⟨_, rfl, by show 1 ≤ sizeLine; decide, fun p hp => ?_⟩
    refine ⟨c1, p, _, _, rfl, rfl, by rw [upd_ne (ne_of_none x1 hp)]; exact x1, upd_same, sz _ (by have := cl2 none (some at_); show (cutV ps none (some at_)).length + 1 ≤ 1000; omega), fun c2 G2 g2 x2 => ?_⟩
    have e5 : Kp [] H4 G2 := (g1.trans (Kp.new hp _)).trans g2
    refine ⟨_, rfl, _, rfl, _, _, rfl, rfl, _, rfl, pa, _, rfl, e5 pa _ (by simp) h4, fun c3 G3 g3 x3 => ?_⟩
    refine ⟨c2, c3, _, _, rfl, rfl, g3 c2 _ (by simp) x2, x3, sz _ (by rw [List.length_append]; have := cl2 none (some at_); have := cl2 (some (at_ + 1)) none; show (cutV ps none (some at_)).length + 1 + (cutV ps (some (at_ + 1)) none).length ≤ 1000; omega), fun c4 G4 g4 x4 => ?_⟩
    refine q c4 _ G4 x4 (fun y hy => ?_) (k4.trans (up ((e5.trans g3).trans g4)))
    rcases List.mem_append.mp hy with hy | hy
    · rcases List.mem_append.mp hy with hy | hy
      · exact mc hy
      · rw [List.mem_singleton.mp hy]; exact sx
    · exact mc hy
end
end Tg

set_option Elab.async false
set_option linter.all false
set_option maxRecDepth 100000
set_option maxHeartbeats 4000000
namespace Tg
open PySem L2
/-- the same thing twice, with its size -/
inductive Eqv (H : Hp) : Nat → V → V → Prop
  | int (i : Int) : Eqv H 1 (.int i) (.int i)
  | str {z : Str} (l : z.length ≤ 1000) : Eqv H 1 (.str z) (.str z)
  | tup {a b : Addr} {xs ys : List V} {ns : List Nat} (h1 : H a = some (.tup xs)) (h2 : H b = some (.tup ys)) (l : xs.length = ys.length) (ln : ns.length = xs.length)
      (q : ∀ (j : Nat) (x y : V) (n : Nat), xs[j]? = some x → ys[j]? = some y → ns[j]? = some n → Eqv H n x y) : Eqv H (1 + ns.sum) (.ref a) (.ref b)
theorem Eqv.keep {H H' : Hp} (k : Kp [] H H') {n : Nat} {v v' : V} (e : Eqv H n v v') : Eqv H' n v v' := by
  induction e with
  | int i => exact .int i
  | str l => exact .str l
  | tup h1 h2 l ln q ih => exact .tup (k _ _ (by simp) h1) (k _ _ (by simp) h2) l ln ih
theorem Eqv.tp {H H' : Hp} (k : Tp H H') {n : Nat} {v v' : V} (e : Eqv H n v v') : Eqv H' n v v' := by
  induction e with
  | int i => exact .int i
  | str l => exact .str l
  | tup h1 h2 l ln q ih => exact .tup (k _ _ h1) (k _ _ h2) l ln ih
theorem Eqv.pos {H : Hp} {n : Nat} {v v' : V} (e : Eqv H n v v') : 1 ≤ n := by
  cases e with
  | int i => exact Nat.le_refl _
  | str l => exact Nat.le_refl _
  | tup h1 h2 l ln q => omega
theorem eqv1 {H : Hp} {a b : Addr} {x y : V} {n : Nat} (h1 : H a = some (.tup [x])) (h2 : H b = some (.tup [y])) (e : Eqv H n x y) : Eqv H (1 + [n].sum) (.ref a) (.ref b) :=
  .tup h1 h2 rfl rfl fun j x' y' n' e1 e2 e3 => by
    match j with
    | 0 => cases e1; cases e2; cases e3; exact e
    | j + 1 => simp at e1
theorem eqv2 {H : Hp} {a b : Addr} {x y x2 y2 : V} {n n2 : Nat} (h1 : H a = some (.tup [x, x2])) (h2 : H b = some (.tup [y, y2])) (e : Eqv H n x y) (e' : Eqv H n2 x2 y2) : Eqv H (1 + [n, n2].sum) (.ref a) (.ref b) :=
  .tup h1 h2 rfl rfl fun j x' y' n' e1 e2 e3 => by
    match j with
    | 0 => cases e1; cases e2; cases e3; exact e
    | 1 => cases e1; cases e2; cases e3; exact e'
    | j + 2 => simp at e1
theorem pw_pos (d : Nat) : 1 ≤ 21 ^ d := Nat.one_le_pow _ _ (by decide)
mutual
theorem kin_eqv {H : Hp} : ∀ (k : Kd) {v v' : V}, KIn H v k → KIn H v' k → k.good → ∃ n, n ≤ 21 ^ k.depth ∧ Eqv H n v v'
  | .num w, v, v', h, h', g => by
    unfold KIn at h h'
    obtain ⟨a, rfl, e⟩ := h
    obtain ⟨b, rfl, e'⟩ := h'
    exact ⟨_, by rw [Kd.depth]; show 1 + (1 + (1 + 0)) ≤ 21 ^ 1; decide, eqv2 e e' (.str (by decide +kernel)) (.int w)⟩
  | .text, v, v', h, h', g => by
    unfold KIn at h h'
    obtain ⟨a, rfl, e⟩ := h
    obtain ⟨b, rfl, e'⟩ := h'
    exact ⟨_, by rw [Kd.depth]; show 1 + (1 + 0) ≤ 21 ^ 1; decide, eqv1 e e' (.str (by decide +kernel))⟩
  | .row k, v, v', h, h', g => by
    unfold KIn at h h'
    unfold Kd.good at g
    obtain ⟨a, u, rfl, e, q⟩ := h
    obtain ⟨b, u', rfl, e', q'⟩ := h'
    obtain ⟨n, hn, ev⟩ := kin_eqv k q q' g
    refine ⟨_, ?_, eqv2 e e' (.str (by decide +kernel)) ev⟩
    rw [Kd.depth, Nat.pow_succ]
    show 1 + (1 + (n + 0)) ≤ _
    have := pw_pos k.depth
    omega
  | .rec_ fs, v, v', h, h', g => by
    unfold KIn at h h'
    unfold Kd.good at g
    obtain ⟨a, fa, xs, rfl, e, e2, q⟩ := h
    obtain ⟨b, fb, ys, rfl, e', e2', q'⟩ := h'
    obtain ⟨ns, hl, hs, ev⟩ := fin_eqv fs q q' g.1
    have l1 := q.length
    have l2 := q'.length
    refine ⟨_, ?_, eqv2 e e' (.str (by decide +kernel)) (.tup e2 e2' (by omega) (by omega) ev)⟩
    rw [Kd.depth, Nat.pow_succ]
    show 1 + (1 + (1 + ns.sum + 0)) ≤ _
    have := pw_pos (depthF fs)
    have h6 := g.2.2.1
    have : fs.length * (2 + 21 ^ depthF fs) ≤ 6 * (2 + 21 ^ depthF fs) := Nat.mul_le_mul_right _ h6
    omega
  | .pick fs, v, v', h, h', g => by
    unfold KIn at h h'
    unfold Kd.good at g
    obtain ⟨a, fa, xs, rfl, e, e2, q⟩ := h
    obtain ⟨b, fb, ys, rfl, e', e2', q'⟩ := h'
    obtain ⟨ns, hl, hs, ev⟩ := fin_eqv fs q q' g.1
    have l1 := q.length
    have l2 := q'.length
    refine ⟨_, ?_, eqv2 e e' (.str (by decide +kernel)) (.tup e2 e2' (by omega) (by omega) ev)⟩
    rw [Kd.depth, Nat.pow_succ]
    show 1 + (1 + (1 + ns.sum + 0)) ≤ _
    have := pw_pos (depthF fs)
    have h6 := g.2.2.1
    have : fs.length * (2 + 21 ^ depthF fs) ≤ 6 * (2 + 21 ^ depthF fs) := Nat.mul_le_mul_right _ h6
    omega
theorem fin_eqv {H : Hp} : ∀ (fs : List (Str × Kd)) {xs ys : List V}, FIn H xs fs → FIn H ys fs → goodF fs → ∃ ns : List Nat, ns.length = fs.length ∧ ns.sum ≤ fs.length * (2 + 21 ^ depthF fs) ∧ ∀ (j : Nat) (x y : V) (n : Nat), xs[j]? = some x → ys[j]? = some y → ns[j]? = some n → Eqv H n x y
  | [], xs, ys, h, h', g => ⟨[], rfl, by simp, fun j x y n _ _ e => by simp at e⟩
  | (nm, k) :: r, xs, ys, h, h', g => by
    unfold FIn at h h'
    unfold goodF at g
    obtain ⟨p, u, zs, rfl, e, q, z⟩ := h
    obtain ⟨p', u', zs', rfl, e', q', z'⟩ := h'
    obtain ⟨n, hn, ev⟩ := kin_eqv k q q' g.2.1
    obtain ⟨ns, hl, hs, evs⟩ := fin_eqv r z z' g.2.2
    have hh := eqv2 e e' (.str (by have := g.1.2.1; omega)) ev
    refine ⟨(1 + [1, n].sum) :: ns, by rw [List.length_cons, List.length_cons, hl], ?_, fun j x y m e1 e2 e3 => ?_⟩
    · rw [List.sum_cons, List.length_cons]
      show 1 + (1 + (n + 0)) + ns.sum ≤ (r.length + 1) * (2 + 21 ^ depthF ((nm, k) :: r))
      rw [depthF]
      have p1 : 21 ^ k.depth ≤ 21 ^ max k.depth (depthF r) := Nat.pow_le_pow_right (by decide) (Nat.le_max_left _ _)
      have p2 : 21 ^ depthF r ≤ 21 ^ max k.depth (depthF r) := Nat.pow_le_pow_right (by decide) (Nat.le_max_right _ _)
      have p3 : r.length * (2 + 21 ^ depthF r) ≤ r.length * (2 + 21 ^ max k.depth (depthF r)) := Nat.mul_le_mul_left _ (by omega)
      rw [Nat.succ_mul]
      omega
    · match j with
      | 0 => cases e1; cases e2; cases e3; exact hh
      | j + 1 => exact evs j x y m e1 e2 e3
end
/-- pairs on the stack -/
def Prl (H : Hp) (ts : List Addr) (ns : List Nat) : Prop := ns.length = ts.length ∧ ∀ (j : Nat) (t : Addr) (n : Nat), ts[j]? = some t → ns[j]? = some n → ∃ x y, H t = some (.tup [x, y]) ∧ Eqv H n x y
theorem Prl.keep {H H' : Hp} (k : Kp [] H H') {ts : List Addr} {ns : List Nat} (h : Prl H ts ns) : Prl H' ts ns := ⟨h.1, fun j t n e1 e2 => by
  obtain ⟨x, y, a, b⟩ := h.2 j t n e1 e2
  exact ⟨x, y, k _ _ (by simp) a, b.keep k⟩⟩
theorem Prl.app {H : Hp} {ts us : List Addr} {ns ms : List Nat} (h : Prl H ts ns) (h' : Prl H us ms) : Prl H (ts ++ us) (ns ++ ms) := ⟨by rw [List.length_append, List.length_append, h.1, h'.1], fun j t n e1 e2 => by
  by_cases hj : j < ts.length
  · rw [List.getElem?_append_left hj] at e1
    rw [List.getElem?_append_left (by rw [h.1]; exact hj)] at e2
    exact h.2 j t n e1 e2
  · rw [List.getElem?_append_right (by omega)] at e1
    rw [List.getElem?_append_right (by rw [h.1]; omega), h.1] at e2
    exact h'.2 _ t n e1 e2⟩
theorem Prl.len {H : Hp} {ts : List Addr} {ns : List Nat} (h : Prl H ts ns) : ts.length ≤ ns.sum := by
  have : ∀ (ns : List Nat), (∀ n ∈ ns, 1 ≤ n) → ns.length ≤ ns.sum := by
    intro ns
    induction ns with
    | nil => intro _; exact Nat.le_refl _
    | cons x r ih =>
      intro hp
      have h1 := hp x List.mem_cons_self
      have h2 := ih fun y hy => hp y (List.mem_cons_of_mem _ hy)
      rw [List.length_cons, List.sum_cons]
      omega
  rw [← h.1]
  refine this ns fun n hn => ?_
  obtain ⟨j, hj⟩ := List.getElem?_of_mem hn
  have hl := (List.getElem?_eq_some_iff.mp hj).1
  have hl2 : j < ts.length := by rw [← h.1]; exact hl
  obtain ⟨x, y, _, e⟩ := h.2 j (ts[j]'hl2) n (List.getElem?_eq_getElem hl2) hj
  exact e.pos
theorem snoc_cases {α : Type} (l : List α) : l = [] ∨ ∃ r x, l = r ++ [x] := by
  induction l with
  | nil => exact .inl rfl
  | cons x r ih =>
    rcases ih with rfl | ⟨r', y, rfl⟩
    · exact .inr ⟨[], x, rfl⟩
    · exact .inr ⟨x :: r', y, rfl⟩
theorem Prl.init {H : Hp} {ts : List Addr} {t : Addr} {ns : List Nat} (h : Prl H (ts ++ [t]) ns) : ∃ ns0 n x y, ns = ns0 ++ [n] ∧ Prl H ts ns0 ∧ H t = some (.tup [x, y]) ∧ Eqv H n x y := by
  rcases snoc_cases ns with rfl | ⟨ns0, n, rfl⟩
  · have := h.1; simp at this
  have hl : ns0.length = ts.length := by have := h.1; simp at this; exact this
  obtain ⟨x, y, a, b⟩ := h.2 ts.length t n (by simp) (by rw [← hl]; simp)
  refine ⟨ns0, n, x, y, rfl, ⟨hl, fun j t' n' e1 e2 => ?_⟩, a, b⟩
  have j1 := (List.getElem?_eq_some_iff.mp e1).1
  exact h.2 j t' n' (by rw [List.getElem?_append_left j1]; exact e1) (by rw [List.getElem?_append_left (by omega)]; exact e2)
section
variable {P : Program} {w : World} {K : PySem.W.Frag} {mg : Str → Option Value} {base : Heap} {f : Addr} {fd : FuncData} {v1 v2 v3 : Value} {dN : Addr}
abbrev s_law_same : Stmt := top 28
theorem sc_law_same : FnScope ["found", "due", "left", "one", "other"] ["found", "due"] (defScope s_law_same) := ⟨rfl, rfl, rfl, by decide +kernel, rfl, by decide +kernel, by decide +kernel⟩
def spSame : Sp := fun vs H Q _ => ∃ (v v' : V) (k : Kd), vs = [v, v'] ∧ KIn H v k ∧ KIn H v' k ∧ k.good ∧ k.depth ≤ 5 ∧ ∀ H', Kp [] H H' → Q (.bl true) H'
theorem ok_same (F : Fun K "_law_same" "_law_same" s_law_same f fd) (z_isinstance : mg "isinstance" = none) (z_tuple : mg "tuple" = none) (z_str : mg "str" = none) (z_int : mg "int" = none) (z_bool : mg "bool" = none) (z_len : mg "len" = none) (z_list : mg "list" = none) (z_zip : mg "zip" = none) :
    FnOk P w K mg base CX0 1 f fd ["found", "due"] spSame := by
  refine F.ok sc_law_same (fun vs H Q E h => ?_) (fun cdv A outer s H vs Q E hr h => ?_)
  · obtain ⟨v, v', k, rfl, _⟩ := h
    rfl
  obtain ⟨v, v', k, rfl, ki, ki', kg, kd, q⟩ := h
  refine ⟨_, (pss_cons (ps_set (i := 2) sc_law_same.nd rfl (Or.inl rfl) (pe_lst (pa_cons (pe_tup (pa_cons (pv 0) (pa_cons (pv 1) pa_nil))) pa_nil)))
    (pss_cons (ps_while PassesOwn.never (pt_cmpR (op_neNil hr.units0) (pv 2) (pe_lst pa_nil) (nomark _)) (pss_cons (ps_asg (pe_bm0 PySem.F.plainAttrs_list PySem.F.slot_list_pop PySem.F.type_list_pop mt_pop (pv 2)) (pg_tup (n := 2) rfl (pgs_cons (pg_name (i := 3) sc_law_same.nd rfl (Or.inl rfl)) (pgs_cons (pg_name (i := 4) sc_law_same.nd rfl (Or.inl rfl)) pgs_nil))))
    (pss_cons (ps_cut (ps_if (pt_val (pe_inst rfl z_isinstance rfl z_tuple bt_tuple (pv 4))) (pss_cons (ps_if (PW.pt (pw_or (pt_not (pt_val (pe_inst rfl z_isinstance rfl z_tuple bt_tuple (pv 3)))) (pw_or1 (pt_cmpR op_ne (pe_callB call_len_seq rfl z_len PySem.boot_len (pa_cons (pv 3) pa_nil)) (pe_callB call_len_seq rfl z_len PySem.boot_len (pa_cons (pv 4) pa_nil)) (nomark _))))) (pss_cons (ps_ret pe_bl)
    pss_nil) pss_nil)
    (pss_cons (ps_expr (pe_bm PySem.F.plainAttrs_list PySem.F.slot_list_extend PySem.F.type_list_extend mt_extend (pv 2) (pa_cons (pe_listzip rfl rfl z_list rfl z_zip (pa_cons (pv 3) (pa_cons (pv 4) pa_nil))) pa_nil)))
    pss_nil)) (pss_cons (ps_cut (ps_if (pt_val (pe_inst rfl z_isinstance rfl z_str bt_str (pv 4))) (pss_cons (ps_if (PW.pt (pw_or (pt_not (pt_val (pe_inst rfl z_isinstance rfl z_str bt_str (pv 3)))) (pw_or1 (pt_cmpR op_ne (pv 3) (pv 4) (nomark _))))) (pss_cons (ps_ret pe_bl)
    pss_nil) pss_nil)
    pss_nil) (pss_cons (ps_if (PW.pt (pw_or (pt_not (pt_val (pe_inst rfl z_isinstance rfl z_int bt_int (pv 3)))) (pw_or (pt_val (pe_inst rfl z_isinstance rfl z_bool bt_bool (pv 3))) (pw_or1 (pt_cmpR op_ne (pv 3) (pv 4) (nomark _)))))) (pss_cons (ps_ret pe_bl)
    pss_nil) pss_nil)
    pss_nil)))
    pss_nil)))
    pss_nil)))
    (pss_cons (ps_ret pe_bl)
    pss_nil))), ?_⟩
  obtain ⟨n0, hn0, ev⟩ := kin_eqv k ki ki' kg
  have n0b : n0 ≤ 21 ^ 5 := Nat.le_trans hn0 (Nat.pow_le_pow_right (by decide) kd)
  have n0s : n0 ≤ 4084101 := n0b
  have line : (16777216 : Nat) = sizeLine := by decide
  refine ⟨_, rfl, _, rfl, by show 2 ≤ sizeLine; decide, fun t ht => ⟨by show 1 ≤ sizeLine; decide, fun L hL => ?_⟩⟩
  have tL : t ≠ L := ne_of_none upd_same hL
  have HL : H L = none := by rw [upd_ne tL.symm] at hL; exact hL
  have k0 : Kp [] H (upd (upd H t (.tup [v, v'])) L (.lst [.ref t])) := (Kp.new ht _).trans (Kp.new hL _)
  refine ⟨fun m σ H' => m ≤ n0 ∧ ∃ (ts : List Addr) (ns : List Nat) (o3 o4 : Option V), σ = [some v, some v', some (.ref L), o3, o4] ∧ H' L = some (.lst (ts.map V.ref)) ∧ Prl H' ts ns ∧ ns.sum = m ∧ Kp [] H H',
    ⟨n0, Nat.le_refl _, [t], [n0], none, none, rfl, upd_same, ⟨rfl, fun j t' n e1 e2 => ?_⟩, by simp, k0⟩, ?_⟩
  · match j with
    | 0 => cases e1; cases e2; exact ⟨v, v', by rw [upd_ne tL]; exact upd_same, ev.keep k0⟩
    | j + 1 => simp at e1
  rintro m σ H1 ⟨hm, ts, ns, o3, o4, rfl, hL1, pr, hs, k1⟩
  refine ⟨_, rfl, by show 0 ≤ sizeLine; decide, fun E0 hE0 => ?_⟩
  have kE : Kp [] H1 (upd H1 E0 (.lst [])) := Kp.new hE0 _
  have hL2 := kE L _ (by simp) hL1
  refine ⟨L, E0, _, rfl, rfl, SqL.of hL2, SqL.of upd_same, _, rfl, ?_⟩
  have pr2 := pr.keep kE
  have k2 := k1.trans kE
  generalize upd H1 E0 (.lst []) = H2 at hL2 pr2 k2 ⊢
  rcases snoc_cases ts with rfl | ⟨ts0, t1, rfl⟩
  · exact ifF (by simp) (q H2 k2)
  obtain ⟨ns0, n1, x, y, rfl, pr0, ht1, e1⟩ := pr2.init
  refine ifT (by simp) ⟨fun σ' H' => ∃ m', m' < m ∧ (m' ≤ n0 ∧ ∃ (ts : List Addr) (ns : List Nat) (o3 o4 : Option V), σ' = [some v, some v', some (.ref L), o3, o4] ∧ H' L = some (.lst (ts.map V.ref)) ∧ Prl H' ts ns ∧ ns.sum = m' ∧ Kp [] H H'), fun _ _ h => h, ?_⟩
  have last : ((ts0 ++ [t1]).map V.ref)[((ts0 ++ [t1]).map V.ref).length - 1]? = some (.ref t1) := by
    rw [List.map_append, List.length_append, List.length_map]
    show (ts0.map V.ref ++ [V.ref t1])[ts0.length + 1 - 1]? = _
    rw [Nat.add_sub_cancel, List.getElem?_append_right (by simp)]
    simp
  have t1L : t1 ≠ L := ne_of ht1 hL2 (by intro z; cases z)
  have dl : ((ts0 ++ [t1]).map V.ref).dropLast = ts0.map V.ref := by rw [List.map_append]; exact List.dropLast_concat
  refine ⟨_, rfl, .inl ⟨rfl, _, SqL.of hL2⟩, L, _, _, rfl, rfl, hL2, last, ?_⟩
  rw [dl]
  have st : ∀ {b : Addr} {o : HO}, b ≠ L → H2 b = some o → (upd H2 L (.lst (ts0.map V.ref))) b = some o := fun hb h => by rw [upd_ne hb]; exact h
  have k3 : Kp [] H (upd H2 L (.lst (ts0.map V.ref))) := kp_new k2 HL
  have tp3 : Tp H2 (upd H2 L (.lst (ts0.map V.ref))) := fun b zs h => st (ne_of h hL2 (by intro z; cases z)) h
  have ekeep : ∀ {G : Hp} {n : Nat} {a b : V}, Tp H2 G → Eqv H2 n a b → Eqv G n a b := fun tg e => by
    induction e with
    | int i => exact .int i
    | str l => exact .str l
    | tup h1 h2 l ln q ih => exact .tup (tg _ _ h1) (tg _ _ h2) l ln ih
  have prk : ∀ {G : Hp}, Tp H2 G → Prl G ts0 ns0 := fun tg => ⟨pr0.1, fun j t n e1 e2 => by
    obtain ⟨x, y, a, b⟩ := pr0.2 j t n e1 e2
    exact ⟨x, y, tg _ _ a, ekeep tg b⟩⟩
  have sm : ns0.sum + n1 = m := by rw [← hs, List.sum_append]; simp
  refine ⟨t1, _, rfl, SqT.of (st t1L ht1), rfl, _, _, rfl, _, _, rfl, rfl, ?_⟩
  refine ⟨fun σ' H' => ∃ m', m' < m ∧ (m' ≤ n0 ∧ ∃ (ts : List Addr) (ns : List Nat) (o3 o4 : Option V), σ' = [some v, some v', some (.ref L), o3, o4] ∧ H' L = some (.lst (ts.map V.ref)) ∧ Prl H' ts ns ∧ ns.sum = m' ∧ Kp [] H H'), ?_, fun _ _ h => h⟩
  have leaf : ∃ m', m' < m ∧ (m' ≤ n0 ∧ ∃ (ts : List Addr) (ns : List Nat) (o3 o4 : Option V), [some v, some v', some (.ref L), some x, some y] = [some v, some v', some (.ref L), o3, o4] ∧ (upd H2 L (.lst (ts0.map V.ref))) L = some (.lst (ts.map V.ref)) ∧ Prl (upd H2 L (.lst (ts0.map V.ref))) ts ns ∧ ns.sum = m' ∧ Kp [] H (upd H2 L (.lst (ts0.map V.ref)))) :=
    ⟨ns0.sum, by have := e1.pos; omega, by omega, ts0, ns0, _, _, rfl, upd_same, prk tp3, rfl, k3⟩
  cases e1 with
  | int i =>
    refine ⟨_, rfl, _, rfl, _, false, TyOf.int i, rfl, _, rfl, ifF (by decide) ?_⟩
    refine ⟨_, ?_, fun _ _ h => h⟩
    refine ⟨_, rfl, _, rfl, _, false, TyOf.int i, rfl, _, rfl, ifF (by decide) ?_⟩
    refine ⟨_, rfl, _, rfl, _, true, TyOf.int i, rfl, _, rfl, ifF (by decide) ?_⟩
    refine ⟨_, rfl, _, rfl, _, false, TyOf.int i, rfl, _, rfl, ifF (by decide) ?_⟩
    exact ⟨_, rfl, _, rfl, rfl, _, rfl, ifF (by simp) leaf⟩
  | @str z l =>
    refine ⟨_, rfl, _, rfl, _, false, TyOf.str z, rfl, _, rfl, ifF (by decide) ?_⟩
    refine ⟨_, ?_, fun _ _ h => h⟩
    refine ⟨_, rfl, _, rfl, _, true, TyOf.str z, rfl, _, rfl, ifT rfl ?_⟩
    refine ⟨_, rfl, _, rfl, _, true, TyOf.str z, rfl, _, rfl, ifF (by decide) ?_⟩
    exact ⟨_, rfl, _, rfl, rfl, _, rfl, ifF (by simp) leaf⟩
  | @tup a b xs ys cs ha hb l ln qq =>
    have ha3 := tp3 a _ ha
    have hb3 := tp3 b _ hb
    refine ⟨_, rfl, _, rfl, _, true, TyOf.tup hb3, rfl, _, rfl, ifT rfl ?_⟩
    refine ⟨_, rfl, _, rfl, _, true, TyOf.tup ha3, rfl, _, rfl, ifF (by decide) ?_⟩
    refine ⟨_, rfl, a, _, rfl, .inr (SqT.of ha3), _, rfl, b, _, rfl, .inr (SqT.of hb3), rfl, _, rfl, ifF (by rw [l]; simp) ?_⟩
    refine ⟨_, rfl, .inl ⟨rfl, _, SqL.of upd_same⟩, _, rfl, _, rfl, a, b, xs, ys, rfl, SqT.of ha3, SqT.of hb3, l, fun Z H5 us hZ k5 hZl hul prs => ?_⟩
    have hL5 := k5 L _ (by simp) upd_same
    have LZ : Z ≠ L := (ne_of_none upd_same hZ).symm
    have lc : cs.length ≤ cs.sum + 0 ∨ True := .inr trivial
    have tp5 : Tp H2 H5 := tp3.trans (kp_tp k5)
    have prc : Prl H5 us cs := ⟨by omega, fun j t n f1 f2 => by
      obtain ⟨x', y', g1, g2, g3⟩ := prs j t f1
      exact ⟨x', y', g3, ekeep tp5 (qq j x' y' n g1 g2 f2)⟩⟩
    have lu := prc.len
    have l0 := (prk tp5).len
    refine ⟨L, Z, _, _, rfl, rfl, hL5, hZl, by rw [List.length_map, List.length_map]; omega, ?_⟩
    have tp6 : Tp H5 (upd H5 L (.lst (ts0.map V.ref ++ us.map V.ref))) := fun b' zs h => by rw [upd_ne (ne_of h hL5 (by intro z; cases z))]; exact h
    refine ⟨(ns0 ++ cs).sum, by rw [List.sum_append]; omega, by rw [List.sum_append]; omega, ts0 ++ us, ns0 ++ cs, _, _, rfl, by rw [upd_same, List.map_append], ?_, rfl, kp_new (k3.trans k5) HL⟩
    have pa := (prk tp5).app prc
    refine ⟨pa.1, fun j t n f1 f2 => ?_⟩
    obtain ⟨x', y', g1, g2⟩ := pa.2 j t n f1 f2
    exact ⟨x', y', tp6 _ _ g1, g2.tp tp6⟩
end
end Tg

set_option Elab.async false
set_option linter.all false
set_option maxRecDepth 100000
set_option maxHeartbeats 4000000
namespace Tg
open PySem L2
theorem rc (a : Addr) : RelV (.ref a) (.ref a) := rfl
theorem rt (T : String) : RelV (.ty T) (.type T) := rfl
theorem kin_ref {H : Hp} : ∀ {k : Kd} {v : V}, KIn H v k → ∃ a, v = .ref a
  | .num _, _, h => by unfold KIn at h; obtain ⟨a, e, _⟩ := h; exact ⟨a, e⟩
  | .text, _, h => by unfold KIn at h; obtain ⟨a, e, _⟩ := h; exact ⟨a, e⟩
  | .row _, _, h => by unfold KIn at h; obtain ⟨a, _, e, _⟩ := h; exact ⟨a, e⟩
  | .rec_ _, _, h => by unfold KIn at h; obtain ⟨a, _, _, e, _⟩ := h; exact ⟨a, e⟩
  | .pick _, _, h => by unfold KIn at h; obtain ⟨a, _, _, e, _⟩ := h; exact ⟨a, e⟩
theorem cls_exc {K : PySem.W.Frag} {C : Addr} {bm : List Value} {n : String} (q : PySem.W.excIn K C bm n = true) : (PySem.W.clsIn K C).isSome = true := by
  unfold PySem.W.excIn at q
  unfold PySem.W.clsIn
  split at q
  · rename_i ho
    rw [ho]; rfl
  · cases q
theorem bt_ValueError : bootBuiltins "ValueError" = some (.type "ValueError") := by decide +kernel
section
variable {P : Program} {w : World} {K : PySem.W.Frag} {mg : Str → Option Value} {base : Heap} {f : Addr} {fd : FuncData} {v1 v2 v3 : Value} {dN dG d1 d2 d3 d4 d5 d6 d7 d8 d9 d10 d11 : Addr}
abbrev s_law_right : Stmt := top 30
theorem sc_law_right : FnScope ["flow", "choice", "kind", "path", "caught", "found", "e", "due"] ["flow"] (defScope s_law_right) := ⟨rfl, rfl, rfl, by decide +kernel, rfl, by decide +kernel, by decide +kernel⟩
def spRight : Sp := fun vs H Q _ => ∃ a : Addr, vs = [.ref a] ∧ Flow H a ∧ ∀ H', Kp [a] H H' → Q (.bl true) H'
theorem ok_right (F : Fun K "_law_right" "_law_right" s_law_right f fd) (c_law_draw : Callee P w K mg base "_law_draw" 1 ["flow", "many"] spDraw) (c_law_kind : Callee P w K mg base "_law_kind" 12 ["flow", "depth", "room"] (spKind 10))
    (c_law_down : Callee P w K mg base "_law_down" 2 ["flow", "kind"] spDn) (c_law_bent : Callee P w K mg base "_law_bent" 2 ["flow", "path"] spBt) (c_part_kind : CalleeX P w K mg base "part_kind" 3 ["kind", "path"] (spPk dN)) (c_law_kind_at : Callee P w K mg base "_law_kind_at" 1 ["kind", "path"] spKA) (c_law_same : Callee P w K mg base "_law_same" 1 ["found", "due"] spSame)
    (m_GateError : mg "GateError" = some (.ref dG)) (m_NoPart : mg "NoPart" = some (.ref dN)) (m_Full : mg "Full" = some (.ref d1)) (m_NoBlock : mg "NoBlock" = some (.ref d2)) (m_NoDoor : mg "NoDoor" = some (.ref d3)) (m_NoPicture : mg "NoPicture" = some (.ref d4)) (m_NoProgram : mg "NoProgram" = some (.ref d5)) (m_NoRoom : mg "NoRoom" = some (.ref d6)) (m_NoText : mg "NoText" = some (.ref d7)) (m_NoThing : mg "NoThing" = some (.ref d8))
    (m_NoWord : mg "NoWord" = some (.ref d9)) (m_NoWorths : mg "NoWorths" = some (.ref d10)) (m_WrongHand : mg "WrongHand" = some (.ref d11))
    (xm : PySem.W.exmOne K (.ref dN) (.ref dG) = some true) (ex : ExC K dN) (ka : PySem.W.kitAny K (.ref dN) [.ref d1, .ref d2, .ref d3, .ref d4, .ref d5, .ref d6, .ref d7, .ref d8] = some false) (kb : PySem.W.kitAny K (.ref dN) [.ref d9, .ref d10, .ref d11] = some false)
    (kn : PySem.W.kitOne K (.ref dN) (.ref dN) = some true) (kv : PySem.W.kitOne K (.ref dN) (.type "ValueError") = some true)
    (z_isinstance : mg "isinstance" = none) (z_ValueError : mg "ValueError" = none) : FnOk P w K mg base CX0 13 f fd ["flow"] spRight := by
  refine F.ok sc_law_right (fun vs H Q E h => ?_) (fun cdv A outer s H vs Q E hr h => ?_)
  · obtain ⟨a, rfl, _⟩ := h
    rfl
  obtain ⟨a, rfl, fl, q⟩ := h
  refine ⟨_, (pss_cons (ps_set (i := 1) sc_law_right.nd rfl (Or.inl rfl) (pe_callC c_law_draw hr (by omega) rfl (pa_cons (pv 0) (pa_cons pe_int pa_nil))))
    (pss_cons (ps_set (i := 2) sc_law_right.nd rfl (Or.inl rfl) (pe_callC c_law_kind hr (by omega) rfl (pa_cons (pv 0) (pa_cons (pe_ix ix_list (pe_lst (pa_cons pe_int (pa_cons pe_int (pa_cons pe_int (pa_cons pe_int (pa_cons pe_int (pa_cons pe_int (pa_cons pe_int (pa_cons pe_int pa_nil))))))))) (pe_callC c_law_draw hr (by omega) rfl (pa_cons (pv 0) (pa_cons pe_int pa_nil))) (fun _ _ => rfl)) (pa_cons (pe_lst (pa_cons (pe_ix ix_list (pe_lst (pa_cons pe_int (pa_cons pe_int (pa_cons pe_int (pa_cons pe_int pa_nil))))) (pe_callC c_law_draw hr (by omega) rfl (pa_cons (pv 0) (pa_cons pe_int pa_nil))) (fun _ _ => rfl)) pa_nil)) pa_nil)))))
    (pss_cons (ps_set (i := 3) sc_law_right.nd rfl (Or.inl rfl) (pe_callC c_law_down hr (by omega) rfl (pa_cons (pv 0) (pa_cons (pv 2) pa_nil))))
    (pss_cons (ps_cut (ps_if (pt_cmpR op_gt (pv 1) pe_int (nomark _)) (pss_cons (ps_set (i := 3) sc_law_right.nd rfl (Or.inl rfl) (pe_callC c_law_bent hr (by omega) rfl (pa_cons (pv 0) (pa_cons (pv 3) pa_nil))))
    pss_nil) pss_nil))
    (pss_cons (ps_set (i := 4) sc_law_right.nd rfl (Or.inl rfl) pe_non)
    (pss_cons (ps_set (i := 5) sc_law_right.nd rfl (Or.inl rfl) pe_non)
    (pss_cons (ps_try (j := 6) rfl rfl rfl m_GateError sc_law_right.nd rfl rfl (fun _ _ _ hx => (pss_cons (ps_set (i := 5) sc_law_right.nd rfl (Or.inl rfl) (pe_callW c_part_kind hr (by omega) rfl hx (pa_cons (pv 2) (pa_cons (pv 3) pa_nil))))
    pss_nil)) (fun _ => (pss_cons (ps_set (i := 4) sc_law_right.nd rfl (Or.inl rfl) (pv 6))
    pss_nil)))
    (pss_cons (ps_set (i := 7) sc_law_right.nd rfl (Or.inl rfl) (pe_callC c_law_kind_at hr (by omega) rfl (pa_cons (pv 2) (pa_cons (pv 3) pa_nil))))
    (pss_cons (ps_if (pt_cmpR op_notN (pv 7) pe_non (nomark _)) (pss_cons (ps_ret (pe_and (pe_cmpR op_isN (pv 4) pe_non (nomark _)) (pe_one (pe_callC c_law_same hr (by omega) rfl (pa_cons (pv 5) (pa_cons (pv 7) pa_nil))))))
    pss_nil) pss_nil)
    (pss_cons (ps_if (pt_val (pe_callB call_instXT rfl z_isinstance PyProof.Rows.boot_isinstance (pa_cons (pv 4) (pa_cons (pe_tup (pa_cons (pe_glob rfl m_Full (rc _)) (pa_cons (pe_glob rfl m_NoBlock (rc _)) (pa_cons (pe_glob rfl m_NoDoor (rc _)) (pa_cons (pe_glob rfl m_NoPicture (rc _)) (pa_cons (pe_glob rfl m_NoProgram (rc _)) (pa_cons (pe_glob rfl m_NoRoom (rc _)) (pa_cons (pe_glob rfl m_NoText (rc _)) (pa_cons (pe_glob rfl m_NoThing (rc _)) pa_nil))))))))) pa_nil)))) (pss_cons (ps_ret pe_bl)
    pss_nil) pss_nil)
    (pss_cons (ps_if (pt_val (pe_callB call_instXT rfl z_isinstance PyProof.Rows.boot_isinstance (pa_cons (pv 4) (pa_cons (pe_tup (pa_cons (pe_glob rfl m_NoWord (rc _)) (pa_cons (pe_glob rfl m_NoWorths (rc _)) (pa_cons (pe_glob rfl m_WrongHand (rc _)) pa_nil)))) pa_nil)))) (pss_cons (ps_ret pe_bl)
    pss_nil) pss_nil)
    (pss_cons (ps_ret (pe_and (pe_callB call_instX rfl z_isinstance PyProof.Rows.boot_isinstance (pa_cons (pv 4) (pa_cons (pe_glob rfl m_NoPart (rc _)) pa_nil))) (pe_one (pe_callB call_instX rfl z_isinstance PyProof.Rows.boot_isinstance (pa_cons (pv 4) (pa_cons (pe_bltn rfl z_ValueError bt_ValueError (rt _) (by decide) (by decide)) pa_nil))))))
    pss_nil)))))))))))), ?_⟩
  have up : ∀ {H1 H2 : Hp}, Kp [] H1 H2 → Kp [a] H1 H2 := fun k => k.mono (fun x hx => nomatch hx)
  have room : ∀ {H1 H2 : Hp} {b : Addr} {o : HO}, H1 b = none → Kp [a, b] (upd H1 b o) H2 → Kp [a] H1 H2 := fun hb k c u hc hcu => k c u (by
      have e : c ≠ _ := ne_of_none hcu hb
      simp at hc
      simp [hc, e]) (by rw [upd_ne (ne_of_none hcu hb)]; exact hcu)
  have fr : ∀ {G : Hp} {c : Addr}, Flow G a → G c = none → c ∉ [a] := fun fG hc => by
    obtain ⟨u, e⟩ := fG.some
    simpa using (ne_of_none e hc).symm
  refine ⟨_, rfl, a, 4, rfl, fl, by decide, by decide, fun ch H1 c0 c4 fl1 k1 => ?_⟩
  refine ⟨_, rfl, by show 8 ≤ sizeLine; decide, fun L hL => ?_⟩
  refine ⟨_, rfl, a, 8, rfl, fl1.new hL, by decide, by decide, fun r H2 r0 r1 fl2 k2 => ?_⟩
  obtain ⟨x, hx, hm⟩ := at_some (xs := ([5, 1, 2, 3, 4, 5, 3, 4] : List Int).map V.int) r0 (by simpa using r1)
  obtain ⟨dd, hdd, rfl⟩ := List.mem_map.mp hm
  have hd7 : 1 ≤ dd ∧ dd ≤ 5 := by
    simp only [List.mem_cons, List.not_mem_nil, or_false] at hdd
    omega
  refine ⟨L, _, _, _, rfl, rfl, SqL.of (k2 L _ (fr fl1 hL) upd_same), hx, by show 4 ≤ sizeLine; decide, fun L2 hL2 => ?_⟩
  refine ⟨_, rfl, a, 4, rfl, fl2.new hL2, by decide, by decide, fun r' H3 r0' r1' fl3 k3 => ?_⟩
  obtain ⟨x2, hx2, hm2⟩ := at_some (xs := ([2, 2, 2, 6] : List Int).map V.int) r0' (by simpa using r1')
  obtain ⟨rm, _, rfl⟩ := List.mem_map.mp hm2
  refine ⟨L2, _, _, _, rfl, rfl, SqL.of (k3 L2 _ (fr fl2 hL2) upd_same), hx2, by show 1 ≤ sizeLine; decide, fun b hb => ?_⟩
  refine ⟨a, b, dd, rfl, fl3.new hb, ⟨rm, upd_same⟩, by omega, by omega, by omega, fun v k H4 ki kg kd fl4 on4 k4 => ?_⟩
  have kH4 : Kp [a] H H4 := ((((k1.trans (Kp.new hL _)).trans k2).trans (Kp.new hL2 _)).trans k3).trans (room hb k4)
  have kd5 : k.depth ≤ 5 := by omega
  refine ⟨_, rfl, _, rfl, a, v, k, rfl, fl4, ki, kg, fun pa ps H5 hpa hpl hps fl5 k5 => ?_⟩
  have ki5 := ki.mono (fl4.tp k5)
  have kH5 := kH4.trans k5
  refine ⟨fun σ H' => ∃ (pb : Addr) (qs : List V), σ = [some (.ref a), some (.int ch), some v, some (.ref pb), none, none, none, none] ∧ H' pb = some (.tup qs) ∧ (∀ p ∈ qs, Stp p) ∧ KIn H' v k ∧ Kp [a] H H', ?_, ?_⟩
  · refine ⟨_, rfl, _, _, rfl, rfl, _, rfl, ?_⟩
    refine ite2 (fun c => ?_) (fun c => ?_)
    · refine ⟨_, rfl, _, rfl, a, pa, ps, rfl, fl5, hpa, hpl, hps, fun pb qs H6 hb6 hq k6 => ?_⟩
      exact ⟨pb, qs, rfl, hb6, hq, ki5.mono (fl5.tp k6), kH5.trans k6⟩
    · exact ⟨pa, ps, rfl, hpa, fun p hp => (hps p hp).stp, ki5, kH5⟩
  rintro σ H6 ⟨pb, qs, rfl, hpb, hqs, ki6, kH6⟩
  refine ⟨_, rfl, _, rfl, v, pb, qs, k, rfl, ki6, kg, hpb, hqs, ?_, ?_⟩
  · intro v' k' H7 ea ki7 kg7 kd7 kp7
    refine ⟨_, rfl, _, rfl, v, pb, qs, k, rfl, ki6.mono (kp_tp kp7), kg, kp7 pb _ (by simp) hpb, hqs, ?_, ?_⟩
    · intro v2 k2' H8 ea2 ki8 kg8 kp8
      rw [ea] at ea2
      cases ea2
      have nn : v2 ≠ .non := fun z => by
        obtain ⟨a', e'⟩ := kin_ref ki8
        rw [z] at e'; cases e'
      refine ⟨_, rfl, rfl, _, rfl, ifT (by simp [nn]) ?_⟩
      refine ⟨_, rfl, rfl, _, rfl, ifT (by simp) ?_⟩
      refine ⟨_, rfl, _, rfl, v', v2, k', rfl, ki7.mono (kp_tp kp8), ki8, kg8, by omega, fun H9 k9 => q H9 (((kH6.trans (up kp7)).trans (up kp8)).trans (up k9))⟩
    · intro H8 ea2 kp8
      rw [ea] at ea2
      cases ea2
  · intro H7 ea kp7
    refine ⟨xm, fun x hx => ⟨_, rfl, ?_⟩⟩
    have kx : Kp [] H6 (upd H7 x (.ext (excAt x (.ref dN)))) := kp7.trans (Kp.new hx _)
    refine ⟨_, rfl, _, rfl, v, pb, qs, k, rfl, ki6.mono (kp_tp kx), kg, kx pb _ (by simp) hpb, hqs, ?_, ?_⟩
    · intro v2 k2' H8 ea2 _ _ _
      rw [ea] at ea2
      cases ea2
    · intro H8 _ kp8
      have hx8 : H8 x = some (.ext (ExAt x dN)) := kp8 x _ (by simp) upd_same
      refine ⟨_, rfl, rfl, _, rfl, ifF (by simp) ?_⟩
      refine ⟨_, rfl, by show 8 ≤ sizeLine; decide, fun p1 hp1 => ?_⟩
      refine ⟨x, dN, p1, _, _, false, rfl, upd_same, .cons (.own _) (.cons (.own _) (.cons (.own _) (.cons (.own _) (.cons (.own _) (.cons (.own _) (.cons (.own _) (.cons (.own _) .nil))))))), ex, by rw [upd_ne (ne_of_none hx8 hp1)]; exact hx8, ka, _, rfl, ifF (by decide) ?_⟩
      have hx9 : (upd H8 p1 (.tup [.ref d1, .ref d2, .ref d3, .ref d4, .ref d5, .ref d6, .ref d7, .ref d8])) x = some (.ext (ExAt x dN)) := by rw [upd_ne (ne_of_none hx8 hp1)]; exact hx8
      have k9 : Kp [] H8 (upd H8 p1 (.tup [.ref d1, .ref d2, .ref d3, .ref d4, .ref d5, .ref d6, .ref d7, .ref d8])) := Kp.new hp1 _
      generalize upd H8 p1 (.tup [.ref d1, .ref d2, .ref d3, .ref d4, .ref d5, .ref d6, .ref d7, .ref d8]) = H9 at hx9 k9 ⊢
      refine ⟨_, rfl, by show 3 ≤ sizeLine; decide, fun p2 hp2 => ?_⟩
      have hx10 : (upd H9 p2 (.tup [.ref d9, .ref d10, .ref d11])) x = some (.ext (ExAt x dN)) := by rw [upd_ne (ne_of_none hx9 hp2)]; exact hx9
      refine ⟨x, dN, p2, _, _, false, rfl, upd_same, .cons (.own _) (.cons (.own _) (.cons (.own _) .nil)), ex, hx10, kb, _, rfl, ifF (by decide) ?_⟩
      refine ⟨_, rfl, x, dN, _, _, true, rfl, .own _, ex, hx10, kn, _, rfl, ifT rfl ?_⟩
      exact ⟨_, rfl, x, dN, _, _, true, rfl, .ty _, ex, hx10, kv, q _ ((((kH6.trans (up kx)).trans (up kp8)).trans (up k9)).trans (Kp.new hp2 _))⟩
/-! ### law -/
abbrev s_law : Stmt := top 31
theorem sc_law : FnScope ["script", "k"] ["script"] (defScope s_law) := ⟨rfl, rfl, rfl, by decide +kernel, rfl, by decide +kernel, by decide +kernel⟩
def spLaw (K : PySem.W.Frag) : Sp := fun vs H Q _ => ∃ (a : Addr) (ns : List Int), vs = [.ref a] ∧ SqL K H a (ns.map V.int) ∧ ns.length ≤ 63 ∧ ∀ H', Q (.bl true) H'
theorem ok_law (F : Fun K "law" "law" s_law f fd) (c_law_right : Callee P w K mg base "_law_right" 13 ["flow"] spRight) (c_law_flow : Callee P w K mg base "_law_flow" 1 ["cell"] spFlow) (c_law_cell_at : Callee P w K mg base "_law_cell_at" 1 ["script", "k"] (spCell K))
    (z_range : mg "range" = none) (z_max : mg "max" = none) (z_min : mg "min" = none) (z_len : mg "len" = none) : FnOk P w K mg base CX0 14 f fd ["script"] (spLaw K) := by
  refine F.ok sc_law (fun vs H Q E h => ?_) (fun cdv A outer s H vs Q E hr h => ?_)
  · obtain ⟨a, ns, rfl, _⟩ := h
    rfl
  obtain ⟨a, ns, rfl, hS, h63, q⟩ := h
  refine ⟨_, (pss_cons (ps_for PassesOwn.never rfl (pi_range1 rfl z_range (pa_cons (pe_callB (call_max2 rfl) rfl z_max PyProof.Rows.boot_max (pa_cons pe_int (pa_cons (pe_callB (call_min2 rfl) rfl z_min PyProof.Rows.boot_min (pa_cons (pe_callB call_len_seq rfl z_len PySem.boot_len (pa_cons (pv 0) pa_nil)) (pa_cons pe_int pa_nil))) pa_nil))) pa_nil)) (pg_name (i := 1) sc_law.nd rfl (Or.inl rfl)) (pss_cons (ps_if (pt_not (pt_val (pe_callC c_law_right hr (by omega) rfl (pa_cons (pe_callC c_law_flow hr (by omega) rfl (pa_cons (pe_callC c_law_cell_at hr (by omega) rfl (pa_cons (pv 0) (pa_cons (pv 1) pa_nil))) pa_nil)) pa_nil)))) (pss_cons (ps_ret pe_bl)
    pss_nil) pss_nil)
    pss_nil))
    (pss_cons (ps_ret pe_bl)
    pss_nil)), ?_⟩
  have hl : (ns.map V.int).length = ns.length := List.length_map _
  refine ⟨_, rfl, a, _, rfl, .inl hS, _, _, rfl, _, _, rfl, _, rfl, ?_, ?_, ?_⟩
  · split <;> omega
  · rw [hl]; split <;> split <;> omega
  refine for_range (fun i σ H' => ∃ o, σ = [some (.ref a), o] ∧ Same H H') ⟨none, rfl, Same.refl _⟩ ?_ ?_
  · rintro i σ H1 hi ⟨o, rfl, sm⟩
    refine ⟨_, rfl, _, rfl, a, ns, 0 + (i : Int), rfl, sm.seq hS, by omega, fun c => ?_⟩
    refine ⟨c, rfl, fun b H2 hb sm2 fl2 => ?_⟩
    refine ⟨b, rfl, fl2, fun H3 k3 => ⟨_, rfl, ifF (by decide) ⟨_, rfl, sm.trans fun x o' h => k3 x o' ?_ (sm2 x o' h)⟩⟩⟩
    simpa using ne_of_none h hb
  · rintro σ H1 ⟨o, rfl, sm⟩
    exact q H1
/-! ### recursions closed -/
theorem no_calls {ps : List Str} {sp : Sp} {k : Nat} (no : ∀ vs H Q E, ¬ sp vs H Q E) : FnOk P w K mg base CX0 k f fd ps sp :=
  ⟨fun vs H Q E h => absurd h (no vs H Q E), fun A outer s H args us vs Q E _ _ _ _ h => absurd h (no vs H Q E)⟩
theorem kind_all (F : Fun K "_law_kind" "_law_kind" s_law_kind f fd) (m : mg "_law_kind" = some (.ref f)) (kp : PySem.W.keepIn K (.ref f) = true) (b : Binds K fd ["flow", "depth", "room"] [])
    (C4 : Callee P w K mg base "_law_draw" 1 ["flow", "many"] spDraw) (C5 : Callee P w K mg base "_law_name" 2 ["flow", "taken"] spName) (z_range : mg "range" = none) (z_tuple : mg "tuple" = none) :
    ∀ n : Nat, Callee P w K mg base "_law_kind" (2 + n) ["flow", "depth", "room"] (spKind n)
  | 0 => ⟨f, fd, no_calls fun vs H Q E h => by obtain ⟨_, _, d, _, _, _, h1, h2, _⟩ := h; have h3 : d < 0 := h2; omega, m, kp, b⟩
  | n + 1 => ⟨f, fd, ok_kind F C4 C5 (kind_all F m kp b C4 C5 z_range z_tuple n) z_range z_tuple, m, kp, b⟩
end
end Tg

set_option Elab.async false
set_option linter.all false
set_option maxRecDepth 100000
set_option maxHeartbeats 4000000
namespace Tg
open PySem L2
theorem all_mk {l : PySem.W.OpenLaw} {w : World} {K : PySem.W.Frag} {h : Heap} {mg : Str → Option Value} {fa f1 f2 f3 f4 f5 f6 f7 f8 f9 f10 f11 f12 f13 f14 f15 : Addr} (X : K.In h) (G : h.Ns mainGlobals mg) (hfa : mg "law" = some (.ref fa))
    {od1 an1 od2 an2 od3 an3 od4 an4 od5 an5 od6 an6 od7 an7 od8 an8 od9 an9 od10 an10 od11 an11 od12 an12 od13 an13 od14 an14 od15 an15 : Option Addr} {sl1 sl2 sl3 sl4 sl5 sl6 sl7 sl8 sl9 sl10 sl11 sl12 sl13 sl14 sl15 : Array (Option Value)} {oc1 kV1 dc1 pm1 cd1 ct1 oc2 kV2 dc2 pm2 cd2 ct2 oc3 kV3 dc3 pm3 cd3 ct3 oc4 kV4 dc4 pm4 cd4 ct4 oc5 kV5 dc5 pm5 cd5 ct5 oc6 kV6 dc6 pm6 cd6 ct6 oc7 kV7 dc7 pm7 cd7 ct7 oc8 kV8 dc8 pm8 cd8 ct8 oc9 kV9 dc9 pm9 cd9 ct9 oc10 kV10 dc10 pm10 cd10 ct10 oc11 kV11 dc11 pm11 cd11 ct11 oc12 kV12 dc12 pm12 cd12 ct12 oc13 kV13 dc13 pm13 cd13 ct13 oc14 kV14 dc14 pm14 cd14 ct14 oc15 kV15 dc15 pm15 cd15 ct15 : Value}
    (a1 : PySem.W.nsIn K mainGlobals "is_whole" = some (some (.ref f1))) (l1 : K.lookup f1 = some ⟨oc1, od1, .func (PySem.W.fnOf "is_whole" "is_whole" (defArgs s_is_whole) (defBody s_is_whole) (defScope s_is_whole) .none kV1 dc1 pm1 an1 cd1 ct1), sl1⟩) (c1 : PySem.W.codeIn K cd1 "is_whole" = true) (k1 : PySem.W.keepIn K (.ref f1) = true)
    (a2 : PySem.W.nsIn K mainGlobals "part_kind" = some (some (.ref f2))) (l2 : K.lookup f2 = some ⟨oc2, od2, .func (PySem.W.fnOf "part_kind" "part_kind" (defArgs s_part_kind) (defBody s_part_kind) (defScope s_part_kind) .none kV2 dc2 pm2 an2 cd2 ct2), sl2⟩) (c2 : PySem.W.codeIn K cd2 "part_kind" = true) (k2 : PySem.W.keepIn K (.ref f2) = true)
    (a3 : PySem.W.nsIn K mainGlobals "step_kind" = some (some (.ref f3))) (l3 : K.lookup f3 = some ⟨oc3, od3, .func (PySem.W.fnOf "step_kind" "step_kind" (defArgs s_step_kind) (defBody s_step_kind) (defScope s_step_kind) .none kV3 dc3 pm3 an3 cd3 ct3), sl3⟩) (c3 : PySem.W.codeIn K cd3 "step_kind" = true) (k3 : PySem.W.keepIn K (.ref f3) = true)
    (a4 : PySem.W.nsIn K mainGlobals "field_place" = some (some (.ref f4))) (l4 : K.lookup f4 = some ⟨oc4, od4, .func (PySem.W.fnOf "field_place" "field_place" (defArgs s_field_place) (defBody s_field_place) (defScope s_field_place) .none kV4 dc4 pm4 an4 cd4 ct4), sl4⟩) (c4 : PySem.W.codeIn K cd4 "field_place" = true) (k4 : PySem.W.keepIn K (.ref f4) = true)
    (a5 : PySem.W.nsIn K mainGlobals "_law_cell_at" = some (some (.ref f5))) (l5 : K.lookup f5 = some ⟨oc5, od5, .func (PySem.W.fnOf "_law_cell_at" "_law_cell_at" (defArgs s_law_cell_at) (defBody s_law_cell_at) (defScope s_law_cell_at) .none kV5 dc5 pm5 an5 cd5 ct5), sl5⟩) (c5 : PySem.W.codeIn K cd5 "_law_cell_at" = true) (k5 : PySem.W.keepIn K (.ref f5) = true)
    (a6 : PySem.W.nsIn K mainGlobals "_law_flow" = some (some (.ref f6))) (l6 : K.lookup f6 = some ⟨oc6, od6, .func (PySem.W.fnOf "_law_flow" "_law_flow" (defArgs s_law_flow) (defBody s_law_flow) (defScope s_law_flow) .none kV6 dc6 pm6 an6 cd6 ct6), sl6⟩) (c6 : PySem.W.codeIn K cd6 "_law_flow" = true) (k6 : PySem.W.keepIn K (.ref f6) = true)
    (a7 : PySem.W.nsIn K mainGlobals "_law_draw" = some (some (.ref f7))) (l7 : K.lookup f7 = some ⟨oc7, od7, .func (PySem.W.fnOf "_law_draw" "_law_draw" (defArgs s_law_draw) (defBody s_law_draw) (defScope s_law_draw) .none kV7 dc7 pm7 an7 cd7 ct7), sl7⟩) (c7 : PySem.W.codeIn K cd7 "_law_draw" = true) (k7 : PySem.W.keepIn K (.ref f7) = true)
    (a8 : PySem.W.nsIn K mainGlobals "_law_name" = some (some (.ref f8))) (l8 : K.lookup f8 = some ⟨oc8, od8, .func (PySem.W.fnOf "_law_name" "_law_name" (defArgs s_law_name) (defBody s_law_name) (defScope s_law_name) .none kV8 dc8 pm8 an8 cd8 ct8), sl8⟩) (c8 : PySem.W.codeIn K cd8 "_law_name" = true) (k8 : PySem.W.keepIn K (.ref f8) = true)
    (a9 : PySem.W.nsIn K mainGlobals "_law_kind" = some (some (.ref f9))) (l9 : K.lookup f9 = some ⟨oc9, od9, .func (PySem.W.fnOf "_law_kind" "_law_kind" (defArgs s_law_kind) (defBody s_law_kind) (defScope s_law_kind) .none kV9 dc9 pm9 an9 cd9 ct9), sl9⟩) (c9 : PySem.W.codeIn K cd9 "_law_kind" = true) (k9 : PySem.W.keepIn K (.ref f9) = true)
    (a10 : PySem.W.nsIn K mainGlobals "_law_bent" = some (some (.ref f10))) (l10 : K.lookup f10 = some ⟨oc10, od10, .func (PySem.W.fnOf "_law_bent" "_law_bent" (defArgs s_law_bent) (defBody s_law_bent) (defScope s_law_bent) .none kV10 dc10 pm10 an10 cd10 ct10), sl10⟩) (c10 : PySem.W.codeIn K cd10 "_law_bent" = true) (k10 : PySem.W.keepIn K (.ref f10) = true)
    (a11 : PySem.W.nsIn K mainGlobals "_law_kind_at" = some (some (.ref f11))) (l11 : K.lookup f11 = some ⟨oc11, od11, .func (PySem.W.fnOf "_law_kind_at" "_law_kind_at" (defArgs s_law_kind_at) (defBody s_law_kind_at) (defScope s_law_kind_at) .none kV11 dc11 pm11 an11 cd11 ct11), sl11⟩) (c11 : PySem.W.codeIn K cd11 "_law_kind_at" = true) (k11 : PySem.W.keepIn K (.ref f11) = true)
    (a12 : PySem.W.nsIn K mainGlobals "_law_same" = some (some (.ref f12))) (l12 : K.lookup f12 = some ⟨oc12, od12, .func (PySem.W.fnOf "_law_same" "_law_same" (defArgs s_law_same) (defBody s_law_same) (defScope s_law_same) .none kV12 dc12 pm12 an12 cd12 ct12), sl12⟩) (c12 : PySem.W.codeIn K cd12 "_law_same" = true) (k12 : PySem.W.keepIn K (.ref f12) = true)
    (a13 : PySem.W.nsIn K mainGlobals "_law_down" = some (some (.ref f13))) (l13 : K.lookup f13 = some ⟨oc13, od13, .func (PySem.W.fnOf "_law_down" "_law_down" (defArgs s_law_down) (defBody s_law_down) (defScope s_law_down) .none kV13 dc13 pm13 an13 cd13 ct13), sl13⟩) (c13 : PySem.W.codeIn K cd13 "_law_down" = true) (k13 : PySem.W.keepIn K (.ref f13) = true)
    (a14 : PySem.W.nsIn K mainGlobals "_law_right" = some (some (.ref f14))) (l14 : K.lookup f14 = some ⟨oc14, od14, .func (PySem.W.fnOf "_law_right" "_law_right" (defArgs s_law_right) (defBody s_law_right) (defScope s_law_right) .none kV14 dc14 pm14 an14 cd14 ct14), sl14⟩) (c14 : PySem.W.codeIn K cd14 "_law_right" = true) (k14 : PySem.W.keepIn K (.ref f14) = true)
    (a15 : PySem.W.nsIn K mainGlobals "law" = some (some (.ref f15))) (l15 : K.lookup f15 = some ⟨oc15, od15, .func (PySem.W.fnOf "law" "law" (defArgs s_law) (defBody s_law) (defScope s_law) .none kV15 dc15 pm15 an15 cd15 ct15), sl15⟩) (c15 : PySem.W.codeIn K cd15 "law" = true) (k15 : PySem.W.keepIn K (.ref f15) = true)
    (y1 : PySem.W.nsIn K mainGlobals "len" = some none)
    (y2 : PySem.W.nsIn K mainGlobals "max" = some none)
    (y3 : PySem.W.nsIn K mainGlobals "min" = some none)
    (y4 : PySem.W.nsIn K mainGlobals "range" = some none)
    (y5 : PySem.W.nsIn K mainGlobals "tuple" = some none)
    (y6 : PySem.W.nsIn K mainGlobals "isinstance" = some none)
    (y7 : PySem.W.nsIn K mainGlobals "int" = some none)
    (y8 : PySem.W.nsIn K mainGlobals "bool" = some none)
    (y9 : PySem.W.nsIn K mainGlobals "str" = some none)
    (y10 : PySem.W.nsIn K mainGlobals "list" = some none)
    (y11 : PySem.W.nsIn K mainGlobals "zip" = some none)
    (y12 : PySem.W.nsIn K mainGlobals "enumerate" = some none)
    (y13 : PySem.W.nsIn K mainGlobals "ValueError" = some none)
    {u1 : Value} (g1 : PySem.W.nsIn K mainGlobals "MOST_ITEMS" = some (some u1)) (q1 : RelV (.int 60) u1)
    {cGateError : Addr} (gcGateError : PySem.W.nsIn K mainGlobals "GateError" = some (some (.ref cGateError)))
    {cNoPart : Addr} (gcNoPart : PySem.W.nsIn K mainGlobals "NoPart" = some (some (.ref cNoPart)))
    {cFull : Addr} (gcFull : PySem.W.nsIn K mainGlobals "Full" = some (some (.ref cFull)))
    {cNoBlock : Addr} (gcNoBlock : PySem.W.nsIn K mainGlobals "NoBlock" = some (some (.ref cNoBlock)))
    {cNoDoor : Addr} (gcNoDoor : PySem.W.nsIn K mainGlobals "NoDoor" = some (some (.ref cNoDoor)))
    {cNoPicture : Addr} (gcNoPicture : PySem.W.nsIn K mainGlobals "NoPicture" = some (some (.ref cNoPicture)))
    {cNoProgram : Addr} (gcNoProgram : PySem.W.nsIn K mainGlobals "NoProgram" = some (some (.ref cNoProgram)))
    {cNoRoom : Addr} (gcNoRoom : PySem.W.nsIn K mainGlobals "NoRoom" = some (some (.ref cNoRoom)))
    {cNoText : Addr} (gcNoText : PySem.W.nsIn K mainGlobals "NoText" = some (some (.ref cNoText)))
    {cNoThing : Addr} (gcNoThing : PySem.W.nsIn K mainGlobals "NoThing" = some (some (.ref cNoThing)))
    {cNoWord : Addr} (gcNoWord : PySem.W.nsIn K mainGlobals "NoWord" = some (some (.ref cNoWord)))
    {cNoWorths : Addr} (gcNoWorths : PySem.W.nsIn K mainGlobals "NoWorths" = some (some (.ref cNoWorths)))
    {cWrongHand : Addr} (gcWrongHand : PySem.W.nsIn K mainGlobals "WrongHand" = some (some (.ref cWrongHand)))
    (xNoPart : PySem.W.excIn K cNoPart [.type "ValueError", .type "Exception", .type "BaseException", .type "object"] "ValueError.__new__" = true)
    (xm : PySem.W.exmOne K (.ref cNoPart) (.ref cGateError) = some true)
    (ka : PySem.W.kitAny K (.ref cNoPart) [.ref cFull, .ref cNoBlock, .ref cNoDoor, .ref cNoPicture, .ref cNoProgram, .ref cNoRoom, .ref cNoText, .ref cNoThing] = some false)
    (kb : PySem.W.kitAny K (.ref cNoPart) [.ref cNoWord, .ref cNoWorths, .ref cWrongHand] = some false)
    (kn : PySem.W.kitOne K (.ref cNoPart) (.ref cNoPart) = some true)
    (kv : PySem.W.kitOne K (.ref cNoPart) (.type "ValueError") = some true)
    (e1 : PySem.W.findIn K (.ref cNoPart) "__getattribute__" = some (some (.builtin "BaseException.__getattribute__")))
    (e2 : PySem.W.findIn K (.ref cNoPart) "__getattr__" = some none)
    (e3 : PySem.W.findIn K (.ref cNoPart) "__class__" = some (some (.builtin "object.__class__")))
    (e4 : PySem.W.specialIn K (.builtin "object.__class__") "__get__" = some (some (.builtin "getset_descriptor.__get__")))
    (e5 : PySem.W.takesIn K (.builtin "object.__class__") = some true)
    (e6 : PySem.W.mroIn K cNoPart (.type "object") = some true)
    (e7 : PySem.W.mroIn K cNoPart (.type "BaseException") = some true)
    :
    ∃ fd : FuncData, (∀ (s : Shared) (v : Value), BindsTo s fd ⟨[v], []⟩ [("script", v)]) ∧ ∀ base : Heap, K.In base → base.Ns mainGlobals mg → FnOk l.prog w K mg base CX0 14 fa fd ["script"] (spLaw K) := by
  have e := hfa.symm.trans (PySem.W.mg_of X G a15)
  cases e
  have F1 := fun_mk (st := s_is_whole) l1 c1 k1
  have b1 := F1.binds (ps := ["thing"]) fun _ _ _ _ _ _ us hl => match us, hl with | [_], _ => rfl
  have m1 := PySem.W.mg_of X G a1
  have F2 := fun_mk (st := s_part_kind) l2 c2 k2
  have b2 := F2.binds (ps := ["kind", "path"]) fun _ _ _ _ _ _ us hl => match us, hl with | [_, _], _ => rfl
  have m2 := PySem.W.mg_of X G a2
  have F3 := fun_mk (st := s_step_kind) l3 c3 k3
  have b3 := F3.binds (ps := ["kind", "step"]) fun _ _ _ _ _ _ us hl => match us, hl with | [_, _], _ => rfl
  have m3 := PySem.W.mg_of X G a3
  have F4 := fun_mk (st := s_field_place) l4 c4 k4
  have b4 := F4.binds (ps := ["kind", "name"]) fun _ _ _ _ _ _ us hl => match us, hl with | [_, _], _ => rfl
  have m4 := PySem.W.mg_of X G a4
  have F5 := fun_mk (st := s_law_cell_at) l5 c5 k5
  have b5 := F5.binds (ps := ["script", "k"]) fun _ _ _ _ _ _ us hl => match us, hl with | [_, _], _ => rfl
  have m5 := PySem.W.mg_of X G a5
  have F6 := fun_mk (st := s_law_flow) l6 c6 k6
  have b6 := F6.binds (ps := ["cell"]) fun _ _ _ _ _ _ us hl => match us, hl with | [_], _ => rfl
  have m6 := PySem.W.mg_of X G a6
  have F7 := fun_mk (st := s_law_draw) l7 c7 k7
  have b7 := F7.binds (ps := ["flow", "many"]) fun _ _ _ _ _ _ us hl => match us, hl with | [_, _], _ => rfl
  have m7 := PySem.W.mg_of X G a7
  have F8 := fun_mk (st := s_law_name) l8 c8 k8
  have b8 := F8.binds (ps := ["flow", "taken"]) fun _ _ _ _ _ _ us hl => match us, hl with | [_, _], _ => rfl
  have m8 := PySem.W.mg_of X G a8
  have F9 := fun_mk (st := s_law_kind) l9 c9 k9
  have b9 := F9.binds (ps := ["flow", "depth", "room"]) fun _ _ _ _ _ _ us hl => match us, hl with | [_, _, _], _ => rfl
  have m9 := PySem.W.mg_of X G a9
  have F10 := fun_mk (st := s_law_bent) l10 c10 k10
  have b10 := F10.binds (ps := ["flow", "path"]) fun _ _ _ _ _ _ us hl => match us, hl with | [_, _], _ => rfl
  have m10 := PySem.W.mg_of X G a10
  have F11 := fun_mk (st := s_law_kind_at) l11 c11 k11
  have b11 := F11.binds (ps := ["kind", "path"]) fun _ _ _ _ _ _ us hl => match us, hl with | [_, _], _ => rfl
  have m11 := PySem.W.mg_of X G a11
  have F12 := fun_mk (st := s_law_same) l12 c12 k12
  have b12 := F12.binds (ps := ["found", "due"]) fun _ _ _ _ _ _ us hl => match us, hl with | [_, _], _ => rfl
  have m12 := PySem.W.mg_of X G a12
  have F13 := fun_mk (st := s_law_down) l13 c13 k13
  have b13 := F13.binds (ps := ["flow", "kind"]) fun _ _ _ _ _ _ us hl => match us, hl with | [_, _], _ => rfl
  have m13 := PySem.W.mg_of X G a13
  have F14 := fun_mk (st := s_law_right) l14 c14 k14
  have b14 := F14.binds (ps := ["flow"]) fun _ _ _ _ _ _ us hl => match us, hl with | [_], _ => rfl
  have m14 := PySem.W.mg_of X G a14
  have F15 := fun_mk (st := s_law) l15 c15 k15
  have z_len := PySem.W.mg_none_of X G y1
  have z_max := PySem.W.mg_none_of X G y2
  have z_min := PySem.W.mg_none_of X G y3
  have z_range := PySem.W.mg_none_of X G y4
  have z_tuple := PySem.W.mg_none_of X G y5
  have z_isinstance := PySem.W.mg_none_of X G y6
  have z_int := PySem.W.mg_none_of X G y7
  have z_bool := PySem.W.mg_none_of X G y8
  have z_str := PySem.W.mg_none_of X G y9
  have z_list := PySem.W.mg_none_of X G y10
  have z_zip := PySem.W.mg_none_of X G y11
  have z_enumerate := PySem.W.mg_none_of X G y12
  have z_ValueError := PySem.W.mg_none_of X G y13
  refine ⟨PySem.W.fnOf "law" "law" (defArgs s_law) (defBody s_law) (defScope s_law) .none kV15 dc15 pm15 an15 cd15 ct15, fun s v => .of_eq rfl, fun base _ _ => ?_⟩
  have m_MOST_ITEMS := PySem.W.mg_of X G g1
  have m_GateError := PySem.W.mg_of X G gcGateError
  have m_NoPart := PySem.W.mg_of X G gcNoPart
  have m_Full := PySem.W.mg_of X G gcFull
  have m_NoBlock := PySem.W.mg_of X G gcNoBlock
  have m_NoDoor := PySem.W.mg_of X G gcNoDoor
  have m_NoPicture := PySem.W.mg_of X G gcNoPicture
  have m_NoProgram := PySem.W.mg_of X G gcNoProgram
  have m_NoRoom := PySem.W.mg_of X G gcNoRoom
  have m_NoText := PySem.W.mg_of X G gcNoText
  have m_NoThing := PySem.W.mg_of X G gcNoThing
  have m_NoWord := PySem.W.mg_of X G gcNoWord
  have m_NoWorths := PySem.W.mg_of X G gcNoWorths
  have m_WrongHand := PySem.W.mg_of X G gcWrongHand
  have ex : ExC K cNoPart := ⟨e1, e2, e3, e4, e5, e6, e7, cls_exc xNoPart⟩
  have C1 : Callee l.prog w K mg base "is_whole" 1 ["thing"] spWhole := ⟨_, _, ok_is_whole F1 z_isinstance z_int z_bool, m1, k1, b1⟩
  have C4 : CalleeX l.prog w K mg base "field_place" 1 ["kind", "name"] (spFP cNoPart) := ⟨_, _, ok_field_place F4 m_NoPart xNoPart z_enumerate, m4, k4, b4⟩
  have C3 : CalleeX l.prog w K mg base "step_kind" 2 ["kind", "step"] (spSt cNoPart) := ⟨_, _, ok_step_kind F3 C1 C4 m_NoPart xNoPart m_MOST_ITEMS q1, m3, k3, b3⟩
  have C2 : CalleeX l.prog w K mg base "part_kind" 3 ["kind", "path"] (spPk cNoPart) := ⟨_, _, ok_part_kind F2 C3, m2, k2, b2⟩
  have C5 : Callee l.prog w K mg base "_law_cell_at" 1 ["script", "k"] (spCell K) := ⟨_, _, ok_cell F5 z_len, m5, k5, b5⟩
  have C6 : Callee l.prog w K mg base "_law_flow" 1 ["cell"] spFlow := ⟨_, _, ok_flow F6 z_max, m6, k6, b6⟩
  have C7 : Callee l.prog w K mg base "_law_draw" 1 ["flow", "many"] spDraw := ⟨_, _, ok_draw F7, m7, k7, b7⟩
  have C8 : Callee l.prog w K mg base "_law_name" 2 ["flow", "taken"] spName := ⟨_, _, ok_name F8 C7 z_len z_max z_range, m8, k8, b8⟩
  have C9 : Callee l.prog w K mg base "_law_kind" 12 ["flow", "depth", "room"] (spKind 10) := kind_all F9 m9 k9 b9 C7 C8 z_range z_tuple 10
  have C10 : Callee l.prog w K mg base "_law_bent" 2 ["flow", "path"] spBt := ⟨_, _, ok_bent F10 C7 z_isinstance z_str z_list z_min z_len, m10, k10, b10⟩
  have C11 : Callee l.prog w K mg base "_law_kind_at" 1 ["kind", "path"] spKA := ⟨_, _, ok_kind_at F11 z_isinstance z_str, m11, k11, b11⟩
  have C12 : Callee l.prog w K mg base "_law_same" 1 ["found", "due"] spSame := ⟨_, _, ok_same F12 z_isinstance z_tuple z_str z_int z_bool z_len z_list z_zip, m12, k12, b12⟩
  have C13 : Callee l.prog w K mg base "_law_down" 2 ["flow", "kind"] spDn := ⟨_, _, ok_down F13 C7 z_range z_len, m13, k13, b13⟩
  have C14 : Callee l.prog w K mg base "_law_right" 13 ["flow"] spRight := ⟨_, _, ok_right F14 C7 C9 C13 C10 C2 C11 C12 m_GateError m_NoPart m_Full m_NoBlock m_NoDoor m_NoPicture m_NoProgram m_NoRoom m_NoText m_NoThing m_NoWord m_NoWorths m_WrongHand xm ex ka kb kn kv z_isinstance z_ValueError, m14, k14, b14⟩
  exact ok_law F15 C14 C6 C5 z_range z_max z_min z_len
theorem walk {l : PySem.W.OpenLaw} {q : Program} {loose : List Str} {XP : (Str → Option Value) → Heap → Prop} {YP : World → Heap → Prop} {d : DefRec} {K : Params → PySem.W.Frag} (hn : l.most = some 63) (hdf : d.params.defaults = [])
    (hY : ∀ (w : World) (h : Heap), YP w h → (K w.params).In h)
    (F : ∀ (w : World) (mg : Str → Option Value) (fa : Addr) (h : Heap), (K w.params).In h → h.Ns mainGlobals mg → mg d.name = some (.ref fa) →
      ∃ fd : FuncData, (∀ (s : Shared) (u : Value), BindsTo s fd ⟨[u], []⟩ [("script", u)]) ∧ ∀ base : Heap, (K w.params).In base → base.Ns mainGlobals mg → FnOk l.prog w (K w.params) mg base CX0 14 fa fd ["script"] (spLaw (K w.params))) :
    PySem.W.WalkO q loose XP YP l.row.toRowW d [] (fun f vs => PySem.call f vs) :=
  L2.walk_of (n := 63) (k := 14) (x := "script") (CX := fun _ => CX0) (sp := fun w => spLaw (K w.params)) hn (by decide) hdf ⟨rfl, by decide, by decide⟩ hY F (fun _ _ a ns hl _ hS => ⟨a, ns, rfl, hS, hl, fun _ => rfl⟩) fun _ _ _ _ _ z => z
end Tg
open PySem PySem.W PyProof.Rows
set_option maxRecDepth 100000 in
set_option maxHeartbeats 0 in
theorem PySem.Challenge.cw_tonguegate_k03_kinds_at_paths_holds : PySem.Challenge.rw_tonguegate_k03_kinds_at_paths.Holds := by
  w_on; o_law; k_head; (case hw => w_witness2)
  k_fill
  refine Tg.walk (l := PySem.Challenge.rw_tonguegate_k03_kinds_at_paths) rfl rfl (fun w h Y => PySem.W.kIn_of Y) ?F
  case F =>
    intro w mg fa h KX G hmg
    refine' Tg.all_mk KX G hmg ?a1 ?l1 ?c1 ?k1 ?a2 ?l2 ?c2 ?k2 ?a3 ?l3 ?c3 ?k3 ?a4 ?l4 ?c4 ?k4 ?a5 ?l5 ?c5 ?k5 ?a6 ?l6 ?c6 ?k6 ?a7 ?l7 ?c7 ?k7 ?a8 ?l8 ?c8 ?k8 ?a9 ?l9 ?c9 ?k9 ?a10 ?l10 ?c10 ?k10 ?a11 ?l11 ?c11 ?k11 ?a12 ?l12 ?c12 ?k12 ?a13 ?l13 ?c13 ?k13 ?a14 ?l14 ?c14 ?k14 ?a15 ?l15 ?c15 ?k15 ?y1 ?y2 ?y3 ?y4 ?y5 ?y6 ?y7 ?y8 ?y9 ?y10 ?y11 ?y12 ?y13 ?g1 ?q1 ?gcGateError ?gcNoPart ?gcFull ?gcNoBlock ?gcNoDoor ?gcNoPicture ?gcNoProgram ?gcNoRoom ?gcNoText ?gcNoThing ?gcNoWord ?gcNoWorths ?gcWrongHand ?xNoPart ?xm ?ka ?kb ?kn ?kv ?e1 ?e2 ?e3 ?e4 ?e5 ?e6 ?e7
    (case a1 => k_is); (case l1 => k_is); (case c1 => k_is); (case k1 => k_is)
    (case a2 => k_is); (case l2 => k_is); (case c2 => k_is); (case k2 => k_is)
    (case a3 => k_is); (case l3 => k_is); (case c3 => k_is); (case k3 => k_is)
    (case a4 => k_is); (case l4 => k_is); (case c4 => k_is); (case k4 => k_is)
    (case a5 => k_is); (case l5 => k_is); (case c5 => k_is); (case k5 => k_is)
    (case a6 => k_is); (case l6 => k_is); (case c6 => k_is); (case k6 => k_is)
    (case a7 => k_is); (case l7 => k_is); (case c7 => k_is); (case k7 => k_is)
    (case a8 => k_is); (case l8 => k_is); (case c8 => k_is); (case k8 => k_is)
    (case a9 => k_is); (case l9 => k_is); (case c9 => k_is); (case k9 => k_is)
    (case a10 => k_is); (case l10 => k_is); (case c10 => k_is); (case k10 => k_is)
    (case a11 => k_is); (case l11 => k_is); (case c11 => k_is); (case k11 => k_is)
    (case a12 => k_is); (case l12 => k_is); (case c12 => k_is); (case k12 => k_is)
    (case a13 => k_is); (case l13 => k_is); (case c13 => k_is); (case k13 => k_is)
    (case a14 => k_is); (case l14 => k_is); (case c14 => k_is); (case k14 => k_is)
    (case a15 => k_is); (case l15 => k_is); (case c15 => k_is); (case k15 => k_is)
    (case y1 => k_is)
    (case y2 => k_is)
    (case y3 => k_is)
    (case y4 => k_is)
    (case y5 => k_is)
    (case y6 => k_is)
    (case y7 => k_is)
    (case y8 => k_is)
    (case y9 => k_is)
    (case y10 => k_is)
    (case y11 => k_is)
    (case y12 => k_is)
    (case y13 => k_is)
    (case g1 => k_is); (case q1 => exact ⟨_, rfl⟩)
    (case gcGateError => k_is)
    (case gcNoPart => k_is)
    (case gcFull => k_is)
    (case gcNoBlock => k_is)
    (case gcNoDoor => k_is)
    (case gcNoPicture => k_is)
    (case gcNoProgram => k_is)
    (case gcNoRoom => k_is)
    (case gcNoText => k_is)
    (case gcNoThing => k_is)
    (case gcNoWord => k_is)
    (case gcNoWorths => k_is)
    (case gcWrongHand => k_is)
    (case xNoPart => k_exc)
    (case xm => kts_exm)
    (case ka => kit_is)
    (case kb => kit_is)
    (case kn => kit_is)
    (case kv => kit_is)
    (case e1 => k_is)
    (case e2 => k_is)
    (case e3 => k_is)
    (case e4 => k_is)
    (case e5 => k_is)
    (case e6 => k_is)
    (case e7 => k_is)

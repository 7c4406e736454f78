import PyProof.Rows.All
import Wide.All
import OpenK.AllK
import Wide.FinOn
import Lean
import PyProof.EqAt
import PyProof.EqKinds
import PyProof.TupleCall
import KE.KIntText
import KE.IntTextLaws
import PyProof.MaxThree
import PyProof.WalkInts
import PySem.Challenge.RW_curveyard_k20_boxes_on_floors
set_option Elab.async false
set_option linter.all false
set_option maxRecDepth 100000
/-! THE HAND LAYER, for ints, bools, texts, own classes, LISTS and tuples (index, slices, in, append, pop ..), calls, loops. Paste it whole ahead of your own text; what your proof does not reach may be deleted. -/
namespace L2
open PySem PySem.Spec PyProof.Rows

/-- a key: an int or a str -/
abbrev Key := Sum Int Str
def keyIs : Key → Value → Bool
  | .inl k, v => Value.isInt k v
  | .inr x, v => Value.isStrOf x v
def keyH (w : World) : Key → Int
  | .inl k => hashInt k
  | .inr x => hashStr w x
theorem keyIs_shape : ∀ {k : Key} {v : Value}, keyIs k v = true → (∃ i t, k = Sum.inl i ∧ v = Value.int i t) ∨ (∃ x t, k = Sum.inr x ∧ v = Value.str x t)
  | .inl i, v, h => by
    obtain ⟨t, e⟩ := Value.isInt_shape (k := i) (v := v) h
    exact .inl ⟨i, t, rfl, e⟩
  | .inr x, v, h => by
    obtain ⟨t, e⟩ := Value.isStrOf_shape (x := x) (v := v) h
    exact .inr ⟨x, t, rfl, e⟩
theorem keyIs_int (i : Int) (t : Tok) : keyIs (.inl i) (.int i t) = true := by simp [keyIs, Value.isInt]
theorem keyIs_str (x : Str) (t : Tok) : keyIs (.inr x) (.str x t) = true := by simp [keyIs, Value.isStrOf]
theorem key_ll (a b : Int) : decide ((Sum.inl a : Key) = Sum.inl b) = (a == b) := by
  by_cases e : a = b
  · subst e; simp
  · have h : ¬ (Sum.inl a : Key) = Sum.inl b := fun q => e (Sum.inl.inj q)
    rw [decide_eq_false h]
    exact (beq_eq_false_iff_ne.mpr e).symm
theorem key_rr (a b : Str) : decide ((Sum.inr a : Key) = Sum.inr b) = decide (a = b) := by
  by_cases e : a = b
  · subst e; simp
  · have h : ¬ (Sum.inr a : Key) = Sum.inr b := fun q => e (Sum.inr.inj q)
    rw [decide_eq_false h, decide_eq_false e]
theorem key_lr (a : Int) (b : Str) : decide ((Sum.inl a : Key) = Sum.inr b) = false := decide_eq_false (fun q => nomatch q)
theorem key_rl (a : Str) (b : Int) : decide ((Sum.inr a : Key) = Sum.inl b) = false := decide_eq_false (fun q => nomatch q)

def mixKind (prog : Program) (w : World) : PySem.KeyKind prog w Key where
  is := keyIs
  hash := keyH w
  inj := fun v a b ha hb => by
    rcases keyIs_shape ha with ⟨i, t, rfl, rfl⟩ | ⟨x, t, rfl, rfl⟩
    · rcases keyIs_shape hb with ⟨j, u, rfl, e⟩ | ⟨y, u, rfl, e⟩
      · injection e with e1 _; rw [e1]
      · exact nomatch e
    · rcases keyIs_shape hb with ⟨j, u, rfl, e⟩ | ⟨y, u, rfl, e⟩
      · exact nomatch e
      · injection e with e1 _; rw [e1]
  byValue := fun k v h => by
    rcases keyIs_shape h with ⟨i, t, rfl, rfl⟩ | ⟨x, t, rfl, rfl⟩ <;> rfl
  pyHash := fun hv h => by
    rcases keyIs_shape hv with ⟨i, t, rfl, rfl⟩ | ⟨x, t, rfl, rfl⟩
    · exact wpAny_pyHash_int h
    · exact wpAny_pyHash_str h
  eqBool := fun hu hv h => by
    rcases keyIs_shape hu with ⟨i, t, rfl, rfl⟩ | ⟨x, t, rfl, rfl⟩
    · rcases keyIs_shape hv with ⟨j, u, rfl, rfl⟩ | ⟨y, u, rfl, rfl⟩
      · rw [key_ll] at h; exact wpAny_eqBool_int h
      · rw [key_lr] at h; exact SeqAt.EqAt.int_str i t y u _ _ _ _ h
    · rcases keyIs_shape hv with ⟨j, u, rfl, rfl⟩ | ⟨y, u, rfl, rfl⟩
      · rw [key_rl] at h; exact SeqAt.EqAt.str_int x t j u _ _ _ _ h
      · rw [key_rr] at h; exact wpAny_eqBool_str h
  «strs» := fun k x t v h => by
    rcases keyIs_shape h with ⟨i, u, rfl, e⟩ | ⟨y, u, rfl, e⟩
    · exact nomatch e
    · injection e with e1 _
      subst e1
      cases v <;> rfl

theorem mixKind_is (prog : Program) (w : World) (k : Key) (v : Value) : (mixKind prog w).is k v = keyIs k v := rfl
theorem mixKind_int (prog : Program) (w : World) (i : Int) (t : Tok) : (mixKind prog w).is (.inl i) (.int i t) = true := keyIs_int i t
theorem mixKind_str (prog : Program) (w : World) (x : Str) (t : Tok) : (mixKind prog w).is (.inr x) (.str x t) = true := keyIs_str x t
end L2

namespace L2
open PySem PySem.Spec PyProof.Rows

/-- a value, without the heap -/
inductive V where
  | non | bl (b : Bool) | int (i : Int) | str (x : Str) | byt (b : Array UInt8) | flt (b : UInt64) | ref (a : Addr) | ty (n : String)
  deriving DecidableEq

def RelV : V → Value → Prop
  | .non, u => u = Value.none
  | .bl b, u => u = Value.bool b
  | .int i, u => ∃ t, u = Value.int i t
  | .str x, u => ∃ t, u = Value.str x t
  | .byt b, u => ∃ t, u = Value.bytes b t
  | .flt b, u => ∃ t, u = Value.float b t
  | .ref a, u => u = Value.ref a
  | .ty n, u => u = Value.type n

abbrev Vals : List V → List Value → Prop := Paired RelV
theorem Vals.length {xs : List V} {us : List Value} (r : Vals xs us) : xs.length = us.length := Paired.length r
theorem Vals.get : ∀ {xs : List V} {us : List Value} {i : Nat} {x : V}, Vals xs us → xs[i]? = some x → ∃ u, us[i]? = some u ∧ RelV x u
  | _, _, _, _, .nil, e => by simp at e
  | _, _, 0, _, .cons r _, e => by simp at e; subst e; exact ⟨_, rfl, r⟩
  | _, _, i + 1, x, .cons _ t, e => by
    obtain ⟨u, h1, h2⟩ := Vals.get (i := i) (x := x) t (by simpa using e)
    exact ⟨u, by simpa using h1, h2⟩
theorem Vals.set {x : V} {u : Value} (r : RelV x u) : ∀ {xs : List V} {us : List Value} (i : Nat), Vals xs us → Vals (xs.set i x) (us.set i u)
  | _, _, _, .nil => .nil
  | _, _, 0, .cons _ t => .cons r t
  | _, _, i + 1, .cons q t => .cons q (Vals.set r i t)
theorem Vals.append : ∀ {xs ys : List V} {us ws : List Value}, Vals xs us → Vals ys ws → Vals (xs ++ ys) (us ++ ws)
  | _, _, _, _, .nil, s => s
  | _, _, _, _, .cons r t, s => .cons r (Vals.append t s)
theorem Vals.take : ∀ {xs : List V} {us : List Value} (n : Nat), Vals xs us → Vals (xs.take n) (us.take n)
  | _, _, 0, _ => .nil
  | _, _, _ + 1, .nil => .nil
  | _, _, n + 1, .cons r t => .cons r (Vals.take n t)
theorem Vals.drop : ∀ {xs : List V} {us : List Value} (n : Nat), Vals xs us → Vals (xs.drop n) (us.drop n)
  | _, _, 0, r => r
  | _, _, _ + 1, .nil => .nil
  | _, _, n + 1, .cons _ t => Vals.drop n t
theorem Vals.none_of : ∀ {xs : List V} {us : List Value} {i : Nat}, Vals xs us → xs[i]? = none → us[i]? = none := fun {xs us i} r e => by
  have h1 := r.length
  have h2 : xs.length ≤ i := List.getElem?_eq_none_iff.mp e
  exact List.getElem?_eq_none_iff.mpr (by omega)

def RelO : Option V → Option Value → Prop
  | some v, some u => RelV v u
  | none, none => True
  | _, _ => False
def KV {κ : Type} : List (κ × V) → List (κ × Value) → Prop := Paired fun (p : κ × V) (q : κ × Value) => p.1 = q.1 ∧ RelV p.2 q.2

/-- a key of a dict (00_mix): an int or a text -/
def kV : Key → V
  | .inl i => .int i
  | .inr x => .str x

/-- what stands at a tracked address -/
inductive HO where
  /-- a list -/
  | lst (xs : List V)
  /-- a tuple (never changes) -/
  | tup (xs : List V)
  /-- a dict whose keys are ints and texts; one whose keys are tuples of ints and texts (the empty one is both) -/
  | dK (kvs : List (Key × V)) | dT (kvs : List (List Key × V))
  /-- a set of ints: its members, its size -/
  | set (S : Int → Bool) (n : Nat)
  /-- an instance of the class at C, its dict at dx, its attributes -/
  | ins (C dx : Addr) (fs : List (Str × V))
  /-- the dict of the instance at x -/
  | own (x : Addr)
  /-- the dict of an exception -/
  | xd (fs : List (Str × V))
  /-- a bound method, f of x -/
  | met (f x : Addr)
  /-- a range object lo, lo + 1, .. below hi -/
  | rng (lo hi : Int)
  /-- a thing that is known to the object (the script; a dict while a loop walks it): read, never written while it is so -/
  | frz (o : Obj) (u : HO)
  /-- a code object's table -/
  | tbl (ps : Array Value)
  /-- any other thing, by what is true of its one object (a def of one's own: SetO a S n := HO.ext fun h => ..) -/
  | ext (φ : Heap → Prop)

abbrev Hp := Addr → Option HO
def upd (H : Hp) (a : Addr) (o : HO) : Hp := fun b => if b = a then some o else H b
theorem upd_same {H : Hp} {a : Addr} {o : HO} : upd H a o a = some o := by unfold upd; rw [if_pos rfl]
theorem upd_ne {H : Hp} {a b : Addr} {o : HO} (h : b ≠ a) : upd H a o b = H b := by unfold upd; rw [if_neg h]
theorem upd_upd {H : Hp} {a : Addr} {o u : HO} : upd (upd H a o) a u = upd H a u := by
  funext b; unfold upd; split <;> rfl
/-- two objects of different content stand apart -/
theorem ne_of {H : Hp} {a b : Addr} {o u : HO} (h : H a = some o) (h' : H b = some u) (d : o ≠ u) : a ≠ b := by
  intro e; subst e; rw [h] at h'; exact d (Option.some.inj h')
theorem ne_of_none {H : Hp} {a b : Addr} {o : HO} (h : H a = some o) (h' : H b = none) : a ≠ b := by
  intro e; subst e; rw [h] at h'; cases h'

section
variable (P : Program) (w : World)
def ObjOk (H : Hp) (h : Heap) (a : Addr) : HO → Prop
  | .lst xs => xs.length ≤ sizeLine ∧ ∃ (its : List Value) (n : Nat), Vals xs its ∧ h.get? a = some { cls := .type "list", data := .seq its.toArray n }
  | .tup xs => xs.length ≤ sizeLine ∧ ∃ its : List Value, Vals xs its ∧ IsTup h a its.toArray
  | .dK kvs => kvs.length ≤ sizeLine ∧ (a == sysModules) = false ∧ ∃ vs, KV kvs vs ∧ h.DictOf (mixKind P w) a vs
  | .dT kvs => kvs.length ≤ sizeLine ∧ (a == sysModules) = false ∧ ∃ xs : List (List Key × Addr × Value),
      Paired (fun (p : List Key × V) (q : List Key × Addr × Value) => p.1 = q.1 ∧ H q.2.1 = some (.tup (p.1.map kV)) ∧ RelV p.2 q.2.2) kvs xs ∧
      ∃ o es ep, h.get? a = some o ∧ o.ExactDict ∧ o.data = .dict es ep ∧ es.toList = xs.map (entryOfKey (tupleKind (mixKind P w))) ∧ (xs.map (·.1)).Nodup
  | .set S n => h.SetOf (intKind P w) a S n
  | .ins C dx fs => H dx = some (.own a) ∧ fs.length ≤ 1000 ∧ dx ≠ a ∧ h.get? a = some (PySem.W.instObj C dx) ∧
      ∃ mA, h.Ns1 dx mA ∧ (∀ f, RelO (fs.lookup f) (mA f)) ∧ PySem.Within mA (fs.map (·.1))
  | .own _ => ∃ o, h.get? a = some o
  | .xd fs => ∃ mA, h.Ns1 a mA ∧ ∀ f, RelO (fs.lookup f) (mA f)
  | .rng lo hi => ∃ t u v, h.get? a = some { cls := .type "range", data := .fields #[.int lo t, .int hi u, .int 1 v] }
  | .frz o u => h.get? a = some o ∧ ObjOk H h a u
  | .tbl ps => h.get? a = some { cls := .none, data := .fields ps }
  | .met f x => h.get? a = some (PySem.W.methodObj (.ref f) (.ref x))
  | .ext φ => φ h ∧ (∃ o, h.get? a = some o) ∧ ∀ h1 h2 : Heap, φ h1 → (∀ o, h1.get? a = some o → h2.get? a = some o) → φ h2
/-- the abstract heap is held -/
def HOk (H : Hp) (h : Heap) : Prop := ∀ a o, H a = some o → ObjOk P w H h a o
end

section
variable {P : Program} {w : World} {H H' : Hp} {h h' : Heap} {a : Addr} {o : HO}
theorem ObjOk.lt (x : ObjOk P w H h a o) : a < h.objs.size := by
  cases o with
  | lst xs => obtain ⟨_, _, _, _, e⟩ := x; exact Heap.lt_size e
  | tup xs => obtain ⟨_, _, _, p⟩ := x; exact p.lt
  | dK kvs => obtain ⟨_, _, _, _, o, _, _, e, _⟩ := x; exact Heap.lt_size e
  | dT kvs => obtain ⟨_, _, _, _, o, _, _, e, _⟩ := x; exact Heap.lt_size e
  | set S n => obtain ⟨o, _, _, _, e, _⟩ := x; exact Heap.lt_size e
  | ins C dx fs => obtain ⟨_, _, _, e, _⟩ := x; exact Heap.lt_size e
  | own y => obtain ⟨_, e⟩ := x; exact Heap.lt_size e
  | xd fs => obtain ⟨_, ⟨_, _, _, e, _⟩, _⟩ := x; exact Heap.lt_size e
  | rng lo hi => obtain ⟨_, _, _, e⟩ := x; exact Heap.lt_size e
  | frz ob u => obtain ⟨e, _⟩ := x; exact Heap.lt_size e
  | tbl ps => exact Heap.lt_size (show h.get? a = some _ from x)
  | met f y => exact Heap.lt_size (show h.get? a = some _ from x)
  | ext φ => obtain ⟨_, ⟨_, e⟩, _⟩ := x; exact Heap.lt_size e
theorem Paired.mapP {α β : Type} {F G : α → β → Prop} : ∀ {l₁ : List α} {l₂ : List β}, Paired F l₁ l₂ → (∀ a b, F a b → G a b) → Paired G l₁ l₂
  | _, _, .nil, _ => .nil
  | _, _, .cons r t, f => .cons (f _ _ r) (Paired.mapP t f)
theorem Paired.imp' {α β : Type} {F G : α → β → Prop} (f : ∀ a b, F a b → G a b) {l₁ : List α} {l₂ : List β} (r : Paired F l₁ l₂) : Paired G l₁ l₂ := Paired.mapP r f
/-- what an object's description leans on: its own object, its own dict, the tuples -/
theorem ObjOk.stay (x : ObjOk P w H h a o) (k : ∀ b u, (b = a ∨ H b = some (.own a)) → h.get? b = some u → h'.get? b = some u)
    (ho : ∀ b, H b = some (.own a) → H' b = some (.own a)) (ht : ∀ b xs, H b = some (.tup xs) → H' b = some (.tup xs)) : ObjOk P w H' h' a o := by
  induction o with
  | lst xs => obtain ⟨z, its, n, r, e⟩ := x; exact ⟨z, its, n, r, k _ _ (.inl rfl) e⟩
  | tup xs => obtain ⟨z, its, r, ob, e, c⟩ := x; exact ⟨z, its, r, ob, k _ _ (.inl rfl) e, c⟩
  | dK kvs => obtain ⟨z, y, vs, r, ob, es, ep, e, c⟩ := x; exact ⟨z, y, vs, r, ob, es, ep, k _ _ (.inl rfl) e, c⟩
  | dT kvs =>
    obtain ⟨z, y, xs, r, ob, es, ep, e, c⟩ := x
    exact ⟨z, y, xs, Paired.mapP r fun p q z => ⟨z.1, ht _ _ z.2.1, z.2.2⟩, ob, es, ep, k _ _ (.inl rfl) e, c⟩
  | set S n => obtain ⟨ob, es, ep, t, e, c⟩ := x; exact ⟨ob, es, ep, t, k _ _ (.inl rfl) e, c⟩
  | ins C dx fs =>
    obtain ⟨d, z, ne, e, mA, ⟨od, es, ep, e2, c⟩, r⟩ := x
    exact ⟨ho _ d, z, ne, k _ _ (.inl rfl) e, mA, ⟨od, es, ep, k _ _ (.inr d) e2, c⟩, r⟩
  | own y => obtain ⟨ob, e⟩ := x; exact ⟨ob, k _ _ (.inl rfl) e⟩
  | xd fs => obtain ⟨mA, ⟨od, es, ep, e, c⟩, r⟩ := x; exact ⟨mA, ⟨od, es, ep, k _ _ (.inl rfl) e, c⟩, r⟩
  | rng lo hi => obtain ⟨t, u, v, e⟩ := x; exact ⟨t, u, v, k _ _ (.inl rfl) e⟩
  | frz ob u ih => obtain ⟨e, q⟩ := x; exact ⟨k _ _ (.inl rfl) e, ih q⟩
  | tbl ps =>
    have e : h.get? a = some { cls := .none, data := .fields ps } := x
    show h'.get? a = some { cls := .none, data := .fields ps }
    exact k a _ (.inl rfl) e
  | met f y =>
    have e : h.get? a = some (PySem.W.methodObj (.ref f) (.ref y)) := x
    show h'.get? a = some (PySem.W.methodObj (.ref f) (.ref y))
    exact k a _ (.inl rfl) e
  | ext φ => obtain ⟨p, ⟨o, e⟩, st⟩ := x; exact ⟨st _ _ p fun o q => k _ _ (.inl rfl) q, ⟨o, k _ _ (.inl rfl) e⟩, st⟩
theorem HOk.lt (x : HOk P w H h) (e : H a = some o) : a < h.objs.size := (x a o e).lt
theorem HOk.fresh (x : HOk P w H h) (e : h.objs.size ≤ a) : H a = none := by
  cases q : H a with
  | none => rfl
  | some u => exact absurd (Nat.lt_of_lt_of_le (x.lt q) e) (Nat.lt_irrefl _)
/-- every object of the heap is kept -/
theorem HOk.kept (x : HOk P w H h) (k : ∀ b u, h.get? b = some u → h'.get? b = some u) : HOk P w H h' := fun a o e =>
  (x a o e).stay (fun b u _ q => k b u q) (fun _ q => q) fun _ _ q => q
/-- a new object is laid and tracked -/
theorem HOk.laid (x : HOk P w H h) (k : ∀ b u, h.get? b = some u → h'.get? b = some u) (hp : h.objs.size ≤ a) (new : ObjOk P w (upd H a o) h' a o) : HOk P w (upd H a o) h' := fun b u e => by
  have hn := x.fresh hp
  by_cases hb : b = a
  · subst hb; rw [upd_same] at e; cases e; exact new
  · rw [upd_ne hb] at e
    exact (x b u e).stay (fun c v _ q => k c v q) (fun c q => by rw [upd_ne (ne_of_none q hn)]; exact q) fun c xs q => by rw [upd_ne (ne_of_none q hn)]; exact q
end

/-- what may be read as u: it is u, or a known u -/
def Rd (H : Hp) (a : Addr) (u : HO) : Prop := H a = some u ∨ ∃ o, H a = some (.frz o u)
theorem Rd.of {H : Hp} {a : Addr} {u : HO} (h : H a = some u) : Rd H a u := .inl h
theorem Rd.ok {P : Program} {w : World} {H : Hp} {h : Heap} {a : Addr} {u : HO} (r : Rd H a u) (x : HOk P w H h) : ObjOk P w H h a u := by
  rcases r with r | ⟨o, r⟩
  · exact x a u r
  · obtain ⟨_, q⟩ := x a _ r
    exact q
/-- what may be written -/
def Mut : Option HO → Prop
  | some (.lst _) => True
  | some (.dK _) => True
  | some (.dT _) => True
  | some (.set _ _) => True
  | some (.ins _ _ _) => True
  | some (.ext _) => True
  | _ => False
section
variable {P : Program} {w : World} {H : Hp} {h h' : Heap} {x e : Addr} {o' : HO}
/-- the object at e is changed: x itself, or the dict of the instance x -/
theorem HOk.write (ok : HOk P w H h) (mu : Mut (H x)) (he : e = x ∨ H e = some (.own x)) (k : ∀ b u, b ≠ e → h.get? b = some u → h'.get? b = some u) (heo : ∃ u, h'.get? e = some u)
    (new : ObjOk P w (upd H x o') h' x o') : HOk P w (upd H x o') h' := fun b u q => by
  have nown : ∀ c y, H c = some (.own y) → c ≠ x := fun c y r z => by subst z; rw [r] at mu; exact mu
  have ntup : ∀ c xs, H c = some (.tup xs) → c ≠ x := fun c xs r z => by subst z; rw [r] at mu; exact mu
  by_cases hb : b = x
  · subst hb; rw [upd_same] at q; cases q; exact new
  · rw [upd_ne hb] at q
    by_cases hbe : b = e
    · have q' : H b = some (.own x) := by
        rcases he with z | z
        · exact absurd (hbe.trans z) hb
        · rw [hbe]; exact z
      rw [q] at q'; cases q'
      obtain ⟨v, hv⟩ := heo
      exact ⟨v, by rw [hbe]; exact hv⟩
    · refine (ok b u q).stay (fun c v hc r => k c v ?_ r) (fun c r => by rw [upd_ne (nown c b r)]; exact r) fun c xs r => by rw [upd_ne (ntup c xs r)]; exact r
      rcases hc with rfl | hc
      · exact hbe
      · rintro rfl
        rcases he with z | z
        · exact nown c b hc z
        · rw [hc] at z; cases z; exact hb rfl
end

/-! ### kept unless tracked; of the frames at fs (the callers') the slots may change (an exception that passes writes there); of the records at ex (iterators) nothing is said -/
structure Un (fs ex : List Addr) (H H' : Hp) (h h' : Heap) : Prop where
  keep : ∀ b o, h.get? b = some o → H b = none → b ∉ fs → b ∉ ex → h'.get? b = some o
  slot : ∀ b o, h.get? b = some o → H b = none → b ∈ fs → b ∉ ex → ∃ sl, h'.get? b = some { o with slots := sl }
  free : ∀ b o, h.get? b = some o → H b = none → b ∉ ex → H' b = none
  there : ∀ b o, h.get? b = some o → b ∉ ex → ∃ o', h'.get? b = some o'
  tups : ∀ b xs, H b = some (.tup xs) → H' b = some (.tup xs)
  frzs : ∀ b o u, H b = some (.frz o u) → H' b = some (.frz o u)
  tbls : ∀ b ps, H b = some (.tbl ps) → ∃ more, H' b = some (.tbl (ps ++ more))
section
variable {fs fs' ex ex' : List Addr} {H H1 H2 : Hp} {h h1 h2 h' : Heap} {a x e : Addr} {o : HO}
theorem Un.any (u : Un fs ex H H1 h h1) {b : Addr} {ob : Obj} (q : h.get? b = some ob) (n : H b = none) (hx : b ∉ ex) : ∃ sl, h1.get? b = some { ob with slots := sl } := by
  by_cases hb : b ∈ fs
  · exact u.slot b ob q n hb hx
  · exact ⟨ob.slots, u.keep b ob q n hb hx⟩
theorem Un.trans (a : Un fs ex H H1 h h1) (b : Un fs ex H1 H2 h1 h2) : Un fs ex H H2 h h2 where
  keep := fun c ob q n hc hx => b.keep c ob (a.keep c ob q n hc hx) (a.free c ob q n hx) hc hx
  slot := fun c ob q n hc hx => by
    obtain ⟨sl, e1⟩ := a.slot c ob q n hc hx
    obtain ⟨sl', e2⟩ := b.slot c _ e1 (a.free c ob q n hx) hc hx
    exact ⟨sl', e2⟩
  free := fun c ob q n hx => by
    obtain ⟨o', e1⟩ := a.there c ob q hx
    exact b.free c o' e1 (a.free c ob q n hx) hx
  there := fun c ob q hx => by
    obtain ⟨o', e1⟩ := a.there c ob q hx
    exact b.there c o' e1 hx
  tups := fun c xs q => b.tups c xs (a.tups c xs q)
  frzs := fun c ob xs q => b.frzs c ob xs (a.frzs c ob xs q)
  tbls := fun c ps q => by
    obtain ⟨m1, e1⟩ := a.tbls c ps q
    obtain ⟨m2, e2⟩ := b.tbls c _ e1
    exact ⟨m1 ++ m2, by rw [e2, Array.append_assoc]⟩
theorem Un.kept (k : ∀ b u, h.get? b = some u → h'.get? b = some u) : Un fs ex H H h h' :=
  ⟨fun b ob q _ _ _ => k b ob q, fun b ob q _ _ _ => ⟨ob.slots, k b ob q⟩, fun _ _ _ n _ => n, fun b ob q _ => ⟨ob, k b ob q⟩, fun _ _ q => q, fun _ _ _ q => q, fun _ ps q => ⟨#[], by rw [q]; simp⟩⟩
theorem Un.refl : Un fs ex H H h h := Un.kept fun _ _ q => q
theorem Un.laid (k : ∀ b u, h.get? b = some u → h'.get? b = some u) (hp : h.objs.size ≤ a) (hn : H a = none) : Un fs ex H (upd H a o) h h' where
  keep := fun b u q _ _ _ => k b u q
  slot := fun b u q _ _ _ => ⟨u.slots, k b u q⟩
  free := fun b u q n _ => by rw [upd_ne (Nat.ne_of_lt (Nat.lt_of_lt_of_le (Heap.lt_size q) hp))]; exact n
  there := fun b u q _ => ⟨u, k b u q⟩
  tups := fun b xs q => by rw [upd_ne (ne_of_none q hn)]; exact q
  frzs := fun b u xs q => by rw [upd_ne (ne_of_none q hn)]; exact q
  tbls := fun b ps q => ⟨#[], by rw [upd_ne (ne_of_none q hn), q]; simp⟩
theorem Un.write (mu : Mut (H x)) (he : e = x ∨ H e = some (.own x)) (k : ∀ b u, b ≠ e → h.get? b = some u → h'.get? b = some u) (heo : ∃ u, h'.get? e = some u) : Un fs ex H (upd H x o) h h' := by
  have hx : ∀ b, H b = none → b ≠ x := fun b n z => by subst z; rw [n] at mu; exact mu
  have hb : ∀ b, H b = none → b ≠ e := fun b n z => by
    subst z
    rcases he with r | r
    · exact hx b n r
    · rw [n] at r; cases r
  have hm : ∀ b u, H b = some u → ¬ Mut (some u) → b ≠ x := fun b u q nm z => by subst z; rw [q] at mu; exact nm mu
  refine ⟨fun b u q n _ _ => k b u (hb b n) q, fun b u q n _ _ => ⟨u.slots, k b u (hb b n) q⟩, fun b u q n _ => by rw [upd_ne (hx b n)]; exact n, fun b u q _ => ?_,
    fun b xs q => by rw [upd_ne (hm b _ q fun z => z)]; exact q, fun b u xs q => by rw [upd_ne (hm b _ q fun z => z)]; exact q, fun b ps q => ⟨#[], by rw [upd_ne (hm b _ q fun z => z), q]; simp⟩⟩
  by_cases hbe : b = e
  · subst hbe; exact heo
  · exact ⟨u, k b u hbe q⟩
theorem Un.mono (u : Un fs ex H H1 h h1) (hs : ∀ b ∈ fs, b ∈ fs') (hx : ∀ b ∈ ex, b ∈ ex') : Un fs' ex' H H1 h h1 :=
  ⟨fun b ob q n hb he => u.keep b ob q n (fun z => hb (hs b z)) fun z => he (hx b z), fun _ _ q n _ he => u.any q n fun z => he (hx _ z), fun b ob q n he => u.free b ob q n fun z => he (hx b z), fun b ob q he => u.there b ob q fun z => he (hx b z), u.tups, u.frzs, u.tbls⟩
end

/-! ### the heap without what is tracked -/
def trk (h : Heap) (H : Hp) : List Addr := (List.range h.objs.size).filter fun a => (H a).isSome
def hidT (h : Heap) (H : Hp) : Heap := PySem.W.hideAll h (trk h H)
theorem hidT_size (h : Heap) (H : Hp) : (hidT h H).objs.size = h.objs.size := PySem.W.hideAll_size _ _
theorem hidT_get {h : Heap} {H : Hp} {b : Addr} {o : Obj} (e : h.get? b = some o) (n : H b = none) : (hidT h H).get? b = some o :=
  PySem.W.hideAll_get _ e fun hm => by
    have q : (H b).isSome = true := (List.mem_filter.mp hm).2
    rw [n] at q; simp at q
theorem of_hidT {h : Heap} {H : Hp} {b : Addr} {o : Obj} (e : (hidT h H).get? b = some o) : h.get? b = some o ∧ H b = none := by
  have e' : h.get? b = some o := PySem.W.of_hideAll (trk h H) e
  refine ⟨e', ?_⟩
  cases q : H b with
  | none => rfl
  | some x =>
    have hm : b ∈ trk h H := List.mem_filter.mpr ⟨List.mem_range.mpr (Heap.lt_size e'), by simp [q]⟩
    have z : (hidT h H).get? b = none := PySem.W.hideAll_none (trk h H) hm
    rw [z] at e; cases e

/-! ### OpenK's ledger, filled with every new object but one -/
def allNews (g h : Heap) (L : Addr) : List (Addr × Obj) := (List.range h.objs.size).filterMap fun a => if a = L ∨ (g.get? a).isSome = true then none else (h.get? a).map fun o => (a, o)
theorem mem_allNews {g h : Heap} {L a : Addr} {o : Obj} (h1 : a ≠ L) (h2 : g.get? a = none) (h3 : h.get? a = some o) : (a, o) ∈ allNews g h L :=
  List.mem_filterMap.mpr ⟨a, List.mem_range.mpr (Heap.lt_size h3), by simp [h1, h2, h3]⟩
theorem of_mem_allNews {g h : Heap} {L : Addr} {p : Addr × Obj} (hp : p ∈ allNews g h L) : p.1 ≠ L ∧ g.get? p.1 = none ∧ h.get? p.1 = some p.2 := by
  obtain ⟨b, _, e⟩ := List.mem_filterMap.mp hp
  split at e
  · cases e
  · rename_i hn
    cases q : h.get? b with
    | none => rw [q] at e; simp at e
    | some u =>
      rw [q] at e
      simp only [Option.map_some, Option.some.injEq] at e
      subst e
      refine ⟨fun z => hn (.inl z), ?_, q⟩
      show g.get? b = none
      cases r : g.get? b with
      | none => rfl
      | some v => exact (hn (.inr (by simp [r]))).elim
def rest (g h : Heap) (L d : Addr) : List (Addr × Obj) := (allNews g h L).filter fun p => decide (p.1 ≠ d)
theorem rest_ne {g h : Heap} {L d : Addr} : ∀ p ∈ rest g h L d, p.1 ≠ d := fun p hp => of_decide_eq_true (List.mem_filter.mp hp).2
theorem mem_rest {g h : Heap} {L d a : Addr} {o : Obj} (h1 : a ≠ L) (h2 : g.get? a = none) (h3 : h.get? a = some o) (h4 : a ≠ d) : (a, o) ∈ rest g h L d :=
  List.mem_filter.mpr ⟨mem_allNews h1 h2 h3, decide_eq_true h4⟩
theorem news_all {g h : Heap} {L : Addr} : News g L h (allNews g h L) := fun p hp => let ⟨a, b, c⟩ := of_mem_allNews hp; ⟨c, a, b⟩
theorem news_at {g h : Heap} {L d : Addr} {o : Obj} (h1 : d ≠ L) (h2 : g.get? d = none) (h3 : h.get? d = some o) : News g L h ((d, o) :: rest g h L d) := fun p hp => by
  rcases List.mem_cons.mp hp with rfl | hp
  · exact ⟨h3, h1, h2⟩
  · exact news_all p (List.mem_filter.mp hp).1
/-- behind a rule that changed d alone: all else but the frame is kept -/
theorem kept_of_news {g h h' : Heap} {L d : Addr} {m : Str → Option Value} (k : ∀ b o, g.get? b = some o → h.get? b = some o) (F : Fr g L h' m) (N : News g L h' (rest g h L d)) :
    ∀ b o, b ≠ L → b ≠ d → h.get? b = some o → h'.get? b = some o := fun b o h1 h2 e => by
  cases q : g.get? b with
  | some u =>
    have := k b u q
    rw [e] at this; cases this
    exact F.keep b _ q
  | none => exact (N (b, o) (mem_rest h1 q e h2)).1
end L2

namespace L2
open PySem PySem.Spec PyProof.Rows

/-- the module's facts, over the base: the heap at the law's entry without what is tracked there -/
structure Mod (K : PySem.W.Frag) (mg : Str → Option Value) (base : Heap) : Prop where
  kin : K.In base
  glob : base.Ns mainGlobals mg
  blt : ∃ mb, base.Ns builtinsNs mb ∧ ∀ x : Str, x ≠ "__name__" → mb x = bootBuiltins x
  nolimit : base.NoLimit

/-- the context: a def's body (or a comprehension's block) running. base: fixed through the whole law; s₀, H₀: the entry; outer: the frames whose slots others may change (a def's callers); stack: all frames that run;
   ex: iterators that were made ahead of the entry and are walked here (a comprehension's); fn: the names whose cells were made at the entry (a def: all; a comprehension's block: its own); calm: not within an except suite; pn: pins that every state bears; xe: what is wanted of an exception that leaves the code -/
structure Cx where
  prog : Program
  w : World
  K : PySem.W.Frag
  mg : Str → Option Value
  base : Heap
  A : Around
  N : List Str
  s₀ : Shared
  H₀ : Hp
  env : Env
  outer : List Env
  stack : List Env
  ex : List Addr
  fn : Str → Bool
  calm : Bool
  pn : List (Addr × Obj)
  xe : Value → Shared → Prop
/-- the callers' frames -/
def frs (l : List Env) : List Addr := l.filterMap (·.frame)
abbrev Cx.fs (X : Cx) : List Addr := frs X.outer

def Vis (sc : Scope) (x : Str) : Prop := sc.names.lookup x = some .local ∨ sc.names.lookup x = some .cell ∨ sc.names.lookup x = some .free
def Loc (sc : Scope) (x : Str) : Prop := sc.names.lookup x = some .local ∨ sc.names.lookup x = some .cell
def Look (env : Env) (h : Heap) (m : Str → Option Value) (x : Str) (u : Value) : Prop :=
  (env.kindOf x = some .local ∧ m x = some u) ∨ ((env.kindOf x = some .cell ∨ env.kindOf x = some .free) ∧ ∃ c, env.cells.lookup x = some c ∧ h.IsCell c (some u))

structure Cx.Ok (X : Cx) : Prop where
  mod : Mod X.K X.mg X.base
  kind : X.env.scope.kind = .function
  glob : X.env.globals = mainGlobals
  blt : X.env.builtins = builtinsNs
  above : X.s₀.heap.objs.size ≤ X.env.locals
  inj : ∀ x y c, X.env.cells.lookup x = some c → X.env.cells.lookup y = some c → x = y
  has : ∀ x, (X.env.kindOf x = some .cell ∨ X.env.kindOf x = some .free) → ∃ c, X.env.cells.lookup x = some c
  cab : ∀ x c, X.fn x = true → X.env.cells.lookup x = some c → X.s₀.heap.objs.size ≤ c
  hd : X.calm = true → X.A.handled = none
  frames : X.A.frames = some X.stack
  stk : X.stack = X.outer ∨ (X.stack = X.env :: X.outer ∧ X.env.frame = some X.env.locals)
  exf : ∀ b ∈ X.ex, b ≠ X.env.locals ∧ ∀ x c, X.env.cells.lookup x = some c → c ≠ b
  bs : ∀ b o, X.base.get? b = some o → X.s₀.heap.get? b = some o ∧ X.H₀ b = none
  bsz : X.base.objs.size ≤ X.s₀.heap.objs.size
  noex : ∀ b o, X.base.get? b = some o → b ∉ X.ex
  exfs : ∀ b ∈ X.ex, b ∉ X.fs
  funs : X.s₀.heap.FunFrames X.base X.outer
  frf : ∀ b ∈ X.fs, X.H₀ b = none

structure Inv (X : Cx) (pins : List (Addr × Obj)) (σ : List (Option V)) (H : Hp) (s : Shared) : Prop where
  ok : X.Ok
  os : s.os = X.s₀.os
  bare : AllBare s.gens
  base : Un X.fs X.ex X.H₀ H X.s₀.heap s.heap
  loc : ∃ m, s.heap.Ns X.env.locals m ∧ ∀ (i : Nat) (x : Str) (v : V), X.N[i]? = some x → σ[i]? = some (some v) → Vis X.env.scope x → ∃ u, RelV v u ∧ Look X.env s.heap m x u
  cell : ∀ x c, X.env.cells.lookup x = some c → ∃ v, s.heap.IsCell c v
  free : H X.env.locals = none
  freeC : ∀ x c, X.env.cells.lookup x = some c → H c = none
  pin : ∀ p ∈ X.pn ++ pins, s.heap.get? p.1 = some p.2 ∧ H p.1 = none ∧ p.1 ≠ X.env.locals ∧ p.1 ∉ X.fs ∧ ∀ v, p.2.data ≠ .cell v
  hok : HOk X.prog X.w H s.heap
  len : σ.length = X.N.length

section
variable {X : Cx} {pins : List (Addr × Obj)} {σ : List (Option V)} {H H' : Hp} {s : Shared} {h' : Heap}

theorem Cx.Ok.nofr (ok : X.Ok) {b : Addr} {o : Obj} (e : X.base.get? b = some o) : b ∉ X.fs := fun hb => by
  have := (ok.funs.mem hb).1
  rw [e] at this; cases this
theorem Inv.bs (I : Inv X pins σ H s) : ∀ b o, X.base.get? b = some o → s.heap.get? b = some o ∧ H b = none := fun b o e =>
  ⟨I.base.keep b o (I.ok.bs b o e).1 (I.ok.bs b o e).2 (I.ok.nofr e) (I.ok.noex b o e), I.base.free b o (I.ok.bs b o e).1 (I.ok.bs b o e).2 (I.ok.noex b o e)⟩
theorem Inv.bk (I : Inv X pins σ H s) : ∀ b o, X.base.get? b = some o → s.heap.get? b = some o := fun b o e => (I.bs b o e).1
theorem Inv.mod (I : Inv X pins σ H s) : Mod X.K X.mg X.base := I.ok.mod
theorem Inv.kIn (I : Inv X pins σ H s) : X.K.In s.heap := I.ok.mod.kin.keeps I.bk
theorem Inv.nolimit (I : Inv X pins σ H s) : s.heap.NoLimit := I.ok.mod.nolimit.keeps I.bk
/-- the frame over the base: for OpenK's rules (K.In X.base is I.mod.kin) -/
theorem Inv.fr (I : Inv X pins σ H s) : ∃ m, Fr X.base X.env.locals s.heap m :=
  let ⟨m, hn, _⟩ := I.loc
  ⟨m, hn, I.bk, Nat.le_trans I.ok.bsz I.ok.above⟩
theorem Inv.lt (I : Inv X pins σ H s) : X.env.locals < s.heap.objs.size := let ⟨_, hn, _⟩ := I.loc; hn.lt
theorem Inv.sz (I : Inv X pins σ H s) : X.s₀.heap.objs.size ≤ s.heap.objs.size := Nat.le_trans I.ok.above (Nat.le_of_lt I.lt)
theorem Inv.nofs (I : Inv X pins σ H s) {a : Addr} (h : s.heap.objs.size ≤ a) : a ∉ X.fs := fun hb => by
  obtain ⟨_, o, ho, _⟩ := I.ok.funs.mem hb
  exact absurd (Nat.lt_of_lt_of_le (Heap.lt_size ho) (Nat.le_trans I.sz h)) (Nat.lt_irrefl _)
theorem Inv.cne (I : Inv X pins σ H s) : ∀ x c, X.env.cells.lookup x = some c → c ≠ X.env.locals := fun x c e z => by
  obtain ⟨v, o, ho, hd⟩ := I.cell x c e
  obtain ⟨m, ⟨o', es, ep, ho', hd', _⟩, _⟩ := I.loc
  rw [z, ho'] at ho; cases ho; rw [hd'] at hd; cases hd
theorem Inv.funs (I : Inv X pins σ H s) : s.heap.FunFrames X.base X.outer := by
  have all : ∀ (l : List Env), (∀ b ∈ frs l, b ∈ X.fs) → X.s₀.heap.FunFrames X.base l → s.heap.FunFrames X.base l := by
    intro l
    induction l with
    | nil => intro _ _; trivial
    | cons env r ih =>
      intro hs hl
      obtain ⟨hk, ⟨L, o, hf, hn, ho, hd⟩, hr⟩ := hl
      have hL : L ∈ X.fs := hs L (by unfold frs; rw [List.filterMap_cons, hf]; exact List.mem_cons_self)
      obtain ⟨sl, e⟩ := I.base.slot L o ho (I.ok.frf L hL) hL fun z => I.ok.exfs L z hL
      exact ⟨hk, ⟨L, _, hf, hn, e, hd⟩, ih (fun b hb => hs b (by unfold frs; rw [List.filterMap_cons, hf]; exact List.mem_cons_of_mem _ hb)) hr⟩
  exact all X.outer (fun _ hb => hb) I.ok.funs

/-- the frames that run, for a call -/
theorem Inv.stack (I : Inv X pins σ H s) : s.heap.FunFrames X.base X.stack := by
  rcases I.ok.stk with e | ⟨e, hf⟩
  · rw [e]; exact I.funs
  · rw [e]
    obtain ⟨m, hn, _⟩ := I.loc
    refine .cons (by rw [I.ok.kind]; decide) hf hn ?_ I.funs
    exact Heap.get?_none_of_le (Nat.le_trans I.ok.bsz I.ok.above)
theorem Inv.stkSub (I : Inv X pins σ H s) : ∀ b ∈ frs X.stack, b ∈ X.env.locals :: X.fs := fun b hb => by
  rcases I.ok.stk with e | ⟨e, hf⟩
  · rw [e] at hb; exact List.mem_cons_of_mem _ hb
  · rw [e] at hb
    unfold frs at hb
    rw [List.filterMap_cons, hf] at hb
    exact hb
theorem Inv.stkFree (I : Inv X pins σ H s) : ∀ b ∈ frs X.stack, H b = none := fun b hb => by
  rcases List.mem_cons.mp (I.stkSub b hb) with e | hb
  · rw [e]; exact I.free
  · obtain ⟨_, o, ho, _⟩ := I.ok.funs.mem hb
    exact I.base.free b o ho (I.ok.frf b hb) fun z => I.ok.exfs b z hb

/-- THE STEP: the untracked objects but the frame and the records at ch are kept (the callers' frames up to slots), the frame's map is kept, the new abstract heap is held -/
theorem Inv.step {g' : Array GenState} {t' : Nat} {d' : Drawn} {ch : List Addr} (I : Inv X pins σ H s)
    (hch : ∀ b ∈ ch, (b ∈ X.ex ∨ X.s₀.heap.objs.size ≤ b) ∧ b ≠ X.env.locals ∧ (∀ x c, X.env.cells.lookup x = some c → c ≠ b) ∧ ∀ p ∈ X.pn ++ pins, p.1 ≠ b)
    (keep : ∀ b o, b ≠ X.env.locals → b ∉ X.fs → b ∉ ch → s.heap.get? b = some o → H b = none → h'.get? b = some o)
    (slot : ∀ b o, b ≠ X.env.locals → b ∈ X.fs → b ∉ ch → s.heap.get? b = some o → H b = none → ∃ sl, h'.get? b = some { o with slots := sl }) (free : ∀ b o, b ∉ ch → s.heap.get? b = some o → H b = none → H' b = none)
    (there : ∀ b o, b ∉ ch → s.heap.get? b = some o → ∃ o', h'.get? b = some o')
    (tups : ∀ b xs, H b = some (.tup xs) → H' b = some (.tup xs)) (frzs : ∀ b o u, H b = some (.frz o u) → H' b = some (.frz o u)) (tbls : ∀ b ps, H b = some (.tbl ps) → ∃ more, H' b = some (.tbl (ps ++ more)))
    (ns : ∀ m, s.heap.Ns X.env.locals m → h'.Ns X.env.locals m) (hok : HOk X.prog X.w H' h') (hg : AllBare g') :
    Inv X pins σ H' { s with heap := h', gens := g', drawn := d', toks := t' } := by
  have neL : ∀ b o, X.s₀.heap.get? b = some o → b ≠ X.env.locals := fun b o e => Nat.ne_of_lt (Nat.lt_of_lt_of_le (Heap.lt_size e) I.ok.above)
  have neC : ∀ b o, X.s₀.heap.get? b = some o → b ∉ X.ex → b ∉ ch := fun b o e hx hb => by
    rcases (hch b hb).1 with z | z
    · exact hx z
    · exact absurd (Nat.lt_of_lt_of_le (Heap.lt_size e) z) (Nat.lt_irrefl _)
  have cellK : ∀ x c, X.env.cells.lookup x = some c → ∀ v, s.heap.IsCell c v → h'.IsCell c v := fun x c e v ⟨o, ho, hd⟩ => by
    have nch : c ∉ ch := fun z => (hch c z).2.2.1 x c e rfl
    by_cases hc : c ∈ X.fs
    · obtain ⟨sl, q⟩ := slot c o (I.cne x c e) hc nch ho (I.freeC x c e)
      exact ⟨_, q, hd⟩
    · exact ⟨o, keep c o (I.cne x c e) hc nch ho (I.freeC x c e), hd⟩
  refine ⟨I.ok, I.os, hg, ⟨fun b o e n hb hx => ?_, fun b o e n hb hx => ?_, fun b o e n hx => ?_, fun b o e hx => ?_, fun b xs e => tups b xs (I.base.tups b xs e), fun b o xs e => frzs b o xs (I.base.frzs b o xs e), fun b ps e => ?_⟩, ?_, fun x c e => ?_, ?_, fun x c e => ?_, fun p hp => ?_, hok, I.len⟩
  · exact keep b o (neL b o e) hb (neC b o e hx) (I.base.keep b o e n hb hx) (I.base.free b o e n hx)
  · obtain ⟨sl, e1⟩ := I.base.slot b o e n hb hx
    obtain ⟨sl', e2⟩ := slot b _ (neL b o e) hb (neC b o e hx) e1 (I.base.free b o e n hx)
    exact ⟨sl', e2⟩
  · obtain ⟨o', e1⟩ := I.base.there b o e hx
    exact free b o' (neC b o e hx) e1 (I.base.free b o e n hx)
  · obtain ⟨o', e1⟩ := I.base.there b o e hx
    exact there b o' (neC b o e hx) e1
  · obtain ⟨m1, e1⟩ := I.base.tbls b ps e
    obtain ⟨m2, e2⟩ := tbls b _ e1
    exact ⟨m1 ++ m2, by rw [e2, Array.append_assoc]⟩
  · obtain ⟨m, hn, hl⟩ := I.loc
    refine ⟨m, ns m hn, fun i x v e1 e2 e3 => ?_⟩
    obtain ⟨u, r, l⟩ := hl i x v e1 e2 e3
    refine ⟨u, r, ?_⟩
    rcases l with l | ⟨k, c, e, z⟩
    · exact .inl l
    · exact .inr ⟨k, c, e, cellK x c e _ z⟩
  · obtain ⟨v, z⟩ := I.cell x c e
    exact ⟨v, cellK x c e v z⟩
  · obtain ⟨m, ⟨o, _, _, ho, _⟩, _⟩ := I.loc
    exact free _ o (fun z => (hch _ z).2.1 rfl) ho I.free
  · obtain ⟨v, o, ho, hd⟩ := I.cell x c e
    exact free c o (fun z => (hch c z).2.2.1 x c e rfl) ho (I.freeC x c e)
  · obtain ⟨e, n, ne, nf, d⟩ := I.pin p hp
    have nch : p.1 ∉ ch := fun z => (hch p.1 z).2.2.2 p hp rfl
    exact ⟨keep p.1 p.2 ne nf nch e n, free p.1 p.2 nch e n, ne, nf, d⟩
/-- .. where the frame's own object is kept too -/
theorem Inv.un {t' : Nat} (I : Inv X pins σ H s) (u : Un X.fs [] H H' s.heap h') (hok : HOk X.prog X.w H' h') : Inv X pins σ H' { s with heap := h', toks := t' } := by
  obtain ⟨m, ⟨o, es, ep, ho, r⟩, _⟩ := id I.loc
  obtain ⟨sl, hL⟩ := u.any ho I.free (by simp)
  exact I.step (g' := s.gens) (d' := s.drawn) (ch := []) (fun _ z => nomatch z) (fun b o _ hb _ e n => u.keep b o e n hb (by simp)) (fun b o _ hb _ e n => u.slot b o e n hb (by simp)) (fun b o _ e n => u.free b o e n (by simp)) (fun b o _ e => u.there b o e (by simp)) u.tups u.frzs u.tbls (fun m' hm => by
    obtain ⟨o', es', ep', ho', r'⟩ := hm
    rw [ho] at ho'; cases ho'
    exact ⟨_, es', ep', hL, r'⟩) hok I.bare
/-- behind a call (or a comprehension's block): the slots of this frame may have changed too, the records at ch may have turned -/
theorem Inv.call {g' : Array GenState} {t' : Nat} {d' : Drawn} {ch : List Addr} (I : Inv X pins σ H s) (u : Un (frs X.stack) ch H H' s.heap h') (hok : HOk X.prog X.w H' h') (hg : AllBare g')
    (hch : ∀ b ∈ ch, (b ∈ X.ex ∨ X.s₀.heap.objs.size ≤ b) ∧ b ≠ X.env.locals ∧ (∀ x c, X.env.cells.lookup x = some c → c ≠ b) ∧ ∀ p ∈ X.pn ++ pins, p.1 ≠ b) :
    Inv X pins σ H' { s with heap := h', gens := g', drawn := d', toks := t' } := by
  obtain ⟨m, ⟨o, es, ep, ho, r⟩, _⟩ := id I.loc
  obtain ⟨sl, hL⟩ := u.any ho I.free fun z => (hch _ z).2.1 rfl
  exact I.step (ch := ch) hch (fun b o hL hb hc e n => u.keep b o e n (fun z => (List.mem_cons.mp (I.stkSub b z)).elim hL hb) hc) (fun b o _ _ hc e n => u.any e n hc) (fun b o hc e n => u.free b o e n hc) (fun b o hc e => u.there b o e hc) u.tups u.frzs u.tbls (fun m' hm => by
    obtain ⟨o', es', ep', ho', r'⟩ := hm
    rw [ho] at ho'; cases ho'
    exact ⟨_, es', ep', hL, r'⟩) hok hg
/-- an untracked record of ours (an iterator) has turned -/
theorem Inv.turned {t' : Nat} {it : Addr} (I : Inv X pins σ H s) (k : ∀ b o, b ≠ it → s.heap.get? b = some o → h'.get? b = some o) (hn : H it = none) (hL : it ≠ X.env.locals)
    (h1 : it ∈ X.ex ∨ X.s₀.heap.objs.size ≤ it) (h2 : ∀ x c, X.env.cells.lookup x = some c → c ≠ it) (h3 : ∀ p ∈ X.pn ++ pins, p.1 ≠ it) : Inv X pins σ H { s with heap := h', toks := t' } := by
  have nit : ∀ b u, H b = some u → b ≠ it := fun b u e z => by rw [z, hn] at e; cases e
  refine I.step (g' := s.gens) (d' := s.drawn) (ch := [it]) (fun b hb => ?_) (fun b o _ _ hc e _ => k b o (fun z => hc (by simp [z])) e) (fun b o _ _ hc e _ => ⟨o.slots, k b o (fun z => hc (by simp [z])) e⟩) (fun _ _ _ _ n => n)
    (fun b o hc e => ⟨o, k b o (fun z => hc (by simp [z])) e⟩) (fun _ _ e => e) (fun _ _ _ e => e) (fun b ps e => ⟨#[], by rw [e]; simp⟩) (fun m hm => ?_) (fun b u e => ?_) I.bare
  · have e : b = it := by simpa using hb
    subst e
    exact ⟨h1, hL, h2, h3⟩
  · obtain ⟨o, es, ep, ho, r⟩ := hm
    exact ⟨o, es, ep, k _ o (Ne.symm hL) ho, r⟩
  · refine (I.hok b u e).stay (fun c v hc q => k c v ?_ q) (fun _ q => q) fun _ _ q => q
    rcases hc with z | z
    · rw [z]; exact nit b u e
    · exact nit c _ z
theorem Inv.tok (I : Inv X pins σ H s) (t : Nat) : Inv X pins σ H { s with toks := t } := I.un (h' := s.heap) (t' := t) Un.refl I.hok
/-- all objects kept -/
theorem Inv.kept {t' : Nat} (I : Inv X pins σ H s) (k : ∀ b u, s.heap.get? b = some u → h'.get? b = some u) : Inv X pins σ H { s with heap := h', toks := t' } := I.un (Un.kept k) (I.hok.kept k)
/-- a new object laid and tracked -/
theorem Inv.laid {a : Addr} {o : HO} {t' : Nat} (I : Inv X pins σ H s) (k : ∀ b u, s.heap.get? b = some u → h'.get? b = some u) (hp : s.heap.objs.size ≤ a) (new : ObjOk X.prog X.w (upd H a o) h' a o) :
    Inv X pins σ (upd H a o) { s with heap := h', toks := t' } := I.un (Un.laid k hp (I.hok.fresh hp)) (I.hok.laid k hp new)
/-- an object written -/
theorem Inv.write {x e : Addr} {o : HO} {t' : Nat} (I : Inv X pins σ H s) (mu : Mut (H x)) (he : e = x ∨ H e = some (.own x)) (k : ∀ b u, b ≠ e → s.heap.get? b = some u → h'.get? b = some u) (heo : ∃ u, h'.get? e = some u)
    (new : ObjOk X.prog X.w (upd H x o) h' x o) : Inv X pins σ (upd H x o) { s with heap := h', toks := t' } := I.un (Un.write mu he k heo) (I.hok.write mu he k heo new)
/-- forgetting slots, pins -/
theorem Inv.weak {σ' : List (Option V)} (I : Inv X pins σ H s) (hl : σ'.length = σ.length) (w : ∀ (i : Nat) v, σ'[i]? = some (some v) → σ[i]? = some (some v)) : Inv X pins σ' H s :=
  ⟨I.ok, I.os, I.bare, I.base, let ⟨m, hn, hl'⟩ := I.loc; ⟨m, hn, fun i x v e1 e2 e3 => hl' i x v e1 (w i v e2) e3⟩, I.cell, I.free, I.freeC, I.pin, I.hok, hl.trans I.len⟩
theorem Inv.pins_of {pins' : List (Addr × Obj)} (I : Inv X pins σ H s) (h : ∀ p ∈ pins', s.heap.get? p.1 = some p.2 ∧ H p.1 = none ∧ p.1 ≠ X.env.locals ∧ p.1 ∉ X.fs ∧ ∀ v, p.2.data ≠ .cell v) : Inv X pins' σ H s :=
  ⟨I.ok, I.os, I.bare, I.base, I.loc, I.cell, I.free, I.freeC, fun p hp => (List.mem_append.mp hp).elim (fun z => I.pin p (List.mem_append_left _ z)) (h p), I.hok, I.len⟩

theorem nodup_ix {N : List Str} (hN : N.Nodup) {i j : Nat} {x : Str} (a : N[i]? = some x) (b : N[j]? = some x) : i = j := by
  obtain ⟨h1, e1⟩ := List.getElem?_eq_some_iff.mp a
  obtain ⟨h2, e2⟩ := List.getElem?_eq_some_iff.mp b
  exact (List.getElem_inj hN).mp (e1.trans e2.symm)

/-- a name is stored; what changed -/
theorem store_ok2 {M : Model} {A : Around} {E : Value → Shared → Prop} {i : Nat} {x : Str} {v : V} {u : Value} {Q : Unit → Shared → Prop} (I : Inv X pins σ H s) (hN : X.N.Nodup) (hi : X.N[i]? = some x) (hx : Loc X.env.scope x) (r : RelV v u)
    (h : ∀ s', Inv X pins (σ.set i (some v)) H s' → (∃ a, Heap.SameBut a s.heap s'.heap ∧ (a = X.env.locals ∨ X.env.cells.lookup x = some a)) → Q () s') (hf : X.fn x = true ∨ X.env.scope.names.lookup x = some .local := by first | exact .inl rfl | exact .inr rfl | assumption) : wpAny M A (storeName X.env x u) Q E s := by
  obtain ⟨m, hn, hl⟩ := id I.loc
  have hcls : (X.env.scope.kind == .class || (X.env.scope.kind == .module && X.env.locals != X.env.globals)) = false := by rw [I.ok.kind]; rfl
  have hiσ : i < σ.length := by rw [I.len]; exact (List.getElem?_eq_some_iff.mp hi).1
  have cne := I.cne
  have tracked : ∀ {a : Addr} {h' : Heap}, (∃ o, s.heap.get? a = some o ∧ H a = none) → Heap.SameBut a s.heap h' → HOk X.prog X.w H h' := fun {a h'} ha hs b ob e => by
    obtain ⟨_, _, hfree⟩ := ha
    refine (I.hok b ob e).stay (fun c w' hc q => (hs.2 c ?_).trans q) (fun _ q => q) fun _ _ q => q
    rintro rfl
    rcases hc with rfl | hc
    · rw [hfree] at e; cases e
    · rw [hfree] at hc; cases hc
  rcases hx with hk | hk
  · refine wpAny_storeName_local hk hn (fun h' hn' hs => ?_) hcls
    obtain ⟨oL, _, _, hoL, _⟩ := id hn
    refine h _ ⟨I.ok, I.os, I.bare, ⟨fun b o e n hb hx => ?_, fun b o e n hb hx => ?_, I.base.free, fun b o e hx => ?_, I.base.tups, I.base.frzs, I.base.tbls⟩, ⟨_, hn', fun j y v' e1 e2 e3 => ?_⟩, fun y c e => ?_, I.free, I.freeC, fun p hp => ?_, tracked ⟨oL, hoL, I.free⟩ hs, by simpa using I.len⟩ ⟨_, hs, .inl rfl⟩
    · exact (hs.2 b (Nat.ne_of_lt (Nat.lt_of_lt_of_le (Heap.lt_size e) I.ok.above))).trans (I.base.keep b o e n hb hx)
    · obtain ⟨sl, e1⟩ := I.base.slot b o e n hb hx
      exact ⟨sl, (hs.2 b (Nat.ne_of_lt (Nat.lt_of_lt_of_le (Heap.lt_size e) I.ok.above))).trans e1⟩
    · obtain ⟨o', e1⟩ := I.base.there b o e hx
      exact ⟨o', (hs.2 b (Nat.ne_of_lt (Nat.lt_of_lt_of_le (Heap.lt_size e) I.ok.above))).trans e1⟩
    · by_cases hj : j = i
      · subst hj
        rw [hi] at e1; cases e1
        rw [List.getElem?_set_self hiσ] at e2
        cases e2
        exact ⟨u, r, .inl ⟨hk, by simp⟩⟩
      · rw [List.getElem?_set_ne (Ne.symm hj)] at e2
        obtain ⟨u', r', q⟩ := hl j y v' e1 e2 e3
        refine ⟨u', r', ?_⟩
        rcases q with ⟨k, e⟩ | ⟨k, c, e, z⟩
        · refine .inl ⟨k, ?_⟩
          have : y ≠ x := fun e => hj (nodup_ix hN e1 (e ▸ hi))
          simp [this, e]
        · exact .inr ⟨k, c, e, z.sameBut hs (cne y c e)⟩
    · obtain ⟨w', z⟩ := I.cell y c e
      exact ⟨w', z.sameBut hs (cne y c e)⟩
    · obtain ⟨e, n, ne, nf, d⟩ := I.pin p hp
      exact ⟨(hs.2 p.1 ne).trans e, n, ne, nf, d⟩
  · have hfn : X.fn x = true := by
      rcases hf with z | z
      · exact z
      · rw [z] at hk; cases hk
    obtain ⟨c, hc⟩ := I.ok.has x (.inl hk)
    obtain ⟨w', z⟩ := I.cell x c hc
    refine wpAny_storeName_cell I.ok.kind hk hc z (fun h' hc' hs => ?_)
    obtain ⟨oc, hoc, hocd⟩ := id z
    refine h { s with heap := h' } ⟨I.ok, I.os, I.bare, ⟨fun b o e n hb hx => ?_, fun b o e n hb hx => ?_, I.base.free, fun b o e hx => ?_, I.base.tups, I.base.frzs, I.base.tbls⟩, ⟨m, hn.sameBut hs (Ne.symm (cne x c hc)), fun j y v' e1 e2 e3 => ?_⟩, fun y c' e => ?_, I.free, I.freeC, fun p hp => ?_, tracked ⟨oc, hoc, I.freeC x c hc⟩ hs, by simpa using I.len⟩ ⟨c, hs, .inr hc⟩
    · exact (hs.2 b (Nat.ne_of_lt (Nat.lt_of_lt_of_le (Heap.lt_size e) (I.ok.cab x c hfn hc)))).trans (I.base.keep b o e n hb hx)
    · obtain ⟨sl, e1⟩ := I.base.slot b o e n hb hx
      exact ⟨sl, (hs.2 b (Nat.ne_of_lt (Nat.lt_of_lt_of_le (Heap.lt_size e) (I.ok.cab x c hfn hc)))).trans e1⟩
    · obtain ⟨o', e1⟩ := I.base.there b o e hx
      exact ⟨o', (hs.2 b (Nat.ne_of_lt (Nat.lt_of_lt_of_le (Heap.lt_size e) (I.ok.cab x c hfn hc)))).trans e1⟩
    · by_cases hj : j = i
      · subst hj
        rw [hi] at e1; cases e1
        rw [List.getElem?_set_self hiσ] at e2
        cases e2
        exact ⟨u, r, .inr ⟨.inl hk, c, hc, hc'⟩⟩
      · rw [List.getElem?_set_ne (Ne.symm hj)] at e2
        obtain ⟨u', r', q⟩ := hl j y v' e1 e2 e3
        refine ⟨u', r', ?_⟩
        rcases q with q | ⟨k, c', e, z'⟩
        · exact .inl q
        · refine .inr ⟨k, c', e, z'.sameBut hs ?_⟩
          rintro rfl
          exact hj (nodup_ix hN e1 (I.ok.inj _ _ _ e hc ▸ hi))
    · by_cases hcc : c' = c
      · subst hcc; exact ⟨_, hc'⟩
      · obtain ⟨w2, z2⟩ := I.cell y c' e
        exact ⟨w2, z2.sameBut hs hcc⟩
    · obtain ⟨e, n, ne, nf, d⟩ := I.pin p hp
      refine ⟨(hs.2 p.1 ?_).trans e, n, ne, nf, d⟩
      intro q
      rw [q, hoc] at e
      have q' : oc = p.2 := Option.some.inj e
      exact d w' (by rw [← q']; exact hocd)
theorem store_ok {M : Model} {A : Around} {E : Value → Shared → Prop} {i : Nat} {x : Str} {v : V} {u : Value} {Q : Unit → Shared → Prop} (I : Inv X pins σ H s) (hN : X.N.Nodup) (hi : X.N[i]? = some x) (hx : Loc X.env.scope x) (r : RelV v u)
    (h : ∀ s', Inv X pins (σ.set i (some v)) H s' → Q () s') (hf : X.fn x = true ∨ X.env.scope.names.lookup x = some .local := by first | exact .inl rfl | exact .inr rfl | assumption) : wpAny M A (storeName X.env x u) Q E s :=
  store_ok2 I hN hi hx r (fun s' I' _ => h s' I') hf
/-- behind a call or a block, the state as it is -/
theorem Inv.call' {s' : Shared} {ch : List Addr} (I : Inv X pins σ H s) (ho : s'.os = s.os) (u : Un (frs X.stack) ch H H' s.heap s'.heap) (hok : HOk X.prog X.w H' s'.heap) (hg : AllBare s'.gens)
    (hch : ∀ b ∈ ch, (b ∈ X.ex ∨ X.s₀.heap.objs.size ≤ b) ∧ b ≠ X.env.locals ∧ (∀ x c, X.env.cells.lookup x = some c → c ≠ b) ∧ ∀ p ∈ X.pn ++ pins, p.1 ≠ b) : Inv X pins σ H' s' := by
  obtain ⟨h', g', d', t', o'⟩ := s'
  have e : o' = s.os := ho
  subst e
  exact I.call (g' := g') (t' := t') (d' := d') u hok hg hch
end

/-! ### the judgements -/
/-- an exception: its class, its own dict's address (where it has one), the abstract heap behind it -/
abbrev XK := Value → Option Addr → Hp → Prop
abbrev St := List (Option V)
abbrev VK := V → Hp → Prop
/-- an expression's reading; a test's; an argument list's -/
abbrev TE := St → Hp → VK → Prop
abbrev TT := St → Hp → (Bool → Hp → Prop) → Prop
abbrev TA := St → Hp → (List V → Hp → Prop) → Prop
/-- what is wanted behind a statement -/
structure Ends where
  nx : St → Hp → Prop
  rt : VK
  bk : St → Hp → Prop := fun _ _ => False
  ct : St → Hp → Prop := fun _ _ => False
abbrev TS := Ends → St → Hp → Prop

def EP (X : Cx) (pins : List (Addr × Obj)) (σ : St) (Q : VK) (u : Value) (s' : Shared) : Prop := ∃ v H', Inv X pins σ H' s' ∧ RelV v u ∧ Q v H'
def TP (X : Cx) (pins : List (Addr × Obj)) (σ : St) (Q : Bool → Hp → Prop) (b : Bool) (s' : Shared) : Prop := ∃ H', Inv X pins σ H' s' ∧ Q b H'
def AP (X : Cx) (pins : List (Addr × Obj)) (σ : St) (Q : List V → Hp → Prop) (us : List Value) (s' : Shared) : Prop := ∃ vs H', Inv X pins σ H' s' ∧ Vals vs us ∧ Q vs H'
def SP (X : Cx) (pins : List (Addr × Obj)) (D : Ends) (f : Flow) (s' : Shared) : Prop :=
  match f with
  | .next => ∃ σ' H', Inv X pins σ' H' s' ∧ D.nx σ' H'
  | .brk => ∃ σ' H', Inv X pins σ' H' s' ∧ D.bk σ' H'
  | .cont => ∃ σ' H', Inv X pins σ' H' s' ∧ D.ct σ' H'
  | .ret u => ∃ v σ' H', Inv X pins σ' H' s' ∧ RelV v u ∧ D.rt v H'

def PE (X : Cx) (e : Expr) (t : TE) : Prop :=
  ∀ (pins : List (Addr × Obj)) (s : Shared) (σ : St) (H : Hp) (Q : VK), Inv X pins σ H s → t σ H Q → wpAny (model X.prog X.w) X.A (eval e X.env) (EP X pins σ Q) X.xe s
def PT (X : Cx) (e : Expr) (t : TT) : Prop :=
  ∀ (pins : List (Addr × Obj)) (s : Shared) (σ : St) (H : Hp) (Q : Bool → Hp → Prop), Inv X pins σ H s → t σ H Q → wpAny (model X.prog X.w) X.A (isTrue e X.env (eval e X.env)) (TP X pins σ Q) X.xe s
/-- a test whatever its 'whole' is (and, or) -/
def PW (X : Cx) (e : Expr) (t : TT) : Prop :=
  ∀ (whole : Sem Value) (pins : List (Addr × Obj)) (s : Shared) (σ : St) (H : Hp) (Q : Bool → Hp → Prop), Inv X pins σ H s → t σ H Q → wpAny (model X.prog X.w) X.A (isTrue e X.env whole) (TP X pins σ Q) X.xe s
theorem PW.pt {X : Cx} {e : Expr} {t : TT} (h : PW X e t) : PT X e t := h _
/-- an argument list (no star), from the left -/
def PA (X : Cx) (es : List Expr) (t : TA) : Prop :=
  ∀ (pos : Pos) (pins : List (Addr × Obj)) (s : Shared) (σ : St) (H : Hp) (Q : List V → Hp → Prop), Inv X pins σ H s → t σ H Q → wpAny (model X.prog X.w) X.A (spliced (backTo pos (starEach es X.env))) (AP X pins σ Q) X.xe s
def PS (X : Cx) (st : Stmt) (t : TS) : Prop :=
  ∀ (pins : List (Addr × Obj)) (s : Shared) (σ : St) (H : Hp) (D : Ends), Inv X pins σ H s → t D σ H → wpAny (model X.prog X.w) X.A (exec st X.env) (SP X pins D) X.xe s
def PSs (X : Cx) (st : List Stmt) (t : TS) : Prop :=
  ∀ (pins : List (Addr × Obj)) (s : Shared) (σ : St) (H : Hp) (D : Ends), Inv X pins σ H s → t D σ H → wpAny (model X.prog X.w) X.A (execs st X.env) (SP X pins D) X.xe s
/-- weaken the end -/
theorem thn {α : Type} {t : Sem α} {Q Q' : α → Shared → Prop} {M : Model} {A : Around} {E : Value → Shared → Prop} {s : Shared} (h : wpAny M A t Q E s) (hQ : ∀ a s, Q a s → Q' a s) : wpAny M A t Q' E s := wpAny_mono h hQ fun _ _ x => x
end L2

namespace L2
open PySem PySem.Spec PyProof.Rows
section
variable {X : Cx}

/-- two expressions in a row -/
theorem bin {a b : Expr} {ta tb : TE} (ha : PE X a ta) (hb : PE X b tb) {pins : List (Addr × Obj)} {s : Shared} {σ : St} {H : Hp} {R : V → V → Hp → Prop} (I : Inv X pins σ H s) (h : ta σ H fun x H1 => tb σ H1 fun y H2 => R x y H2)
    {α : Type} {Q : α → Shared → Prop} {f : Value → Value → Sem α}
    (hf : ∀ v u s2 x y H2, Inv X pins σ H2 s2 → RelV x v → RelV y u → R x y H2 → wpAny (model X.prog X.w) X.A (f v u) Q X.xe s2) :
    wpAny (model X.prog X.w) X.A (eval a X.env) (fun v s₁ => wpAny (model X.prog X.w) X.A (eval b X.env) (fun u s₂ => wpAny (model X.prog X.w) X.A (f v u) Q X.xe s₂) X.xe s₁) X.xe s := by
  refine thn (ha pins s σ H _ I h) fun v s1 ⟨x, H1, I1, r1, q1⟩ => ?_
  refine thn (hb pins s1 σ H1 _ I1 q1) fun u s2 ⟨y, H2, I2, r2, q2⟩ => ?_
  exact hf v u s2 x y H2 I2 r1 r2 q2

/-! ### names and constants -/
def tVar (i : Nat) : TE := fun σ H Q => ∃ v, σ[i]? = some (some v) ∧ Q v H
def tC (v : V) : TE := fun _ H Q => Q v H
theorem pe_var {i : Nat} {x : Str} {pos : Pos} (hN : X.N[i]? = some x) (hv : Vis X.env.scope x) (hd : (x == ("__debug__" : Str)) = false := by decide) (hcd : (x == ("__classdict__" : Str)) = false := by decide) : PE X (.Name x pos) (tVar i) := by
  intro pins s σ H Q I h
  obtain ⟨v, e, h⟩ := h
  obtain ⟨m, hn, hl⟩ := I.loc
  obtain ⟨u, r, l⟩ := hl i x v hN e hv
  have fin : EP X pins σ Q u s := ⟨v, H, I, r, h⟩
  rcases l with ⟨hk, hm⟩ | ⟨hk, c, hc, hcell⟩
  · exact wpAny_Name (wpAny_loadName_local I.ok.kind hk hn hm fin) hd
  · rcases hk with hk | hk
    · exact wpAny_Name (wpAny_loadName_cell I.ok.kind hk hc hcell fin) hd
    · exact wpAny_Name (wpAny_loadName_free I.ok.kind hk hc hcell fin hcd) hd
theorem pe_int {i j pos} : PE X (.Constant (.int i) j pos) (tC (.int i)) := fun _ _ _ H _ I h => wpAny_Constant_int ⟨.int i, H, I.tok _, ⟨_, rfl⟩, h⟩
theorem pe_bl {b j pos} : PE X (.Constant (.bool b) j pos) (tC (.bl b)) := fun _ _ _ H _ I h => Constant_bool ⟨.bl b, H, I, rfl, h⟩
theorem pe_non {j pos} : PE X (.Constant .none j pos) (tC .non) := fun _ _ _ H _ I h => Constant_none ⟨.non, H, I, rfl, h⟩
theorem pe_str {x j pos} : PE X (.Constant (.str x) j pos) (tC (.str x)) := fun _ _ _ H _ I h => Calls.Constant_str ⟨.str x, H, I.tok _, ⟨_, rfl⟩, h⟩

/-- a global name of the def -/
def Gl (X : Cx) (x : Str) : Prop := X.env.kindOf x = some .globalImplicit
theorem ld_glob {E : Value → Shared → Prop} {pins : List (Addr × Obj)} {s : Shared} {σ : St} {H : Hp} {x : Str} {u : Value} {pos : Pos} {Q : Value → Shared → Prop} (I : Inv X pins σ H s) (hg : Gl X x) (hm : X.mg x = some u) (h : Q u s)
    (hd : (x == ("__debug__" : Str)) = false := by decide) : wpAny (model X.prog X.w) X.A (eval (.Name x pos) X.env) Q E s :=
  Calls.Name_function_global I.ok.kind hg (Calls.loadGlobal_global (by rw [I.ok.glob]; exact I.mod.glob.keeps I.bk) hm h) hd
theorem ld_blt {E : Value → Shared → Prop} {pins : List (Addr × Obj)} {s : Shared} {σ : St} {H : Hp} {x : Str} {u : Value} {pos : Pos} {Q : Value → Shared → Prop} (I : Inv X pins σ H s) (hg : Gl X x) (hm : X.mg x = none) (hv : bootBuiltins x = some u) (h : Q u s)
    (hn : x ≠ "__name__" := by decide) (hd : (x == ("__debug__" : Str)) = false := by decide) : wpAny (model X.prog X.w) X.A (eval (.Name x pos) X.env) Q E s := by
  obtain ⟨mb, h1, h2⟩ := I.mod.blt
  exact Calls.Name_function_global I.ok.kind hg (Calls.loadGlobal_builtin (by rw [I.ok.glob]; exact I.mod.glob.keeps I.bk) hm (by rw [I.ok.blt]; exact h1.keeps I.bk) ((h2 x hn).trans hv) h) hd
/-- a module's constant, a class, a function, as a value -/
theorem pe_glob {x : Str} {v : V} {u : Value} {pos : Pos} (hg : Gl X x) (hm : X.mg x = some u) (r : RelV v u) (hd : (x == ("__debug__" : Str)) = false := by decide) : PE X (.Name x pos) (tC v) :=
  fun _ _ _ H _ I h => ld_glob I hg hm ⟨v, H, I, r, h⟩ hd
theorem pe_bltn {x : Str} {v : V} {u : Value} {pos : Pos} (hg : Gl X x) (hm : X.mg x = none) (hv : bootBuiltins x = some u) (r : RelV v u) (hn : x ≠ "__name__" := by decide) (hd : (x == ("__debug__" : Str)) = false := by decide) : PE X (.Name x pos) (tC v) :=
  fun _ _ _ H _ I h => ld_blt I hg hm hv ⟨v, H, I, r, h⟩ hn hd

/-! ### arithmetic -/
/-- two ints -/
def t2I (ta tb : TE) (k : Int → Int → Hp → Prop) : St → Hp → Prop := fun σ H => ta σ H fun x H1 => tb σ H1 fun y H2 => ∃ i j, x = .int i ∧ y = .int j ∧ k i j H2
def tAdd (ta tb : TE) : TE := fun σ H Q => t2I ta tb (fun i j H2 => Q (.int (i + j)) H2) σ H
def tSub (ta tb : TE) : TE := fun σ H Q => t2I ta tb (fun i j H2 => Q (.int (i - j)) H2) σ H
/-- the left factor below 2^64 -/
def tMul (ta tb : TE) : TE := fun σ H Q => t2I ta tb (fun i j H2 => (-(2 ^ 64) < i ∧ i < 2 ^ 64) ∧ Q (.int (i * j)) H2) σ H
variable {a b : Expr} {ta tb : TE} {pos : Pos}
theorem pe_add (ha : PE X a ta) (hb : PE X b tb) : PE X (.BinOp a .Add b pos) (tAdd ta tb) := by
  intro pins s σ H Q I h
  refine wpAny_BinOp (bin ha hb I h fun v u s2 x y H2 I2 rx ry q => ?_)
  obtain ⟨i, j, rfl, rfl, q⟩ := q
  obtain ⟨t, rfl⟩ := rx
  obtain ⟨t', rfl⟩ := ry
  exact add_int ⟨.int _, H2, I2.tok _, ⟨_, rfl⟩, q⟩
theorem pe_sub (ha : PE X a ta) (hb : PE X b tb) : PE X (.BinOp a .Sub b pos) (tSub ta tb) := by
  intro pins s σ H Q I h
  refine wpAny_BinOp (bin ha hb I h fun v u s2 x y H2 I2 rx ry q => ?_)
  obtain ⟨i, j, rfl, rfl, q⟩ := q
  obtain ⟨t, rfl⟩ := rx
  obtain ⟨t', rfl⟩ := ry
  exact sub_int ⟨.int _, H2, I2.tok _, ⟨_, rfl⟩, q⟩
theorem pe_mul (ha : PE X a ta) (hb : PE X b tb) : PE X (.BinOp a .Mult b pos) (tMul ta tb) := by
  intro pins s σ H Q I h
  refine wpAny_BinOp (bin ha hb I h fun v u s2 x y H2 I2 rx ry q => ?_)
  obtain ⟨i, j, rfl, rfl, ⟨q1, q2⟩, q⟩ := q
  obtain ⟨t, rfl⟩ := rx
  obtain ⟨t', rfl⟩ := ry
  exact mul_int ⟨.int _, H2, I2.tok _, ⟨_, rfl⟩, q⟩ (.of_left (intBits_le_64 q1 q2))

/-! ### comparisons -/
def PC (X : Cx) (op : CmpOp) (a b : Expr) (t : TE) : Prop :=
  ∀ (pins : List (Addr × Obj)) (s : Shared) (σ : St) (H : Hp) (Q : VK), Inv X pins σ H s → t σ H Q →
    wpAny (model X.prog X.w) X.A (eval a X.env) (fun v s₁ => wpAny (model X.prog X.w) X.A (eval b X.env) (fun u s₂ => wpAny (model X.prog X.w) X.A (compareOp op v u) (EP X pins σ Q) X.xe s₂) X.xe s₁) X.xe s
theorem nobehind (b : Expr) {op : CmpOp} (h : op ≠ .In) (h2 : op ≠ .NotIn) : behindInMarks op b = false := by
  have e1 : (op == CmpOp.In) = false := by cases op <;> first | rfl | exact absurd rfl h
  have e2 : (op == CmpOp.NotIn) = false := by cases op <;> first | rfl | exact absurd rfl h2
  cases b <;> simp [behindInMarks, e1, e2]
def tCmp (p : Int → Int → Bool) (ta tb : TE) : TE := fun σ H Q => t2I ta tb (fun i j H2 => Q (.bl (p i j)) H2) σ H
abbrev tLt : TE → TE → TE := tCmp fun i j => decide (i < j)
abbrev tLe : TE → TE → TE := tCmp fun i j => decide (i ≤ j)
abbrev tGt : TE → TE → TE := tCmp fun i j => decide (j < i)
abbrev tGe : TE → TE → TE := tCmp fun i j => decide (j ≤ i)
abbrev tEqI : TE → TE → TE := tCmp fun i j => decide (i = j)
abbrev tNeI : TE → TE → TE := tCmp fun i j => !decide (i = j)
/-- a comparison of two ints, by its rule -/
theorem pc_int {op : CmpOp} {p : Int → Int → Bool} (ha : PE X a ta) (hb : PE X b tb)
    (rule : ∀ (i j : Int) (t u : Tok) (Q : Value → Shared → Prop) (s : Shared), Q (.bool (p i j)) s → wpAny (model X.prog X.w) X.A (compareOp op (.int i t) (.int j u)) Q X.xe s) : PC X op a b (tCmp p ta tb) := by
  intro pins s σ H Q I h
  refine bin ha hb I h fun v u s2 x y H2 I2 rx ry q => ?_
  obtain ⟨i, j, rfl, rfl, q⟩ := q
  obtain ⟨t, rfl⟩ := rx
  obtain ⟨t', rfl⟩ := ry
  exact rule i j t t' _ s2 ⟨.bl _, H2, I2, rfl, q⟩
theorem pc_lt (ha : PE X a ta) (hb : PE X b tb) : PC X .Lt a b (tLt ta tb) := pc_int ha hb fun _ _ _ _ _ _ h => lt_int h
theorem pc_le (ha : PE X a ta) (hb : PE X b tb) : PC X .LtE a b (tLe ta tb) := pc_int ha hb fun _ _ _ _ _ _ h => le_int h
theorem pc_gt (ha : PE X a ta) (hb : PE X b tb) : PC X .Gt a b (tGt ta tb) := pc_int ha hb fun _ _ _ _ _ _ h => gt_int h
theorem pc_ge (ha : PE X a ta) (hb : PE X b tb) : PC X .GtE a b (tGe ta tb) := pc_int ha hb fun _ _ _ _ _ _ h => ge_int h
theorem pc_eqI (ha : PE X a ta) (hb : PE X b tb) : PC X .Eq a b (tEqI ta tb) := pc_int ha hb fun _ _ _ _ _ _ h => eq_int (by rw [Bool.beq_eq_decide_eq]; exact h)
theorem pc_neI (ha : PE X a ta) (hb : PE X b tb) : PC X .NotEq a b (tNeI ta tb) := pc_int ha hb fun _ _ _ _ _ _ h => ne_int (by rw [bne, Bool.beq_eq_decide_eq]; exact h)
/-- is None -/
def tIsN (ta : TE) : TE := fun σ H Q => ta σ H fun x H1 => Q (.bl (decide (x = .non))) H1
def tNotN (ta : TE) : TE := fun σ H Q => ta σ H fun x H1 => Q (.bl (!decide (x = .non))) H1
theorem RelV.none_iff {x : V} {v : Value} (r : RelV x v) : (v == Value.none) = decide (x = .non) := by
  cases x with
  | non => cases r; rfl
  | bl _ => cases r; rfl
  | int _ => obtain ⟨t, rfl⟩ := r; rfl
  | str _ => obtain ⟨t, rfl⟩ := r; rfl
  | byt _ => obtain ⟨t, rfl⟩ := r; rfl
  | flt _ => obtain ⟨t, rfl⟩ := r; rfl
  | ref _ => cases r; rfl
  | ty _ => cases r; rfl
theorem pc_isN {j pos'} (ha : PE X a ta) : PC X .Is a (.Constant .none j pos') (tIsN ta) := by
  intro pins s σ H Q I h
  refine thn (ha pins s σ H _ I h) fun v s1 ⟨x, H1, I1, r1, q1⟩ => ?_
  exact Constant_none (is_none_gen ⟨.bl _, H1, I1, by rw [r1.none_iff]; rfl, q1⟩)
theorem pc_notN {j pos'} (ha : PE X a ta) : PC X .IsNot a (.Constant .none j pos') (tNotN ta) := by
  intro pins s σ H Q I h
  refine thn (ha pins s σ H _ I h) fun v s1 ⟨x, H1, I1, r1, q1⟩ => ?_
  exact Constant_none (isnot_none_gen ⟨.bl _, H1, I1, by rw [r1.none_iff]; rfl, q1⟩)
/-- a comparison as a value, as a test -/
def tB (t : TE) : TT := fun σ H Q => t σ H fun x H1 => ∃ c, x = .bl c ∧ Q c H1
theorem pe_cmp {op : CmpOp} {t : TE} (h : PC X op a b t) (h1 : behindInMarks op b = false := by first | exact nobehind _ (by decide) (by decide) | rfl) : PE X (.Compare a [op] [b] pos) t := fun pins s σ H Q I hw => wpAny_Compare1 (h pins s σ H Q I hw) h1
theorem pt_cmp {op : CmpOp} {t : TE} (h : PC X op a b t) (h1 : behindInMarks op b = false := by first | exact nobehind _ (by decide) (by decide) | rfl) : PT X (.Compare a [op] [b] pos) (tB t) := by
  intro pins s σ H Q I hw
  refine wpAny_isTrue_Compare1 (thn (h pins s σ H _ I hw) fun v s1 h1 => thn h1 fun u s2 h2 => thn h2 fun c s3 ⟨x, H1, I1, r1, q1⟩ => ?_) h1
  obtain ⟨d, rfl, q⟩ := q1
  cases r1
  exact wpAny_truthy_bool ⟨H1, I1, q⟩
/-- an expression whose value is a bool, as a test -/
theorem pt_val {e : Expr} {t : TE} (h : PE X e t) (he : ∀ whole, isTrue e X.env whole = (do let v ← whole; standAt e.pos; holding [v] (truthy v)) := by intro _; rfl) : PT X e (tB t) := by
  intro pins s σ H Q I hw
  refine isTrue_plain (thn (h pins s σ H _ I hw) fun v s1 ⟨x, H1, I1, r1, q1⟩ => ?_) (he _)
  obtain ⟨d, rfl, q⟩ := q1
  cases r1
  exact wpAny_truthy_bool ⟨H1, I1, q⟩

/-! ### and, or, not -/
variable {tA tB' : TT} {rest : List Expr}
def tAnd (t u : TT) : TT := fun σ H Q => t σ H fun c H1 => if c = true then u σ H1 Q else Q false H1
def tOr (t u : TT) : TT := fun σ H Q => t σ H fun c H1 => if c = true then Q true H1 else u σ H1 Q
def tNot (t : TT) : TT := fun σ H Q => t σ H fun c H1 => Q (!c) H1
theorem pw_and1 (ha : PT X a tA) : PW X (.BoolOp .And [a] pos) tA := by
  intro wh pins s σ H Q I h
  refine isTrue_and (thn (ha pins s σ H Q I h) fun c s1 e => ?_)
  cases c with
  | true => exact isTrue_and_nil e
  | false => exact e
theorem pw_or1 (ha : PT X a tA) : PW X (.BoolOp .Or [a] pos) tA := by
  intro wh pins s σ H Q I h
  refine isTrue_or (thn (ha pins s σ H Q I h) fun c s1 e => ?_)
  cases c with
  | false => exact isTrue_or_nil e
  | true => exact e
theorem pw_and (ha : PT X a tA) (hb : PW X (.BoolOp .And (b :: rest) pos) tB') : PW X (.BoolOp .And (a :: b :: rest) pos) (tAnd tA tB') := by
  intro wh pins s σ H Q I h
  refine isTrue_and (thn (ha pins s σ H _ I h) fun c s1 ⟨H1, I1, q1⟩ => ?_)
  cases c with
  | true => exact hb wh pins s1 σ H1 Q I1 q1
  | false => exact ⟨H1, I1, q1⟩
theorem pw_or (ha : PT X a tA) (hb : PW X (.BoolOp .Or (b :: rest) pos) tB') : PW X (.BoolOp .Or (a :: b :: rest) pos) (tOr tA tB') := by
  intro wh pins s σ H Q I h
  refine isTrue_or (thn (ha pins s σ H _ I h) fun c s1 ⟨H1, I1, q1⟩ => ?_)
  cases c with
  | true => exact ⟨H1, I1, q1⟩
  | false => exact hb wh pins s1 σ H1 Q I1 q1
theorem pt_not (ha : PT X a tA) : PT X (.UnaryOp .Not a pos) (tNot tA) := by
  intro pins s σ H Q I h
  exact isTrue_not (ha pins s σ H (fun c H1 => Q (!c) H1) I h)
/-- .. as values (bools) -/
def tAndV (ta tb : TE) : TE := fun σ H Q => ta σ H fun x H1 => ∃ c, x = .bl c ∧ if c = true then tb σ H1 Q else Q (.bl false) H1
def tOrV (ta tb : TE) : TE := fun σ H Q => ta σ H fun x H1 => ∃ c, x = .bl c ∧ if c = true then Q (.bl true) H1 else tb σ H1 Q
def tNotV (ta : TE) : TE := fun σ H Q => ta σ H fun x H1 => ∃ c, x = .bl c ∧ Q (.bl (!c)) H1
theorem pe_one {op} {t : TE} (h : PE X a t) : PE X (.BoolOp op [a] pos) t := fun pins s σ H Q I hw => BoolOp_one (h pins s σ H Q I hw)
theorem pe_and (ha : PE X a ta) (hb : PE X (.BoolOp .And (b :: rest) pos) tb) : PE X (.BoolOp .And (a :: b :: rest) pos) (tAndV ta tb) := by
  intro pins s σ H Q I h
  refine BoolOp_and (thn (ha pins s σ H _ I h) fun v s1 ⟨x, H1, I1, r1, q1⟩ => ?_)
  obtain ⟨c, rfl, q1⟩ := q1
  cases r1
  refine wpAny_truthy_bool ?_
  cases c with
  | true => exact hb pins s1 σ H1 Q I1 q1
  | false => exact ⟨.bl false, H1, I1, rfl, q1⟩
theorem pe_or (ha : PE X a ta) (hb : PE X (.BoolOp .Or (b :: rest) pos) tb) : PE X (.BoolOp .Or (a :: b :: rest) pos) (tOrV ta tb) := by
  intro pins s σ H Q I h
  refine BoolOp_or (thn (ha pins s σ H _ I h) fun v s1 ⟨x, H1, I1, r1, q1⟩ => ?_)
  obtain ⟨c, rfl, q1⟩ := q1
  cases r1
  refine wpAny_truthy_bool ?_
  cases c with
  | false => exact hb pins s1 σ H1 Q I1 q1
  | true => exact ⟨.bl true, H1, I1, rfl, q1⟩
theorem pe_not (ha : PE X a ta) : PE X (.UnaryOp .Not a pos) (tNotV ta) := by
  intro pins s σ H Q I h
  refine UnaryOp_ (thn (ha pins s σ H _ I h) fun v s1 ⟨x, H1, I1, r1, q1⟩ => ?_)
  obtain ⟨c, rfl, q1⟩ := q1
  cases r1
  exact not_of (wpAny_truthy_bool ⟨.bl (!c), H1, I1, rfl, q1⟩)
/-- a if t else b -/
def tIf (t : TT) (ta tb : TE) : TE := fun σ H Q => t σ H fun c H1 => if c = true then ta σ H1 Q else tb σ H1 Q
theorem pe_ifExp {c : Expr} (hc : PT X c tA) (ha : PE X a ta) (hb : PE X b tb) : PE X (.IfExp c a b pos) (tIf tA ta tb) := by
  intro pins s σ H Q I h
  refine wpAny_IfExp (thn (hc pins s σ H _ I h) fun d s1 ⟨H1, I1, q1⟩ => ?_)
  cases d with
  | true => exact ha pins s1 σ H1 Q I1 q1
  | false => exact hb pins s1 σ H1 Q I1 q1
end
end L2

namespace L2
open PySem PySem.Spec PyProof.Rows

/-! ### a list, a tuple that is read: tracked, frozen, or an object of the module -/
def SqL (K : PySem.W.Frag) (H : Hp) (a : Addr) (xs : List V) : Prop :=
  Rd H a (.lst xs) ∨
    ∃ (o : Obj) (its : Array Value) (n : Nat), K.lookup a = some o ∧ o.cls = .type "list" ∧ o.dict = none ∧ o.data = .seq its n ∧ its.size ≤ sizeLine ∧ Vals xs its.toList
def SqT (K : PySem.W.Frag) (H : Hp) (a : Addr) (xs : List V) : Prop :=
  Rd H a (.tup xs) ∨
    ∃ (o : Obj) (its : Array Value) (n : Nat), K.lookup a = some o ∧ o.cls = .type "tuple" ∧ o.data = .seq its n ∧ its.size ≤ sizeLine ∧ Vals xs its.toList
def absV : Value → Option V
  | .none => some .non
  | .bool b => some (.bl b)
  | .int i _ => some (.int i)
  | .str x _ => some (.str x)
  | .bytes b _ => some (.byt b)
  | .float b _ => some (.flt b)
  | .ref a => some (.ref a)
  | .type n => some (.ty n)
  | _ => none
theorem RelV.abs {x : V} {u : Value} (r : RelV x u) : absV u = some x := by
  cases x with
  | non => cases r; rfl
  | bl _ => cases r; rfl
  | int _ => obtain ⟨t, rfl⟩ := r; rfl
  | str _ => obtain ⟨t, rfl⟩ := r; rfl
  | byt _ => obtain ⟨t, rfl⟩ := r; rfl
  | flt _ => obtain ⟨t, rfl⟩ := r; rfl
  | ref _ => cases r; rfl
  | ty _ => cases r; rfl
theorem RelV.inj {x y : V} {u : Value} (r : RelV x u) (q : RelV y u) : x = y := Option.some.inj (r.abs.symm.trans q.abs)
theorem Vals.inj : ∀ {xs ys : List V} {us : List Value}, Vals xs us → Vals ys us → xs = ys
  | _, _, _, .nil, .nil => rfl
  | _, _, _, .cons r t, .cons r' t' => by rw [r.inj r', Vals.inj t t']
section
variable {X : Cx} {pins : List (Addr × Obj)} {σ : St} {H : Hp} {s : Shared} {a : Addr} {xs ys : List V}
theorem SqL.of {K : PySem.W.Frag} (h : H a = some (.lst xs)) : SqL K H a xs := .inl (.inl h)
theorem SqT.of {K : PySem.W.Frag} (h : H a = some (.tup xs)) : SqT K H a xs := .inl (.inl h)
theorem Inv.list (I : Inv X pins σ H s) (h : SqL X.K H a xs) : ∃ its : List Value, Vals xs its ∧ PlainL s.heap a its.toArray ∧ xs.length ≤ sizeLine := by
  rcases h with h | ⟨o, its, n, hk, hc, hd, hs, hz, r⟩
  · obtain ⟨z, its, n, r, e⟩ := h.ok I.hok
    exact ⟨its, r, ⟨_, n, e, rfl, rfl, rfl⟩, z⟩
  · refine ⟨its.toList, r, ⟨o, n, I.kIn a o hk, hc, hd, by simpa using hs⟩, ?_⟩
    have e := r.length
    simp only [Array.length_toList] at e
    omega
theorem Inv.tuple (I : Inv X pins σ H s) (h : SqT X.K H a xs) : ∃ its : List Value, Vals xs its ∧ IsTup s.heap a its.toArray ∧ xs.length ≤ sizeLine := by
  rcases h with h | ⟨o, its, n, hk, hc, hs, hz, r⟩
  · obtain ⟨z, its, r, p⟩ := h.ok I.hok
    exact ⟨its, r, p, z⟩
  · refine ⟨its.toList, r, ⟨o, I.kIn a o hk, hc, n, by simpa using hs⟩, ?_⟩
    have e := r.length
    simp only [Array.length_toList] at e
    omega
theorem Inv.list_inj (I : Inv X pins σ H s) (h : SqL X.K H a xs) (h' : SqL X.K H a ys) : xs = ys := by
  obtain ⟨its, r, ⟨o, n, e, _, _, d⟩, _⟩ := I.list h
  obtain ⟨its', r', ⟨o', n', e', _, _, d'⟩, _⟩ := I.list h'
  rw [e] at e'; cases e'
  rw [d] at d'
  injection d' with d1 _
  have : its = its' := by simpa using congrArg Array.toList d1
  subst this
  exact r.inj r'
theorem Inv.tuple_inj (I : Inv X pins σ H s) (h : SqT X.K H a xs) (h' : SqT X.K H a ys) : xs = ys := by
  obtain ⟨its, r, ⟨o, e, _, n, d⟩, _⟩ := I.tuple h
  obtain ⟨its', r', ⟨o', e', _, n', d'⟩, _⟩ := I.tuple h'
  rw [e] at e'; cases e'
  rw [d] at d'
  injection d' with d1 _
  have : its = its' := by simpa using congrArg Array.toList d1
  subst this
  exact r.inj r'
end

/-! ### another wish about exceptions -/
abbrev Cx.wish (X : Cx) (E : Value → Shared → Prop) : Cx := { X with xe := E }
/-- no exception leaves -/
abbrev Cx.nox (X : Cx) : Cx := X.wish fun _ _ => False
theorem Cx.Ok.wish {X : Cx} (ok : X.Ok) (E : Value → Shared → Prop) : (X.wish E).Ok :=
  ⟨ok.mod, ok.kind, ok.glob, ok.blt, ok.above, ok.inj, ok.has, ok.cab, ok.hd, ok.frames, ok.stk, ok.exf, ok.bs, ok.bsz, ok.noex, ok.exfs, ok.funs, ok.frf⟩
theorem Cx.Ok.unwish {X : Cx} {E : Value → Shared → Prop} (ok : (X.wish E).Ok) : X.Ok :=
  ⟨ok.mod, ok.kind, ok.glob, ok.blt, ok.above, ok.inj, ok.has, ok.cab, ok.hd, ok.frames, ok.stk, ok.exf, ok.bs, ok.bsz, ok.noex, ok.exfs, ok.funs, ok.frf⟩
section
variable {X : Cx} {pins : List (Addr × Obj)} {σ : St} {H : Hp} {s : Shared} {E : Value → Shared → Prop}
theorem Inv.wish (I : Inv X pins σ H s) (E : Value → Shared → Prop) : Inv (X.wish E) pins σ H s := ⟨I.ok.wish E, I.os, I.bare, I.base, I.loc, I.cell, I.free, I.freeC, I.pin, I.hok, I.len⟩
theorem Inv.unwish (I : Inv (X.wish E) pins σ H s) : Inv X pins σ H s := ⟨I.ok.unwish, I.os, I.bare, I.base, I.loc, I.cell, I.free, I.freeC, I.pin, I.hok, I.len⟩
theorem SP.unwish {D : Ends} {f : Flow} {s' : Shared} (h : SP (X.wish E) pins D f s') : SP X pins D f s' := by
  cases f with
  | next => obtain ⟨σ', H', I, q⟩ := h; exact ⟨σ', H', I.unwish, q⟩
  | brk => obtain ⟨σ', H', I, q⟩ := h; exact ⟨σ', H', I.unwish, q⟩
  | cont => obtain ⟨σ', H', I, q⟩ := h; exact ⟨σ', H', I.unwish, q⟩
  | ret u => obtain ⟨v, σ', H', I, r, q⟩ := h; exact ⟨v, σ', H', I.unwish, r, q⟩
theorem PE.nox {e : Expr} {t : TE} (h : PE X.nox e t) : PE X e t := fun pins s σ H Q I hw =>
  wpAny_mono (h pins s σ H Q (I.wish _) hw) (fun _ _ ⟨v, H', I', r, q⟩ => ⟨v, H', I'.unwish, r, q⟩) fun _ _ z => False.elim z
theorem PT.nox {e : Expr} {t : TT} (h : PT X.nox e t) : PT X e t := fun pins s σ H Q I hw =>
  wpAny_mono (h pins s σ H Q (I.wish _) hw) (fun _ _ ⟨H', I', q⟩ => ⟨H', I'.unwish, q⟩) fun _ _ z => False.elim z
theorem PSs.nox {st : List Stmt} {t : TS} (h : PSs X.nox st t) : PSs X st t := fun pins s σ H D I hw =>
  wpAny_mono (h pins s σ H D (I.wish _) hw) (fun _ _ q => q.unwish) fun _ _ z => False.elim z
end

/-! ### blocks and small statements -/
section
variable {X : Cx} {st : Stmt} {rest : List Stmt} {t u : TS} {e : Expr} {te : TE} {pos : Pos}
def tNext : TS := fun D σ H => D.nx σ H
def tSeq (t u : TS) : TS := fun D σ H => t { D with nx := u D } σ H
theorem pss_nil : PSs X [] tNext := fun _ _ σ H _ I h => wpAny_execs_nil ⟨σ, H, I, h⟩
theorem pss_cons (h1 : PS X st t) (h2 : PSs X rest u) : PSs X (st :: rest) (tSeq t u) := by
  intro pins s σ H D I h
  refine wpAny_execs_cons (thn (h1 pins s σ H { D with nx := u D } I h) fun f s1 q => ?_)
  cases f with
  | next =>
    obtain ⟨σ', H', I', q⟩ := q
    exact h2 pins s1 σ' H' D I' q
  | ret v => exact q
  | brk => exact q
  | cont => exact q
theorem pss_one (h1 : PS X st t) : PSs X [st] t := by
  intro pins s σ H D I h
  refine wpAny_execs_cons (thn (h1 pins s σ H D I h) fun f s1 q => ?_)
  cases f with
  | next => exact wpAny_execs_nil q
  | ret v => exact q
  | brk => exact q
  | cont => exact q
def tBreak : TS := fun D σ H => D.bk σ H
def tCont : TS := fun D σ H => D.ct σ H
theorem ps_pass : PS X (.Pass pos) tNext := fun _ _ σ H _ I h => wpAny_Pass ⟨σ, H, I, h⟩
theorem ps_break : PS X (.Break pos) tBreak := fun _ _ σ H _ I h => wpAny_Break ⟨σ, H, I, h⟩
theorem ps_continue : PS X (.Continue pos) tCont := fun _ _ σ H _ I h => wpAny_Continue ⟨σ, H, I, h⟩
/-- in a def's body nothing is shown -/
theorem Inv.quiet {pins : List (Addr × Obj)} {σ : St} {H : Hp} {s : Shared} (I : Inv X pins σ H s) : interactive X.env = false := by simp [interactive, I.ok.kind]
/-- a docstring -/
theorem ps_doc {x j pos pos'} : PS X (.Expr (.Constant (.str x) j pos) pos') tNext := fun _ s σ H _ I h => wpAny_Expr (Calls.Constant_str (show SP X _ _ .next { s with toks := s.toks + 1 } from ⟨σ, H, I.tok _, h⟩)) I.quiet
/-- an expression whose value is dropped -/
def tDrop (te : TE) : TS := fun D σ H => te σ H fun _ H1 => D.nx σ H1
theorem ps_expr (he : PE X e te) (hs : swapsWith e none pos.line X.env = pure false := by rfl) : PS X (.Expr e pos) (tDrop te) := by
  intro pins s σ H D I h
  exact wpAny_Expr_any (thn (he pins s σ H _ I h) fun v s1 ⟨x, H1, I1, r1, q1⟩ => ⟨σ, H1, I1, q1⟩) I.quiet hs
def tRet (te : TE) : TS := fun D σ H => te σ H D.rt
theorem ps_ret (he : PE X e te) : PS X (.Return (some e) pos) (tRet te) := by
  intro pins s σ H D I h
  exact wpAny_Return_some (thn (he pins s σ H _ I h) fun v s1 ⟨x, H1, I1, r1, q1⟩ => ⟨x, σ, H1, I1, r1, q1⟩)
def tRetN : TS := fun D _ H => D.rt .non H
theorem ps_retN : PS X (.Return none pos) tRetN := fun _ _ σ H _ I h => wpAny_Return_none ⟨.non, σ, H, I, rfl, h⟩
def tIfS (c : TT) (t u : TS) : TS := fun D σ H => c σ H fun b H1 => if b = true then t D σ H1 else u D σ H1
theorem ps_if {c : Expr} {a b : List Stmt} {tc : TT} (hc : PT X c tc) (ha : PSs X a t) (hb : PSs X b u) : PS X (.If c a b pos) (tIfS tc t u) := by
  intro pins s σ H D I h
  refine wpAny_If (thn (hc pins s σ H _ I h) fun d s1 ⟨H1, I1, q1⟩ => ?_)
  cases d with
  | true => exact ha pins s1 σ H1 D I1 q1
  | false => exact hb pins s1 σ H1 D I1 q1
/-- code that the proof never comes to -/
def tNever : TS := fun _ _ _ => False
theorem ps_never : PS X st tNever := fun _ _ _ _ _ _ h => h.elim
theorem pss_never {sts : List Stmt} : PSs X sts tNever := fun _ _ _ _ _ _ h => h.elim
end

/-! ### targets -/
abbrev TG := V → St → Hp → (St → Hp → Prop) → Prop
abbrev TGs := List V → St → Hp → (St → Hp → Prop) → Prop
def PG (X : Cx) (target : Expr) (t : TG) : Prop :=
  ∀ (pins : List (Addr × Obj)) (s : Shared) (σ : St) (H : Hp) (v : V) (u : Value) (Q : St → Hp → Prop), Inv X pins σ H s → RelV v u → t v σ H Q →
    wpAny (model X.prog X.w) X.A (assign target X.env u) (fun _ s' => ∃ σ' H', Inv X pins σ' H' s' ∧ Q σ' H') X.xe s
/-- several targets, one after another -/
def PGs (X : Cx) (ts : List Expr) (t : TGs) : Prop :=
  ∀ (pins : List (Addr × Obj)) (s : Shared) (σ : St) (H : Hp) (vs : List V) (us : List Value) (Q : St → Hp → Prop), Inv X pins σ H s → Vals vs us → t vs σ H Q →
    wpAny (model X.prog X.w) X.A (assignInOrder ((assignEach ts X.env).map (·.2)) us) (fun _ s' => ∃ σ' H', Inv X pins σ' H' s' ∧ Q σ' H') X.xe s
/-- o[i] = v, by values -/
abbrev TSet := V → V → V → Hp → (Hp → Prop) → Prop
def PSet (X : Cx) (t : TSet) : Prop :=
  ∀ (pins : List (Addr × Obj)) (s : Shared) (σ : St) (H : Hp) (o i v : V) (ov iv u : Value) (Q : Hp → Prop), Inv X pins σ H s → RelV o ov → RelV i iv → RelV v u → t o i v H Q →
    wpAny (model X.prog X.w) X.A (setItem ov iv u) (fun _ s' => ∃ H', Inv X pins σ H' s' ∧ Q H') X.xe s
/-- a op= b, by values -/
abbrev TIp := V → V → Hp → VK → Prop
def PIp (X : Cx) (op : Operator) (t : TIp) : Prop :=
  ∀ (pins : List (Addr × Obj)) (s : Shared) (σ : St) (H : Hp) (x y : V) (v u : Value) (Q : VK), Inv X pins σ H s → RelV x v → RelV y u → t x y H Q →
    wpAny (model X.prog X.w) X.A (inplaceOp op v u) (EP X pins σ Q) X.xe s
section
variable {X : Cx} {pos : Pos}
def gName (i : Nat) : TG := fun v σ H Q => Q (σ.set i (some v)) H
theorem pg_name {i : Nat} {x : Str} (hN : X.N.Nodup) (hi : X.N[i]? = some x) (hx : Loc X.env.scope x) (hf : X.fn x = true ∨ X.env.scope.names.lookup x = some .local := by first | exact .inl rfl | exact .inr rfl | assumption) : PG X (.Name x pos) (gName i) := by
  intro pins s σ H v u Q I r h
  exact wpAny_assign_Name (store_ok I hN hi hx r (fun s' I' => ⟨_, H, I', h⟩) hf)
def gNil : TGs := fun vs σ H Q => vs = [] ∧ Q σ H
def gCons (t : TG) (u : TGs) : TGs := fun vs σ H Q => ∃ v r, vs = v :: r ∧ t v σ H fun σ' H' => u r σ' H' Q
theorem pgs_nil : PGs X [] gNil := by
  intro pins s σ H vs us Q I r h
  obtain ⟨e, h⟩ := h
  subst e
  cases r
  exact assignInOrder_nil ⟨σ, H, I, h⟩
theorem pgs_cons {e : Expr} {es : List Expr} {t : TG} {u : TGs} (h1 : PG X e t) (h2 : PGs X es u)
    (hs : (assignEach (e :: es) X.env).map (·.2) = assign e X.env :: (assignEach es X.env).map (·.2) := by rfl) : PGs X (e :: es) (gCons t u) := by
  intro pins s σ H vs us Q I r h
  obtain ⟨v, vr, e1, h⟩ := h
  subst e1
  cases r with
  | cons r rr =>
    rw [hs]
    refine assignInOrder_cons (thn (h1 pins s σ H _ _ _ I r h) fun _ s1 ⟨σ1, H1, I1, q1⟩ => ?_)
    exact h2 pins s1 σ1 H1 _ _ Q I1 rr q1
/-- (a, b, ..) = a tuple of that length -/
def gTup (K : PySem.W.Frag) (n : Nat) (t : TGs) : TG := fun v σ H Q => ∃ a xs, v = .ref a ∧ SqT K H a xs ∧ xs.length = n ∧ t xs σ H Q
theorem pg_tup {es : List Expr} {k : Nat} {t : TGs} {n : Nat} (hc : X.calm = true) (h : PGs X es t)
    (hn : (assignEach es X.env).length = n := by rfl) (hst : (assignEach es X.env).findIdx? (·.1) = none := by rfl) : PG X (.Tuple es k pos) (gTup X.K n t) := by
  intro pins s σ H v u Q I r hw
  obtain ⟨a, xs, e1, hq, hl, hw⟩ := hw
  subst e1
  cases r
  obtain ⟨its, rv, ht, hz⟩ := I.tuple hq
  refine assign_Tuple_tuple (I.ok.hd hc) ht (by simp [hn, ← hl, rv.length]) hst fun h' hx => ?_
  have I1 : Inv X pins σ H { s with heap := h' } := I.kept (t' := s.toks) fun b o e => hx b o (Nat.ne_of_lt (Heap.lt_size e)) e
  exact h pins _ σ H xs _ Q I1 (by simpa using rv) hw
/-- o[i] = .. -/
def gSub (to ti : TE) (t : TSet) : TG := fun v σ H Q => to σ H fun o H1 => ti σ H1 fun i H2 => t o i v H2 fun H3 => Q σ H3
theorem pg_sub {o i : Expr} {to ti : TE} {t : TSet} (ho : PE X o to) (hi : PE X i ti) (hs : PSet X t)
    (ha : ∀ v, assign (.Subscript o i pos) X.env v = (do
      let ov ← holding [v] (eval o X.env)
      let iv ← holding [v, ov] (eval i X.env)
      standAt pos
      holding [v, ov, iv] (setItem ov iv v)
      release [v, ov, iv] []) := by intro _; rfl) : PG X (.Subscript o i pos) (gSub to ti t) := by
  intro pins s σ H v u Q I r h
  rw [ha]
  refine wpAny_bind (wpAny_holding (thn (ho pins s σ H _ I h) fun ov s1 ⟨x, H1, I1, r1, q1⟩ => ?_))
  refine wpAny_bind (wpAny_holding (thn (hi pins s1 σ H1 _ I1 q1) fun iv s2 ⟨y, H2, I2, r2, q2⟩ => ?_))
  refine wpAny_bind (wpAny_standAt (wpAny_bind (wpAny_holding (thn (hs pins s2 σ H2 x y v ov iv u _ I2 r1 r2 r q2) fun _ s3 ⟨H3, I3, q3⟩ => ?_))))
  exact wpAny_release ⟨σ, H3, I3, q3⟩
/-- target = value -/
def tAsg (te : TE) (g : TG) : TS := fun D σ H => te σ H fun x H1 => g x σ H1 D.nx
theorem ps_asg {tg e : Expr} {te : TE} {g : TG} (he : PE X e te) (hg : PG X tg g) (hs : swapsWithSole [tg] e pos.line X.env = pure false := by rfl) (hw : swappedStores [tg] e X.env = pure none := by rfl)
    (h1 : (assignEach [tg] X.env).map (·.2) = [assign tg X.env] := by rfl) : PS X (.Assign [tg] e pos) (tAsg te g) := by
  intro pins s σ H D I h
  refine wpAny_Assign_stores (thn (he pins s σ H _ I h) fun v s1 ⟨x, H1, I1, r1, q1⟩ => ?_) hs hw
  rw [h1]
  exact thn (hg pins s1 σ H1 x v _ I1 r1 q1) fun _ s2 q => q
/-- name = value -/
theorem ps_set {i : Nat} {x : Str} {e : Expr} {te : TE} {pos' : Pos} (hN : X.N.Nodup) (hi : X.N[i]? = some x) (hx : Loc X.env.scope x) (he : PE X e te) (hs : swapsWith e (some (.Name x pos')) pos.line X.env = pure false := by rfl) (hf : X.fn x = true ∨ X.env.scope.names.lookup x = some .local := by first | exact .inl rfl | exact .inr rfl | assumption) :
    PS X (.Assign [.Name x pos'] e pos) (tAsg te (gName i)) := by
  intro pins s σ H D I h
  refine wpAny_Assign_Name (thn (he pins s σ H _ I h) fun v s1 ⟨y, H1, I1, r1, q1⟩ => ?_) hs
  exact store_ok I1 hN hi hx r1 (fun s2 I2 => ⟨_, H1, I2, q1⟩) hf
/-- a, b = x, y with plain local names: stored from the right; the pair itself is not tracked (the opening rows as in PyProof/Rows/TupAssign.lean:23) -/
def tPar (i j : Nat) (ta : TA) : TS := fun D σ H => ta σ H fun vs H1 => ∃ v w, vs = [v, w] ∧ D.nx ((σ.set i (some v)).set j (some w)) H1
theorem ps_par {i j : Nat} {x y : Str} {a b : Expr} {ta : TA} {px py pt : Pos} {kt k2 pt2} (hc : X.calm = true) (hN : X.N.Nodup) (hi : X.N[i]? = some x) (hj : X.N[j]? = some y) (hij : i ≠ j)
    (hx : X.env.scope.names.lookup x = some .local) (hy : X.env.scope.names.lookup y = some .local) (ha : PA X [a, b] ta)
    (hw : swappedStores [.Tuple [.Name x px, .Name y py] kt pt] (.Tuple [a, b] k2 pt2) X.env = pure (some [x, y]))
    (hs : swapsWithSole [.Tuple [.Name x px, .Name y py] kt pt] (.Tuple [a, b] k2 pt2) pos.line X.env = pure false := by rfl) :
    PS X (.Assign [.Tuple [.Name x px, .Name y py] kt pt] (.Tuple [a, b] k2 pt2) pos) (tPar i j ta) := by
  intro pins s σ H D I h
  rw [exec_Assign_arm]
  refine wpAny_bind (wpAny_standAt ?_)
  rw [hs]
  refine wpAny_bind (wpAny_pure ?_)
  rw [if_neg (by decide)]
  refine wpAny_bind (Tuple_ (thn (ha _ pins s σ H _ I h) fun us s1 ⟨vs, H1, I1, r1, q1⟩ => ?_))
  obtain ⟨v, w, e1, q1⟩ := q1
  subst e1
  obtain ⟨u1, u2, rfl, rv, rw'⟩ : ∃ u1 u2, us = [u1, u2] ∧ RelV v u1 ∧ RelV w u2 := by
    cases r1 with
    | cons p q =>
      cases q with
      | cons p' q' =>
        cases q'
        exact ⟨_, _, rfl, p, p'⟩
  refine wpAny_newObj_type ?_ (by show 2 ≤ sizeLine; decide)
  have I2 : Inv X pins σ H1 { s1 with heap := s1.heap.push { cls := .type "tuple", data := .seq [u1, u2].toArray } } := I1.kept (t' := s1.toks) fun b o e => Heap.get?_push_of_some _ e
  rw [hw]
  refine wpAny_bind (wpAny_pure ?_)
  show wpAny (model X.prog X.w) X.A (do rule "assign.swapped-stores"; let items ← unpackItems (.ref s1.heap.objs.size) 2 none; assignInOrder [fun v => bindName X.env y v, fun v => bindName X.env x v] items.reverse; pure Flow.next) _ _ _
  refine wpAny_bind (wpAny_rule (wpAny_bind (unpackItems_tuple (items := #[u1, u2]) (I.ok.hd hc) (IsTup.new s1.heap _) fun h' hx' => ?_)))
  have I3 := I2.kept (h' := h') (t' := s1.toks) fun b o e => hx' b o (Nat.ne_of_lt (Heap.lt_size e)) e
  show wpAny _ _ (assignInOrder [fun v => bindName X.env y v, fun v => bindName X.env x v] [u2, u1] >>= fun _ => pure Flow.next) _ _ _
  refine wpAny_bind (assignInOrder_cons (wpAny_bindName (store_ok I3 hN hj (.inl hy) rw' (fun s2 I4 => ?_) (.inr hy))))
  refine assignInOrder_cons (wpAny_bindName (store_ok I4 hN hi (.inl hx) rv (fun s3 I5 => assignInOrder_nil (wpAny_pure ?_)) (.inr hx)))
  rw [List.set_comm _ _ (Ne.symm hij)] at I5
  exact ⟨_, H1, I5, q1⟩
/-- name op= e -/
def tAug (i : Nat) (te : TE) (ti : TIp) : TS := fun D σ H => ∃ x, σ[i]? = some (some x) ∧ te σ H fun y H1 => ti x y H1 fun z H2 => D.nx (σ.set i (some z)) H2
theorem ps_aug {i : Nat} {x : Str} {e : Expr} {te : TE} {op : Operator} {ti : TIp} {pos' : Pos} (hN : X.N.Nodup) (hi : X.N[i]? = some x) (hx : Loc X.env.scope x) (he : PE X e te) (ho : PIp X op ti) (hf : X.fn x = true ∨ X.env.scope.names.lookup x = some .local := by first | exact .inl rfl | exact .inr rfl | assumption) :
    PS X (.AugAssign (.Name x pos') op e pos) (tAug i te ti) := by
  intro pins s σ H D I h
  obtain ⟨v, e1, h⟩ := h
  obtain ⟨m, hn, hl⟩ := I.loc
  have vis : Vis X.env.scope x := by rcases hx with k | k; exact .inl k; exact .inr (.inl k)
  obtain ⟨u, r, l⟩ := hl i x v hi e1 vis
  refine wpAny_AugAssign_Name ?_
  have go : wpAny (model X.prog X.w) X.A (eval e X.env) (fun w s₂ => wpAny (model X.prog X.w) X.A (inplaceOp op u w) (fun r s₃ => wpAny (model X.prog X.w) X.A (storeName X.env x r) (fun _ => SP X pins D .next) X.xe s₃) X.xe s₂) X.xe s := by
    refine thn (he pins s σ H _ I h) fun w s1 ⟨y, H1, I1, r1, q1⟩ => ?_
    refine thn (ho pins s1 σ H1 v y u w _ I1 r r1 q1) fun z s2 ⟨zv, H2, I2, r2, q2⟩ => ?_
    exact store_ok I2 hN hi hx r2 (fun s3 I3 => ⟨_, H2, I3, q2⟩) hf
  rcases l with ⟨hk, hm⟩ | ⟨hk, c, hc, hcell⟩
  · exact wpAny_loadName_local I.ok.kind hk hn hm go
  · rcases hk with hk | hk
    · exact wpAny_loadName_cell I.ok.kind hk hc hcell go
    · rcases hx with k | k
      · have : X.env.scope.names.lookup x = some .free := hk
        rw [k] at this; cases this
      · have : X.env.scope.names.lookup x = some .free := hk
        rw [k] at this; cases this
/-- o[i] op= e -/
def tAugS (to ti te : TE) (tget : V → V → Hp → VK → Prop) (tip : TIp) (tset : TSet) : TS := fun D σ H => to σ H fun o H1 => ti σ H1 fun i H2 => tget o i H2 fun x H3 => te σ H3 fun y H4 => tip x y H4 fun z H5 => tset o i z H5 fun H6 => D.nx σ H6
/-- o[i], by values -/
def PGet (X : Cx) (t : V → V → Hp → VK → Prop) : Prop :=
  ∀ (pins : List (Addr × Obj)) (s : Shared) (σ : St) (H : Hp) (o i : V) (ov iv : Value) (Q : VK), Inv X pins σ H s → RelV o ov → RelV i iv → t o i H Q →
    wpAny (model X.prog X.w) X.A (getItem ov iv) (EP X pins σ Q) X.xe s
theorem ps_augS {o i e : Expr} {to ti te : TE} {tget : V → V → Hp → VK → Prop} {tip : TIp} {tset : TSet} {op : Operator} {tpos : Pos} (ho : PE X o to) (hi : PE X i ti) (hg : PGet X tget) (he : PE X e te) (hp : PIp X op tip) (hs : PSet X tset)
    (ha : ∀ ov iv new, augStore i ov iv new = (do holding [new, ov, iv] (setItem ov iv new); release [new, ov, iv] []; pure .next) := by intros; rfl) : PS X (.AugAssign (.Subscript o i tpos) op e pos) (tAugS to ti te tget tip tset) := by
  intro pins s σ H D I h
  refine wpAny_AugAssign_SubscriptAny (thn (ho pins s σ H _ I h) fun ov s1 ⟨x1, H1, I1, r1, q1⟩ => ?_) ha
  refine thn (hi pins s1 σ H1 _ I1 q1) fun iv s2 ⟨x2, H2, I2, r2, q2⟩ => ?_
  refine thn (hg pins s2 σ H2 x1 x2 ov iv _ I2 r1 r2 q2) fun old s3 ⟨x3, H3, I3, r3, q3⟩ => ?_
  refine thn (he pins s3 σ H3 _ I3 q3) fun v s4 ⟨x4, H4, I4, r4, q4⟩ => ?_
  refine thn (hp pins s4 σ H4 x3 x4 old v _ I4 r3 r4 q4) fun new s5 ⟨x5, H5, I5, r5, q5⟩ => ?_
  exact thn (hs pins s5 σ H5 x1 x2 x5 ov iv new _ I5 r1 r2 r5 q5) fun _ s6 ⟨H6, I6, q6⟩ => ⟨σ, H6, I6, q6⟩
/-- ints -/
def ipI (f : Int → Int → Int) : TIp := fun x y H Q => ∃ i j, x = .int i ∧ y = .int j ∧ Q (.int (f i j)) H
theorem ip_add : PIp X .Add (ipI fun i j => i + j) := by
  intro pins s σ H x y v u Q I r1 r2 h
  obtain ⟨i, j, e1, e2, q⟩ := h
  subst e1; subst e2
  obtain ⟨t, rfl⟩ := r1
  obtain ⟨t', rfl⟩ := r2
  exact iadd_int ⟨.int _, H, I.tok _, ⟨_, rfl⟩, q⟩
theorem ip_sub : PIp X .Sub (ipI fun i j => i - j) := by
  intro pins s σ H x y v u Q I r1 r2 h
  obtain ⟨i, j, e1, e2, q⟩ := h
  subst e1; subst e2
  obtain ⟨t, rfl⟩ := r1
  obtain ⟨t', rfl⟩ := r2
  exact isub_int ⟨.int _, H, I.tok _, ⟨_, rfl⟩, q⟩
end

/-! ### while -/
section
variable {X : Cx} {pos : Pos}
/-- the invariant W with its measure -/
def tWhile (c : TT) (tb : TS) : TS := fun D σ H => ∃ W : Nat → St → Hp → Prop, (∃ m, W m σ H) ∧ ∀ m σ H, W m σ H →
  c σ H fun b H1 => if b = true then ∃ N : St → Hp → Prop, (∀ σ' H', N σ' H' → ∃ m', m' < m ∧ W m' σ' H') ∧ tb { D with nx := N, ct := N, bk := D.nx } σ H1 else D.nx σ H1
theorem ps_while {c : Expr} {body : List Stmt} {tc : TT} {tb : TS} (hp : PassesOwn (model X.prog X.w) X.A X.env X.xe) (hc : PT X c tc) (hb : PSs X body tb) : PS X (.While c body [] pos) (tWhile tc tb) := by
  intro pins s σ H D I h
  obtain ⟨W, ⟨m0, w0⟩, turn⟩ := h
  refine wpAny_While (codeAny_whileLoop (fun n s' => ∃ σ' H', Inv X pins σ' H' s' ∧ W n σ' H') ?_ m0 ⟨σ, H, I, w0⟩)
  rintro n s1 ⟨σ1, H1, I1, w1⟩
  refine wpAny_passesOwn hp (thn (hc pins s1 σ1 H1 _ I1 (turn n σ1 H1 w1)) fun b s2 ⟨H2, I2, q2⟩ => ?_)
  cases b with
  | true =>
    obtain ⟨N, hN, q2⟩ := q2
    rw [if_pos rfl]
    refine wpAny_passesOwn hp (thn (hb pins s2 σ1 H2 _ I2 q2) fun f s3 q3 => ?_)
    cases f with
    | next =>
      obtain ⟨σ3, H3, I3, n3⟩ := q3
      obtain ⟨m', hm, w3⟩ := hN σ3 H3 n3
      exact ⟨m', hm, σ3, H3, I3, w3⟩
    | cont =>
      obtain ⟨σ3, H3, I3, n3⟩ := q3
      obtain ⟨m', hm, w3⟩ := hN σ3 H3 n3
      exact ⟨m', hm, σ3, H3, I3, w3⟩
    | brk => exact q3
    | ret v => exact q3
  | false =>
    rw [if_neg Bool.false_ne_true]
    exact wpAny_execs_nil ⟨σ1, H2, I2, q2⟩
end

/-! ### what a loop or a comprehension walks -/
/-- at turn i: it yields x (the heap may grow), or it stops -/
structure It where
  go : Nat → Hp → Prop
  yld : Nat → Hp → V → Hp → Prop
  stop : Nat → Hp → Prop
/-- the iterator's own objects may turn: they are not the frame's, not pinned, younger than the entry (or a comprehension's own) -/
def FpOk (X : Cx) (pins : List (Addr × Obj)) (H : Hp) (b : Addr) : Prop :=
  H b = none ∧ b ≠ X.env.locals ∧ b ∉ X.fs ∧ (b ∈ X.ex ∨ X.s₀.heap.objs.size ≤ b) ∧ (∀ x c, X.env.cells.lookup x = some c → c ≠ b) ∧ ∀ p ∈ X.pn ++ pins, p.1 ≠ b
theorem Inv.fpOk {X : Cx} {pins : List (Addr × Obj)} {σ : St} {H H' : Hp} {s : Shared} {b : Addr} (I : Inv X pins σ H s) (hb : s.heap.objs.size ≤ b) (hn : H' b = none) : FpOk X pins H' b := by
  refine ⟨hn, Nat.ne_of_gt (Nat.lt_of_lt_of_le I.lt hb), I.nofs hb, .inr (Nat.le_trans I.sz hb), fun x c e z => ?_, fun p hp z => ?_⟩
  · obtain ⟨v, q⟩ := I.cell x c e
    exact absurd (Nat.lt_of_lt_of_le q.lt (by rw [z]; exact hb)) (Nat.lt_irrefl _)
  · exact absurd (Nat.lt_of_lt_of_le (Heap.lt_size (I.pin p hp).1) (by rw [z]; exact hb)) (Nat.lt_irrefl _)
structure Turn (P : Program) (w : World) (K : PySem.W.Frag) (tg : Expr) (J : It) (fp : List Addr) (it : Addr) (tn : Nat → Heap → Prop) : Prop where
  mem : it ∈ fp
  obj : ∀ i h, tn i h → ∀ b ∈ fp, ∃ o, h.get? b = some o ∧ ∀ v, o.data ≠ .cell v
  keep : ∀ i h h', tn i h → (∀ b ∈ fp, ∀ o, h.get? b = some o → h'.get? b = some o) → tn i h'
  item : ∀ (X : Cx), X.prog = P → X.w = w → X.K = K → X.calm = true → ∀ (i : Nat) (pins : List (Addr × Obj)) (s : Shared) (σ : St) (H : Hp) (E : Value → Shared → Prop), Inv X pins σ H s → (∀ b ∈ fp, FpOk X pins H b) → tn i s.heap → J.go i H →
    wpAny (model P w) X.A (pyNext (.ref it)) (fun r s1 => ∃ u, r = some u ∧
      wpAny (model P w) X.A (letOwnedTupleGo tg (.ref it) u) (fun _ s2 => ∃ x H', Inv X pins σ H' s2 ∧ RelV x u ∧ J.yld i H x H' ∧ tn (i + 1) s2.heap ∧ ∀ b ∈ fp, H' b = none) E s1) E s
  done : ∀ (X : Cx), X.prog = P → X.w = w → X.K = K → X.calm = true → ∀ (i : Nat) (pins : List (Addr × Obj)) (s : Shared) (σ : St) (H : Hp) (E : Value → Shared → Prop), Inv X pins σ H s → (∀ b ∈ fp, FpOk X pins H b) → tn i s.heap → J.stop i H →
    wpAny (model P w) X.A (pyNext (.ref it)) (fun r s1 => r = none ∧ Inv X pins σ H s1) E s
  self : ∀ (A : Around) (i : Nat) (s : Shared) (Q : Value → Shared → Prop) (E : Value → Shared → Prop), tn i s.heap → Q (.ref it) s → wpAny (model P w) A (pyIter (.ref it)) Q E s
abbrev TI := St → Hp → (It → Hp → Prop) → Prop
/-- an iterator has come -/
def PIE (X : Cx) (pins : List (Addr × Obj)) (σ : St) (tg : Expr) (R : It → Hp → Prop) (itv : Value) (s2 : Shared) : Prop :=
  ∃ (it : Addr) (fp : List Addr) (tn : Nat → Heap → Prop) (J : It) (H' : Hp), itv = .ref it ∧ Inv X pins σ H' s2 ∧ Turn X.prog X.w X.K tg J fp it tn ∧ tn 0 s2.heap ∧ (∀ b ∈ fp, FpOk X pins H' b) ∧ R J H'
def PI (X : Cx) (tg iter : Expr) (wi : TI) : Prop :=
  ∀ (pins : List (Addr × Obj)) (s : Shared) (σ : St) (H : Hp) (R : It → Hp → Prop), Inv X pins σ H s → wi σ H R →
    wpAny (model X.prog X.w) X.A (eval iter X.env) (fun v s1 => wpAny (model X.prog X.w) X.A (pyIter v) (PIE X pins σ tg R) X.xe s1) X.xe s

/-- the step ahead of the store is nothing for an iterator that keeps no tuple -/
theorem go_of {M : Model} {A : Around} {E : Value → Shared → Prop} {s : Shared} {tg : Expr} {it : Addr} {u : Value} {o : Obj} {n : String} {vs : Array Value} {Q : Unit → Shared → Prop} (ho : s.heap.get? it = some o) (hc : o.cls = .type n) (hd : o.data = .fields vs)
    (hn : ["enumerate", "zip", "dict_itemiterator", "dict_reverseitemiterator", "odict_iterator", "itertools.zip_longest", "itertools.pairwise"].contains n = false) (hQ : Q () s) : wpAny M A (letOwnedTupleGo tg (.ref it) u) Q E s := by
  unfold letOwnedTupleGo
  cases tg <;> first
    | exact wpAny_pure hQ
    | (cases u <;> first
        | exact wpAny_pure hQ
        | (refine wpAny_bind (wpAny_load ho ?_)
           rw [hc, hd]
           show wpAny M A (if (["enumerate", "zip", "dict_itemiterator", "dict_reverseitemiterator", "odict_iterator", "itertools.zip_longest", "itertools.pairwise"].contains n && vs[0]? == some (rawInt _)) = true then _ else _) Q E s
           rw [if_neg (by intro h; rw [hn, Bool.false_and] at h; cases h)]
           exact wpAny_pure hQ))

/-- the list at a, as it stands at each turn (a loop may append to it) -/
def Itl (K : PySem.W.Frag) (a : Addr) : It :=
  ⟨fun i H => ∃ xs x, SqL K H a xs ∧ xs[i]? = some x, fun i H x H' => H' = H ∧ ∀ xs, SqL K H a xs → xs[i]? = some x, fun i H => ∃ xs, SqL K H a xs ∧ xs.length ≤ i⟩
def Itt (K : PySem.W.Frag) (a : Addr) : It :=
  ⟨fun i H => ∃ xs x, SqT K H a xs ∧ xs[i]? = some x, fun i H x H' => H' = H ∧ ∀ xs, SqT K H a xs → xs[i]? = some x, fun i H => ∃ xs, SqT K H a xs ∧ xs.length ≤ i⟩
/-- lo, lo + 1, .. (n of them) -/
def Itr (lo : Int) (n : Nat) : It := ⟨fun i _ => i < n, fun i H x H' => H' = H ∧ x = .int (lo + i), fun i _ => n ≤ i⟩
theorem turn_list {P : Program} {w : World} {K : PySem.W.Frag} {tg : Expr} (a it : Addr) : Turn P w K tg (Itl K a) [it] it (fun i h => h.IsListIter it a i) where
  mem := by simp
  obj := fun i h st b hb => by
    have e : b = it := by simpa using hb
    subst e
    obtain ⟨o, e, c, d⟩ := st
    exact ⟨o, e, fun v z => by rw [d] at z; cases z⟩
  keep := fun i h h' st k => st.at fun o e => k it (by simp) o e
  item := by
    intro X hP hw hK hc i pins s σ H E I hf st hg
    subst hP hw hK
    obtain ⟨xs, x, hq, hx⟩ := hg
    obtain ⟨its, rv, p, hz⟩ := I.list hq
    obtain ⟨u, hu, ru⟩ := rv.get hx
    obtain ⟨f0, f1, f2, f3, f4, f5⟩ := hf it (by simp)
    refine wpAny_pyNext_list_item st p.isList (x := u) (by simpa using hu) fun h' st' sb => ?_
    have I1 : Inv X pins σ H { s with heap := h' } := I.turned (t' := s.toks) (fun b o hb e => (sb.2 b hb).trans e) f0 f1 f3 f4 f5
    obtain ⟨o, e, c, d⟩ := id st'
    exact ⟨u, rfl, go_of (s := { s with heap := h' }) e c d (by decide) ⟨x, H, I1, ru, ⟨rfl, fun ys hy => by rw [I.list_inj hy hq]; exact hx⟩, st', fun b hb => (hf b hb).1⟩⟩
  done := by
    intro X hP hw hK hc i pins s σ H E I hf st hg
    subst hP hw hK
    obtain ⟨xs, hq, hx⟩ := hg
    obtain ⟨its, rv, p, hz⟩ := I.list hq
    obtain ⟨f0, f1, f2, f3, f4, f5⟩ := hf it (by simp)
    have hl := rv.length
    exact wpAny_pyNext_list_end (I.ok.hd hc) st p.isList (by simp; omega) fun h' eb => ⟨rfl, I.turned (t' := s.toks) (fun b o hb e => eb b o hb e) f0 f1 f3 f4 f5⟩
  self := fun _ _ _ _ _ st h => wpAny_pyIter_listiter st h
theorem turn_tuple {P : Program} {w : World} {K : PySem.W.Frag} {tg : Expr} (a it : Addr) : Turn P w K tg (Itt K a) [it] it (fun i h => h.IsTupleIter it a i) where
  mem := by simp
  obj := fun i h st b hb => by
    have e : b = it := by simpa using hb
    subst e
    obtain ⟨o, e, c, d⟩ := st
    exact ⟨o, e, fun v z => by rw [d] at z; cases z⟩
  keep := fun i h h' st k => st.at fun o e => k it (by simp) o e
  item := by
    intro X hP hw hK hc i pins s σ H E I hf st hg
    subst hP hw hK
    obtain ⟨xs, x, hq, hx⟩ := hg
    obtain ⟨its, rv, p, hz⟩ := I.tuple hq
    obtain ⟨u, hu, ru⟩ := rv.get hx
    obtain ⟨f0, f1, f2, f3, f4, f5⟩ := hf it (by simp)
    refine wpAny_pyNext_tuple_item st (show s.heap.IsTuple a its.toArray from p) (x := u) (by simpa using hu) fun h' st' sb => ?_
    have I1 : Inv X pins σ H { s with heap := h' } := I.turned (t' := s.toks) (fun b o hb e => (sb.2 b hb).trans e) f0 f1 f3 f4 f5
    obtain ⟨o, e, c, d⟩ := id st'
    exact ⟨u, rfl, go_of (s := { s with heap := h' }) e c d (by decide) ⟨x, H, I1, ru, ⟨rfl, fun ys hy => by rw [I.tuple_inj hy hq]; exact hx⟩, st', fun b hb => (hf b hb).1⟩⟩
  done := by
    intro X hP hw hK hc i pins s σ H E I hf st hg
    subst hP hw hK
    obtain ⟨xs, hq, hx⟩ := hg
    obtain ⟨its, rv, p, hz⟩ := I.tuple hq
    obtain ⟨f0, f1, f2, f3, f4, f5⟩ := hf it (by simp)
    have hl := rv.length
    exact wpAny_pyNext_tuple_end (I.ok.hd hc) st (show s.heap.IsTuple a its.toArray from p) (by simp; omega) fun h' eb => ⟨rfl, I.turned (t' := s.toks) (fun b o hb e => eb b o hb e) f0 f1 f3 f4 f5⟩
  self := fun _ _ _ _ _ st h => wpAny_pyIter_tupleiter st h
theorem turn_range {P : Program} {w : World} {K : PySem.W.Frag} {tg : Expr} (it : Addr) (lo : Int) (n : Nat) : Turn P w K tg (Itr lo n) [it] it (fun i h => IsRangeIter h it (lo + (i : Nat) * 1) ((n : Int) - (i : Nat)) 1) where
  mem := by simp
  obj := fun i h st b hb => by
    have e : b = it := by simpa using hb
    subst e
    exact ⟨_, st, fun v z => by
      have z' : Data.fields _ = Data.cell v := z
      cases z'⟩
  keep := fun i h h' st k => k it (by simp) _ st
  item := by
    intro X hP hw hK hc i pins s σ H E I hf st hg
    subst hP hw hK
    obtain ⟨f0, f1, f2, f3, f4, f5⟩ := hf it (by simp)
    have W := Walks.range (prog := X.prog) (w := X.w) (I.ok.hd hc) it lo 1 n
    refine W.item i s _ _ hg st fun v h' tk hv st' kk => ?_
    obtain ⟨t, rfl⟩ := hv
    have I1 : Inv X pins σ H { s with heap := h', toks := tk } := I.turned (fun b o hb e => kk b o (by simpa using hb) e) f0 f1 f3 f4 f5
    refine ⟨_, rfl, go_of (s := { s with heap := h', toks := tk }) (n := "range_iterator") st' rfl rfl (by decide) ⟨.int (lo + i), H, I1, ⟨t, ?_⟩, ⟨rfl, rfl⟩, st', fun b hb => (hf b hb).1⟩⟩
    rw [Int.mul_one]
  done := by
    intro X hP hw hK hc i pins s σ H E I hf st hg
    subst hP hw hK
    obtain ⟨f0, f1, f2, f3, f4, f5⟩ := hf it (by simp)
    exact wpAny_pyNext_range_end (I.ok.hd hc) st (by have : n ≤ i := hg; omega) fun h' eb => ⟨rfl, I.turned (t' := s.toks) (fun b o hb e => eb b o hb e) f0 f1 f3 f4 f5⟩
  self := fun _ _ _ _ _ st h => wpAny_pyIter_rangeiter st h
end L2

namespace L2
open PySem PySem.Spec PyProof.Rows
section
variable {X : Cx} {tg : Expr}
def iList (K : PySem.W.Frag) (tl : TE) : TI := fun σ H R => tl σ H fun x H1 => ∃ a, x = .ref a ∧ (∃ xs, SqL K H1 a xs) ∧ R (Itl K a) H1
def iTup (K : PySem.W.Frag) (tl : TE) : TI := fun σ H R => tl σ H fun x H1 => ∃ a, x = .ref a ∧ (∃ xs, SqT K H1 a xs) ∧ R (Itt K a) H1
theorem pi_list {l : Expr} {tl : TE} (hl : PE X l tl) : PI X tg l (iList X.K tl) := by
  intro pins s σ H R I h
  refine thn (hl pins s σ H _ I h) fun v s1 ⟨x, H1, I1, r1, q1⟩ => ?_
  obtain ⟨a, e, ⟨xs, hq⟩, q⟩ := q1
  subst e
  cases r1
  obtain ⟨its, rv, p, hz⟩ := I1.list hq
  refine wpAny_pyIter_list p.isList ?_
  refine ⟨s1.heap.objs.size, [s1.heap.objs.size], _, _, H1, rfl, I1.kept (t' := s1.toks) fun b o e => Heap.get?_push_of_some _ e, turn_list a _, ⟨_, Heap.get?_push_size _ rfl, rfl, rfl⟩, fun b hb => ?_, q⟩
  have e : b = s1.heap.objs.size := by simpa using hb
  subst e
  exact I1.fpOk (Nat.le_refl _) (I1.hok.fresh (Nat.le_refl _))
theorem pi_tup {l : Expr} {tl : TE} (hl : PE X l tl) : PI X tg l (iTup X.K tl) := by
  intro pins s σ H R I h
  refine thn (hl pins s σ H _ I h) fun v s1 ⟨x, H1, I1, r1, q1⟩ => ?_
  obtain ⟨a, e, ⟨xs, hq⟩, q⟩ := q1
  subst e
  cases r1
  obtain ⟨its, rv, p, hz⟩ := I1.tuple hq
  refine wpAny_pyIter_tuple (show s1.heap.IsTuple a its.toArray from p) ?_
  refine ⟨s1.heap.objs.size, [s1.heap.objs.size], _, _, H1, rfl, I1.kept (t' := s1.toks) fun b o e => Heap.get?_push_of_some _ e, turn_tuple a _, ⟨_, Heap.get?_push_size _ rfl, rfl, rfl⟩, fun b hb => ?_, q⟩
  have e : b = s1.heap.objs.size := by simpa using hb
  subst e
  exact I1.fpOk (Nat.le_refl _) (I1.hok.fresh (Nat.le_refl _))
/-- a range object just made, walked -/
theorem range_it {pins : List (Addr × Obj)} {σ : St} {H : Hp} {s : Shared} {R : It → Hp → Prop} {E : Value → Shared → Prop} {lo hi : Int} {t u v : Tok} {tk : Nat} (I : Inv X pins σ H s) (h1 : -(2 ^ 62) ≤ lo) (h2 : lo < 2 ^ 62) (h3 : -(2 ^ 62) ≤ hi) (h4 : hi < 2 ^ 62)
    (q : R (Itr lo (hi - lo).toNat) H) : wpAny (model X.prog X.w) X.A (pyIter (.ref s.heap.objs.size)) (PIE X pins σ tg R) E { s with heap := s.heap.push { cls := .type "range", data := .fields #[.int lo t, .int hi u, .int 1 v] }, toks := tk } := by
  refine wpAny_pyIter_range (IsRange.new ..) (small_one h1 h2 h3 h4) ?_
  have I1 : Inv X pins σ H { s with heap := s.heap.push { cls := .type "range", data := .fields #[.int lo t, .int hi u, .int 1 v] }, toks := tk } := I.kept fun b o e => Heap.get?_push_of_some _ e
  refine ⟨(s.heap.push { cls := .type "range", data := .fields #[.int lo t, .int hi u, .int 1 v] }).objs.size, [(s.heap.push { cls := .type "range", data := .fields #[.int lo t, .int hi u, .int 1 v] }).objs.size], _, _, H, rfl,
    I1.kept (t' := tk) fun b o e => Heap.get?_push_of_some _ e, turn_range _ lo (hi - lo).toNat, ?_, fun b hb => ?_, q⟩
  · have e1 : lo + ((0 : Nat) : Int) * 1 = lo := by simp
    have e2 : (((hi - lo).toNat : Nat) : Int) - ((0 : Nat) : Int) = Builtin.Range.rangeSize lo hi 1 := by rw [rangeSize_one]; split <;> omega
    show IsRangeIter _ _ (lo + ((0 : Nat) : Int) * 1) ((((hi - lo).toNat : Nat) : Int) - ((0 : Nat) : Int)) 1
    rw [e1, e2]
    exact Heap.get?_push_size _ rfl
  · have e : b = (s.heap.push { cls := .type "range", data := .fields #[.int lo t, .int hi u, .int 1 v] }).objs.size := by simpa using hb
    subst e
    exact I1.fpOk (Nat.le_refl _) (I1.hok.fresh (Nat.le_refl _))
def iRng1 (ta : TA) : TI := fun σ H R => ta σ H fun vs H1 => ∃ j : Int, vs = [.int j] ∧ -(2 ^ 62) ≤ j ∧ j < 2 ^ 62 ∧ R (Itr 0 j.toNat) H1
def iRng2 (ta : TA) : TI := fun σ H R => ta σ H fun vs H1 => ∃ i j : Int, vs = [.int i, .int j] ∧ (-(2 ^ 62) ≤ i ∧ i < 2 ^ 62 ∧ -(2 ^ 62) ≤ j ∧ j < 2 ^ 62) ∧ R (Itr i (j - i).toNat) H1
theorem pi_range1 {a : Expr} {ta : TA} {p pos : Pos} (hg : Gl X "range") (hm : X.mg "range" = none) (ha : PA X [a] ta) (hs : starEach [a] X.env = [(false, eval a X.env)] := by rfl) : PI X tg (.Call (.Name "range" p) [a] [] pos) (iRng1 ta) := by
  intro pins s σ H R I h
  refine Call_ (ld_blt I hg hm boot_range (PyProof.Rows.callWith_type1 (thn (ha pos pins s σ H _ I h) fun us s1 ⟨vs, H1, I1, r1, q1⟩ => ?_) hs rfl))
  obtain ⟨j, e, q1, q2, q⟩ := q1
  subst e
  cases r1 with
  | cons r rr =>
    cases rr
    obtain ⟨t, rfl⟩ := r
    exact call_range_1 (range_it I1 (by omega) (by omega) q1 q2 (by simpa using q))
theorem pi_range2 {a b : Expr} {ta : TA} {p pos : Pos} (hg : Gl X "range") (hm : X.mg "range" = none) (ha : PA X [a, b] ta) (hs : starEach [a, b] X.env = [(false, eval a X.env), (false, eval b X.env)] := by rfl) (hs2 : starEach [b] X.env = [(false, eval b X.env)] := by rfl) :
    PI X tg (.Call (.Name "range" p) [a, b] [] pos) (iRng2 ta) := by
  intro pins s σ H R I h
  refine Call_ (ld_blt I hg hm boot_range (PyProof.Rows.callWith_type1 (thn (ha pos pins s σ H _ I h) fun us s1 ⟨vs, H1, I1, r1, q1⟩ => ?_) (by rw [hs, hs2]) (by rw [hs2]; rfl)))
  obtain ⟨i, j, e, ⟨q1, q2, q3, q4⟩, q⟩ := q1
  subst e
  cases r1 with
  | cons r rr =>
    cases rr with
    | cons r' rr =>
      cases rr
      obtain ⟨t, rfl⟩ := r
      obtain ⟨t', rfl⟩ := r'
      exact call_range_2 (range_it I1 q1 q2 q3 q4 q)

/-! ### for -/
/-- W: the invariant by the turn and a measure; N: what the body is to reach -/
def tFor (wi : TI) (g : TG) (tb : TS) : TS := fun D σ H => wi σ H fun J H1 => ∃ W : Nat → Nat → St → Hp → Prop, (∃ m, W 0 m σ H1) ∧ ∀ i m σ H, W i m σ H →
  (J.stop i H ∧ D.nx σ H) ∨ (J.go i H ∧ ∃ N : St → Hp → Prop, (∀ σ' H', N σ' H' → ∃ m', m' < m ∧ W (i + 1) m' σ' H') ∧ ∀ x H', J.yld i H x H' → g x σ H' fun σ2 H2 => tb { D with nx := N, ct := N, bk := D.nx } σ2 H2)
/-- the records at fp as they stand -/
def pinsAt (fp : List Addr) (h : Heap) : List (Addr × Obj) := fp.filterMap fun b => (h.get? b).map fun o => (b, o)
theorem mem_pinsAt {fp : List Addr} {h : Heap} {b : Addr} {o : Obj} (hb : b ∈ fp) (e : h.get? b = some o) : (b, o) ∈ pinsAt fp h := List.mem_filterMap.mpr ⟨b, hb, by rw [e]; rfl⟩
theorem of_pinsAt {fp : List Addr} {h : Heap} {p : Addr × Obj} (hp : p ∈ pinsAt fp h) : p.1 ∈ fp ∧ h.get? p.1 = some p.2 := by
  obtain ⟨b, hb, e⟩ := List.mem_filterMap.mp hp
  cases q : h.get? b with
  | none => rw [q] at e; cases e
  | some o =>
    rw [q] at e
    have e' : (b, o) = p := Option.some.inj e
    subst e'
    exact ⟨hb, q⟩
theorem Inv.pinned {pins : List (Addr × Obj)} {σ : St} {H : Hp} {s : Shared} {fp : List Addr} (I : Inv X pins σ H s) (hf : ∀ b ∈ fp, FpOk X pins H b) (ho : ∀ b ∈ fp, ∃ o, s.heap.get? b = some o ∧ ∀ v, o.data ≠ .cell v) : Inv X (pins ++ pinsAt fp s.heap) σ H s :=
  I.pins_of fun p hp => (List.mem_append.mp hp).elim (fun z => I.pin p (List.mem_append_right _ z)) fun z => by
    obtain ⟨hb, e⟩ := of_pinsAt z
    obtain ⟨f0, f1, f2, _⟩ := hf p.1 hb
    obtain ⟨o, e', d⟩ := ho p.1 hb
    rw [e] at e'; cases e'
    exact ⟨e, f0, f1, f2, d⟩
theorem Inv.unpinned {pins pl : List (Addr × Obj)} {σ : St} {H : Hp} {s : Shared} (I : Inv X (pins ++ pl) σ H s) : Inv X pins σ H s := I.pins_of fun p hp => I.pin p (List.mem_append_right _ (List.mem_append_left _ hp))
theorem ps_for {iter : Expr} {body : List Stmt} {wi : TI} {g : TG} {tb : TS} {pos : Pos} (hp : PassesOwn (model X.prog X.w) X.A X.env X.xe) (hc : X.calm = true) (hi : PI X tg iter wi) (hg : PG X tg g) (hb : PSs X body tb)
    (hs : ∀ x, foldedSetIterable iter X.env x = pure x := by intro _; rfl) : PS X (.For tg iter body [] pos) (tFor wi g tb) := by
  intro pins s σ H D I h
  refine wpAny_For (thn (hi pins s σ H _ I h) fun v s1 h1 => thn h1 fun itv s2 h2 => ?_) hs
  obtain ⟨it, fp, tn, J, H2, e, I2, T, st2, f2, W, ⟨m0, w0⟩, turn⟩ := h2
  subst e
  -- what stays true of the iterator's objects through the loop
  have stat : ∀ {H' : Hp}, (∀ b ∈ fp, H' b = none) → ∀ b ∈ fp, FpOk X pins H' b := fun hn b hb => ⟨hn b hb, (f2 b hb).2⟩
  refine codeAny_forLoop_any (fun n s' => ∃ i σ' H', Inv X pins σ' H' s' ∧ tn i s'.heap ∧ (∀ b ∈ fp, H' b = none) ∧ W i n σ' H') ?_ m0 ⟨0, σ, H2, I2, st2, fun b hb => (f2 b hb).1, w0⟩
  rintro n s3 ⟨i, σ3, H3, I3, st3, fr3, w3⟩
  rcases turn i n σ3 H3 w3 with ⟨stop, qn⟩ | ⟨go, N, hN, step⟩
  · refine wpAny_passesOwn hp (thn (T.done X rfl rfl rfl hc i pins s3 σ3 H3 X.xe I3 (stat fr3) st3 stop) fun r s4 ⟨hr, I4⟩ => ?_)
    subst hr
    exact wpAny_execs_nil ⟨σ3, H3, I4, qn⟩
  · refine wpAny_passesOwn hp (thn (T.item X rfl rfl rfl hc i pins s3 σ3 H3 X.xe I3 (stat fr3) st3 go) fun r s4 ⟨u, hr, h4⟩ => ?_)
    subst hr
    refine wpAny_passesOwn hp (thn h4 fun _ s5 ⟨x, H5, I5, r5, y5, st5, fr5⟩ => ?_)
    have I5' := I5.pinned (stat fr5) (T.obj _ _ st5)
    refine wpAny_passesOwn hp (thn (hg _ s5 σ3 H5 x u _ I5' r5 (step x H5 y5)) fun _ s6 ⟨σ6, H6, I6, q6⟩ => ?_)
    refine wpAny_passesOwn hp (thn (hb _ s6 σ6 H6 _ I6 q6) fun f s7 q7 => ?_)
    have again : ∀ {σ7 : St} {H7 : Hp}, Inv X (pins ++ pinsAt fp s5.heap) σ7 H7 s7 → N σ7 H7 → ∃ m, m < n ∧ ∃ i σ' H', Inv X pins σ' H' s7 ∧ tn i s7.heap ∧ (∀ b ∈ fp, H' b = none) ∧ W i m σ' H' := fun {σ7 H7} I7 n7 => by
      obtain ⟨m', hm, w7⟩ := hN σ7 H7 n7
      refine ⟨m', hm, i + 1, σ7, H7, I7.unpinned, T.keep _ _ _ st5 fun b hb o e => (I7.pin (b, o) (List.mem_append_right _ (List.mem_append_right _ (mem_pinsAt hb e)))).1, fun b hb => ?_, w7⟩
      obtain ⟨o, e, d⟩ := T.obj _ _ st5 b hb
      exact (I7.pin (b, o) (List.mem_append_right _ (List.mem_append_right _ (mem_pinsAt hb e)))).2.1
    cases f with
    | next => obtain ⟨σ7, H7, I7, n7⟩ := q7; exact again I7 n7
    | cont => obtain ⟨σ7, H7, I7, n7⟩ := q7; exact again I7 n7
    | brk => obtain ⟨σ7, H7, I7, q7⟩ := q7; exact ⟨σ7, H7, I7.unpinned, q7⟩
    | ret v => obtain ⟨x7, σ7, H7, I7, r7, q7⟩ := q7; exact ⟨x7, σ7, H7, I7.unpinned, r7, q7⟩
end

/-! ### the forms one uses -/
/-- over a list that the body leaves as it is -/
theorem for_list {K : PySem.W.Frag} {a : Addr} {xs : List V} {g : TG} {tb : TS} {D : Ends} {σ : St} {H : Hp} (Pv : Nat → St → Hp → Prop) (h0 : Pv 0 σ H) (hl : ∀ i σ H, i ≤ xs.length → Pv i σ H → SqL K H a xs)
    (hs : ∀ i x σ H, xs[i]? = some x → Pv i σ H → g x σ H fun σ2 H2 => tb { D with nx := Pv (i + 1), ct := Pv (i + 1), bk := D.nx } σ2 H2) (hd : ∀ σ H, Pv xs.length σ H → D.nx σ H) :
    ∃ W : Nat → Nat → St → Hp → Prop, (∃ m, W 0 m σ H) ∧ ∀ i m σ H, W i m σ H →
      ((Itl K a).stop i H ∧ D.nx σ H) ∨ ((Itl K a).go i H ∧ ∃ N : St → Hp → Prop, (∀ σ' H', N σ' H' → ∃ m', m' < m ∧ W (i + 1) m' σ' H') ∧ ∀ x H', (Itl K a).yld i H x H' → g x σ H' fun σ2 H2 => tb { D with nx := N, ct := N, bk := D.nx } σ2 H2) := by
  refine ⟨fun i m σ H => m = xs.length - i ∧ i ≤ xs.length ∧ Pv i σ H, ⟨xs.length, by simp, Nat.zero_le _, h0⟩, ?_⟩
  rintro i m σ H ⟨rfl, hi, p⟩
  have q := hl i σ H hi p
  by_cases hlt : i < xs.length
  · refine .inr ⟨⟨xs, xs[i], q, by simp [hlt]⟩, Pv (i + 1), fun σ' H' p' => ⟨xs.length - (i + 1), by omega, rfl, hlt, p'⟩, fun x H' y => ?_⟩
    obtain ⟨e, y⟩ := y
    subst e
    exact hs i x σ _ (y xs q) p
  · have e : i = xs.length := by omega
    subst e
    exact .inl ⟨⟨xs, q, Nat.le_refl _⟩, hd σ H p⟩
theorem for_tup {K : PySem.W.Frag} {a : Addr} {xs : List V} {g : TG} {tb : TS} {D : Ends} {σ : St} {H : Hp} (Pv : Nat → St → Hp → Prop) (h0 : Pv 0 σ H) (hl : ∀ i σ H, i ≤ xs.length → Pv i σ H → SqT K H a xs)
    (hs : ∀ i x σ H, xs[i]? = some x → Pv i σ H → g x σ H fun σ2 H2 => tb { D with nx := Pv (i + 1), ct := Pv (i + 1), bk := D.nx } σ2 H2) (hd : ∀ σ H, Pv xs.length σ H → D.nx σ H) :
    ∃ W : Nat → Nat → St → Hp → Prop, (∃ m, W 0 m σ H) ∧ ∀ i m σ H, W i m σ H →
      ((Itt K a).stop i H ∧ D.nx σ H) ∨ ((Itt K a).go i H ∧ ∃ N : St → Hp → Prop, (∀ σ' H', N σ' H' → ∃ m', m' < m ∧ W (i + 1) m' σ' H') ∧ ∀ x H', (Itt K a).yld i H x H' → g x σ H' fun σ2 H2 => tb { D with nx := N, ct := N, bk := D.nx } σ2 H2) := by
  refine ⟨fun i m σ H => m = xs.length - i ∧ i ≤ xs.length ∧ Pv i σ H, ⟨xs.length, by simp, Nat.zero_le _, h0⟩, ?_⟩
  rintro i m σ H ⟨rfl, hi, p⟩
  have q := hl i σ H hi p
  by_cases hlt : i < xs.length
  · refine .inr ⟨⟨xs, xs[i], q, by simp [hlt]⟩, Pv (i + 1), fun σ' H' p' => ⟨xs.length - (i + 1), by omega, rfl, hlt, p'⟩, fun x H' y => ?_⟩
    obtain ⟨e, y⟩ := y
    subst e
    exact hs i x σ _ (y xs q) p
  · have e : i = xs.length := by omega
    subst e
    exact .inl ⟨⟨xs, q, Nat.le_refl _⟩, hd σ H p⟩
theorem for_range {lo : Int} {n : Nat} {g : TG} {tb : TS} {D : Ends} {σ : St} {H : Hp} (Pv : Nat → St → Hp → Prop) (h0 : Pv 0 σ H)
    (hs : ∀ i σ H, i < n → Pv i σ H → g (.int (lo + i)) σ H fun σ2 H2 => tb { D with nx := Pv (i + 1), ct := Pv (i + 1), bk := D.nx } σ2 H2) (hd : ∀ σ H, Pv n σ H → D.nx σ H) :
    ∃ W : Nat → Nat → St → Hp → Prop, (∃ m, W 0 m σ H) ∧ ∀ i m σ H, W i m σ H →
      ((Itr lo n).stop i H ∧ D.nx σ H) ∨ ((Itr lo n).go i H ∧ ∃ N : St → Hp → Prop, (∀ σ' H', N σ' H' → ∃ m', m' < m ∧ W (i + 1) m' σ' H') ∧ ∀ x H', (Itr lo n).yld i H x H' → g x σ H' fun σ2 H2 => tb { D with nx := N, ct := N, bk := D.nx } σ2 H2) := by
  refine ⟨fun i m σ H => m = n - i ∧ i ≤ n ∧ Pv i σ H, ⟨n, by simp, Nat.zero_le _, h0⟩, ?_⟩
  rintro i m σ H ⟨rfl, hi, p⟩
  by_cases hlt : i < n
  · refine .inr ⟨hlt, Pv (i + 1), fun σ' H' p' => ⟨n - (i + 1), by omega, rfl, hlt, p'⟩, fun x H' y => ?_⟩
    obtain ⟨e, y⟩ := y
    subst e y
    exact hs i σ _ hlt p
  · have e : i = n := by omega
    subst e
    exact .inl ⟨Nat.le_refl _, hd σ H p⟩
/-- while, by a word and a measure of the state -/
theorem while_by {c : TT} {tb : TS} {D : Ends} {σ : St} {H : Hp} (Pv : St → Hp → Prop) (μ : St → Hp → Nat) (h0 : Pv σ H)
    (hs : ∀ σ H, Pv σ H → c σ H fun b H1 => if b = true then tb { D with nx := fun σ' H' => Pv σ' H' ∧ μ σ' H' < μ σ H, ct := fun σ' H' => Pv σ' H' ∧ μ σ' H' < μ σ H, bk := D.nx } σ H1 else D.nx σ H1)
    (mono : ∀ σ H Q Q', (∀ b H1, Q b H1 → Q' b H1) → c σ H Q → c σ H Q') : tWhile c tb D σ H := by
  refine ⟨fun m σ H => m = μ σ H ∧ Pv σ H, ⟨_, rfl, h0⟩, ?_⟩
  rintro m σ H ⟨rfl, p⟩
  refine mono σ H _ _ (fun b H1 q => ?_) (hs σ H p)
  cases b with
  | true => exact ⟨_, fun σ' H' ⟨p', l⟩ => ⟨_, l, rfl, p'⟩, q⟩
  | false => exact q
end L2

namespace L2
open PySem PySem.Spec PyProof.Rows

abbrev R2 := V → V → Hp → VK → Prop
/-- a two-place operation on values: f is binaryOp op, inplaceOp op or compareOp op -/
def OpR (X : Cx) (f : Value → Value → Sem Value) (r : R2) : Prop :=
  ∀ (pins : List (Addr × Obj)) (s : Shared) (σ : St) (H : Hp) (x y : V) (v u : Value) (Q : VK), Inv X pins σ H s → RelV x v → RelV y u → r x y H Q →
    wpAny (model X.prog X.w) X.A (f v u) (EP X pins σ Q) X.xe s
/-- a one-place operation -/
def UnR (X : Cx) (f : Value → Sem Value) (r : V → Hp → VK → Prop) : Prop :=
  ∀ (pins : List (Addr × Obj)) (s : Shared) (σ : St) (H : Hp) (x : V) (v : Value) (Q : VK), Inv X pins σ H s → RelV x v → r x H Q →
    wpAny (model X.prog X.w) X.A (f v) (EP X pins σ Q) X.xe s
/-- a call of a value that is known (a builtin, a type) with values -/
def CallR (X : Cx) (f : Value) (r : List V → Hp → VK → Prop) : Prop :=
  ∀ (pins : List (Addr × Obj)) (s : Shared) (σ : St) (H : Hp) (xs : List V) (us : List Value) (Q : VK), Inv X pins σ H s → Vals xs us → r xs H Q →
    wpAny (model X.prog X.w) X.A (call f us) (EP X pins σ Q) X.xe s
/-- a value's truth -/
def TruR (X : Cx) (r : V → Hp → (Bool → Hp → Prop) → Prop) : Prop :=
  ∀ (pins : List (Addr × Obj)) (s : Shared) (σ : St) (H : Hp) (x : V) (v : Value) (Q : Bool → Hp → Prop), Inv X pins σ H s → RelV x v → r x H Q →
    wpAny (model X.prog X.w) X.A (truthy v) (TP X pins σ Q) X.xe s

def tOp (r : R2) (ta tb : TE) : TE := fun σ H Q => ta σ H fun x H1 => tb σ H1 fun y H2 => r x y H2 Q
def tUn (r : V → Hp → VK → Prop) (ta : TE) : TE := fun σ H Q => ta σ H fun x H1 => r x H1 Q
/-- ints in, under C, and a value out -/
def rI (C : Int → Int → Prop) (g : Int → Int → V) : R2 := fun x y H Q => ∃ i j, x = .int i ∧ y = .int j ∧ C i j ∧ Q (g i j) H
def rI0 (g : Int → Int → V) : R2 := fun x y H Q => ∃ i j, x = .int i ∧ y = .int j ∧ Q (g i j) H
def rU (g : Int → V) : V → Hp → VK → Prop := fun x H Q => ∃ i, x = .int i ∧ Q (g i) H

section
variable {X : Cx} {a b c : Expr} {ta tb tc : TE} {pos : Pos}

theorem binT (ha : PE X a ta) (hb : PE X b tb) {pins : List (Addr × Obj)} {s : Shared} {σ : St} {H : Hp} {R : V → V → Hp → Prop} (I : Inv X pins σ H s)
    (h : ta σ H fun x H1 => tb σ H1 fun y H2 => R x y H2) {Q : Value → Shared → Prop} {f : Value → Value → Sem Value}
    (hf : ∀ v u s2 x y H2, Inv X pins σ H2 s2 → RelV x v → RelV y u → R x y H2 → wpAny (model X.prog X.w) X.A (f v u) Q X.xe s2) :
    wpAny (model X.prog X.w) X.A (eval a X.env) (fun v s₁ => wpAny (model X.prog X.w) X.A (eval b X.env) (fun u s₂ => wpAny (model X.prog X.w) X.A (f v u) Q X.xe s₂) X.xe s₁) X.xe s := by
  refine thn (ha pins s σ H _ I h) fun v s1 ⟨x, H1, I1, r1, q1⟩ => ?_
  refine thn (hb pins s1 σ H1 _ I1 q1) fun u s2 ⟨y, H2, I2, r2, q2⟩ => ?_
  exact hf v u s2 x y H2 I2 r1 r2 q2

theorem pe_op {op : Operator} {r : R2} (ho : OpR X (binaryOp op) r) (ha : PE X a ta) (hb : PE X b tb) : PE X (.BinOp a op b pos) (tOp r ta tb) := by
  intro pins s σ H Q I h
  exact wpAny_BinOp (binT ha hb I h fun v u s2 x y H2 I2 rx ry q => ho pins s2 σ H2 x y v u Q I2 rx ry q)
theorem pe_un {op : UnaryOp} {r : V → Hp → VK → Prop} (ho : UnR X (unaryOp op) r) (ha : PE X a ta) : PE X (.UnaryOp op a pos) (tUn r ta) := by
  intro pins s σ H Q I h
  exact UnaryOp_ (thn (ha pins s σ H _ I h) fun v s1 ⟨x, H1, I1, r1, q1⟩ => ho pins s1 σ H1 x v Q I1 r1 q1)
/-- a op= e at a name: the name's slot i -/
theorem augR {op : Operator} {r : R2} (ho : OpR X (inplaceOp op) r) {pins : List (Addr × Obj)} {s : Shared} {σ : St} {H : Hp} {x y : V} {v u : Value} {Q : VK} (I : Inv X pins σ H s)
    (rx : RelV x v) (ry : RelV y u) (q : r x y H Q) : wpAny (model X.prog X.w) X.A (inplaceOp op v u) (EP X pins σ Q) X.xe s := ho pins s σ H x y v u Q I rx ry q

/-! ### ints -/
theorem opI {f : Value → Value → Sem Value} {C : Int → Int → Prop} {g : Int → Int → Int}
    (rule : ∀ (i j : Int) (t u : Tok) (s : Shared) (Q : Value → Shared → Prop) (E : Value → Shared → Prop), C i j → Q (.int (g i j) s.toks) { s with toks := s.toks + 1 } → wpAny (model X.prog X.w) X.A (f (.int i t) (.int j u)) Q E s) :
    OpR X f (rI C fun i j => .int (g i j)) := by
  intro pins s σ H x y v u Q I rx ry h
  obtain ⟨i, j, rfl, rfl, hc, q⟩ := h
  obtain ⟨t, rfl⟩ := rx
  obtain ⟨t', rfl⟩ := ry
  exact rule i j t t' s _ _ hc ⟨.int (g i j), H, I.tok _, ⟨_, rfl⟩, q⟩
theorem opI0 {f : Value → Value → Sem Value} {g : Int → Int → Int}
    (rule : ∀ (i j : Int) (t u : Tok) (s : Shared) (Q : Value → Shared → Prop) (E : Value → Shared → Prop), Q (.int (g i j) s.toks) { s with toks := s.toks + 1 } → wpAny (model X.prog X.w) X.A (f (.int i t) (.int j u)) Q E s) :
    OpR X f (rI0 fun i j => .int (g i j)) := by
  intro pins s σ H x y v u Q I rx ry h
  obtain ⟨i, j, rfl, rfl, q⟩ := h
  obtain ⟨t, rfl⟩ := rx
  obtain ⟨t', rfl⟩ := ry
  exact rule i j t t' s _ _ ⟨.int (g i j), H, I.tok _, ⟨_, rfl⟩, q⟩
theorem opB0 {f : Value → Value → Sem Value} {g : Int → Int → Bool}
    (rule : ∀ (i j : Int) (t u : Tok) (s : Shared) (Q : Value → Shared → Prop) (E : Value → Shared → Prop), Q (.bool (g i j)) s → wpAny (model X.prog X.w) X.A (f (.int i t) (.int j u)) Q E s) :
    OpR X f (rI0 fun i j => .bl (g i j)) := by
  intro pins s σ H x y v u Q I rx ry h
  obtain ⟨i, j, rfl, rfl, q⟩ := h
  obtain ⟨t, rfl⟩ := rx
  obtain ⟨t', rfl⟩ := ry
  exact rule i j t t' s _ _ ⟨.bl (g i j), H, I, rfl, q⟩

def CDiv (i j : Int) : Prop := 0 < j ∧ j < 1073741824
def CDivN (i j : Int) : Prop := j ≠ 0 ∧ j.natAbs < 1073741824
def CPow (i j : Int) : Prop := 0 ≤ j ∧ j ≤ 1000000 ∧ i.natAbs < 2 ^ 64
def CMul (i j : Int) : Prop := (-(2 ^ 64) < i ∧ i < 2 ^ 64) ∨ (-(2 ^ 64) < j ∧ j < 2 ^ 64)
theorem CMul.ok {i j : Int} (h : CMul i j) : IntMulOk i j := by
  rcases h with ⟨h1, h2⟩ | ⟨h1, h2⟩
  · exact .of_left (intBits_le_64 h1 h2)
  · exact .of_right (intBits_le_64 h1 h2)
theorem two_pow_nn (k : Nat) : (0 : Int) ≤ 2 ^ k := by
  rw [two_pow_cast]
  exact Int.natCast_nonneg _

theorem op_add : OpR X (binaryOp .Add) (rI0 fun i j => .int (i + j)) := opI0 fun _ _ _ _ _ _ _ q => add_int q
theorem op_sub : OpR X (binaryOp .Sub) (rI0 fun i j => .int (i - j)) := opI0 fun _ _ _ _ _ _ _ q => sub_int q
theorem op_mul : OpR X (binaryOp .Mult) (rI CMul fun i j => .int (i * j)) := opI fun _ _ _ _ _ _ _ hc q => mul_int q hc.ok
/-- // by a positive divisor -/
theorem op_fdiv : OpR X (binaryOp .FloorDiv) (rI CDiv fun i j => .int (i / j)) := opI fun i j _ _ _ _ _ hc q => by
  have h1 : (0 : Int) < j := hc.1
  have h2 : j < 1073741824 := hc.2
  exact floordiv_int (by omega) (by rw [Int.fdiv_eq_ediv_of_nonneg i (by omega)]; exact q) (.inl (PyProof.noPylong_small (by omega)))
theorem op_fdivN : OpR X (binaryOp .FloorDiv) (rI CDivN fun i j => .int (i.fdiv j)) := opI fun _ _ _ _ _ _ _ hc q => floordiv_int hc.1 q (.inl (PyProof.noPylong_small hc.2))
/-- % by a positive divisor of any size -/
theorem op_mod : OpR X (binaryOp .Mod) (rI (fun _ j => 0 < j) fun i j => .int (i % j)) := opI fun i j _ _ _ _ _ hc q => by
  have h1 : (0 : Int) < j := hc
  exact mod_int' (by omega) (by rw [Int.fmod_eq_emod_of_nonneg i (by omega)]; exact q)
theorem op_modN : OpR X (binaryOp .Mod) (rI (fun _ j => j ≠ 0) fun i j => .int (i.fmod j)) := opI fun _ _ _ _ _ _ _ hc q => mod_int' hc q
theorem op_pow : OpR X (binaryOp .Pow) (rI CPow fun i j => .int (i ^ j.toNat)) := opI fun _ _ _ _ _ _ _ hc q => pow_int_small hc.1 hc.2.1 hc.2.2 q
theorem op_shl : OpR X (binaryOp .LShift) (rI CPow fun i j => .int (i * 2 ^ j.toNat)) := opI fun _ _ _ _ _ _ _ hc q => lshift_int_small hc.1 hc.2.1 hc.2.2 q
theorem op_shr : OpR X (binaryOp .RShift) (rI (fun _ j => 0 ≤ j) fun i j => .int (i / 2 ^ j.toNat)) := opI fun i j _ _ _ _ _ hc q =>
  rshift_int hc (by rw [Int.fdiv_eq_ediv_of_nonneg i (two_pow_nn _)]; exact q)
theorem op_and : OpR X (binaryOp .BitAnd) (rI0 fun i j => .int (Builtin.bitAnd i j)) := opI0 fun _ _ _ _ _ _ _ q => and_int q
theorem op_or : OpR X (binaryOp .BitOr) (rI0 fun i j => .int (Builtin.bitOr i j)) := opI0 fun _ _ _ _ _ _ _ q => or_int q
theorem op_xor : OpR X (binaryOp .BitXor) (rI0 fun i j => .int (Builtin.bitXor i j)) := opI0 fun _ _ _ _ _ _ _ q => xor_int q

theorem iop_add : OpR X (inplaceOp .Add) (rI0 fun i j => .int (i + j)) := opI0 fun _ _ _ _ _ _ _ q => iadd_int q
theorem iop_sub : OpR X (inplaceOp .Sub) (rI0 fun i j => .int (i - j)) := opI0 fun _ _ _ _ _ _ _ q => isub_int q
theorem iop_mul : OpR X (inplaceOp .Mult) (rI CMul fun i j => .int (i * j)) := opI fun _ _ _ _ _ _ _ hc q => imul_int q hc.ok
theorem iop_fdiv : OpR X (inplaceOp .FloorDiv) (rI CDiv fun i j => .int (i / j)) := opI fun i j _ _ _ _ _ hc q => by
  have h1 : (0 : Int) < j := hc.1
  have h2 : j < 1073741824 := hc.2
  exact ifloordiv_int (by omega) (by rw [Int.fdiv_eq_ediv_of_nonneg i (by omega)]; exact q) (.inl (PyProof.noPylong_small (by omega)))
theorem iop_mod : OpR X (inplaceOp .Mod) (rI (fun _ j => 0 < j) fun i j => .int (i % j)) := opI fun i j _ _ _ _ _ hc q => by
  have h1 : (0 : Int) < j := hc
  exact imod_int (by omega) (by rw [Int.fmod_eq_emod_of_nonneg i (by omega)]; exact q)
theorem iop_shl : OpR X (inplaceOp .LShift) (rI CPow fun i j => .int (i * 2 ^ j.toNat)) := opI fun _ _ _ _ _ _ _ hc q => ilshift_int_small hc.1 hc.2.1 hc.2.2 q
theorem iop_shr : OpR X (inplaceOp .RShift) (rI (fun _ j => 0 ≤ j) fun i j => .int (i / 2 ^ j.toNat)) := opI fun i j _ _ _ _ _ hc q =>
  irshift_int hc (by rw [Int.fdiv_eq_ediv_of_nonneg i (two_pow_nn _)]; exact q)
theorem iop_and : OpR X (inplaceOp .BitAnd) (rI0 fun i j => .int (Builtin.bitAnd i j)) := opI0 fun _ _ _ _ _ _ _ q => iand_int q
theorem iop_or : OpR X (inplaceOp .BitOr) (rI0 fun i j => .int (Builtin.bitOr i j)) := opI0 fun _ _ _ _ _ _ _ q => ior_int q
theorem iop_xor : OpR X (inplaceOp .BitXor) (rI0 fun i j => .int (Builtin.bitXor i j)) := opI0 fun _ _ _ _ _ _ _ q => ixor_int q

theorem unI {f : Value → Sem Value} {g : Int → Int}
    (rule : ∀ (i : Int) (t : Tok) (s : Shared) (Q : Value → Shared → Prop) (E : Value → Shared → Prop), Q (.int (g i) s.toks) { s with toks := s.toks + 1 } → wpAny (model X.prog X.w) X.A (f (.int i t)) Q E s) :
    UnR X f (rU fun i => .int (g i)) := by
  intro pins s σ H x v Q I rx h
  obtain ⟨i, rfl, q⟩ := h
  obtain ⟨t, rfl⟩ := rx
  exact rule i t s _ _ ⟨.int (g i), H, I.tok _, ⟨_, rfl⟩, q⟩
theorem un_neg : UnR X (unaryOp .USub) (rU fun i => .int (-i)) := unI fun _ _ _ _ _ q => neg_int q
theorem un_inv : UnR X (unaryOp .Invert) (rU fun i => .int (Builtin.bitNot i)) := unI fun _ _ _ _ _ q => invert_int q

/-! ### bools among ints: n += (a < b) -/
theorem op_add_ib : OpR X (binaryOp .Add) (fun x y H Q => ∃ i k, x = .int i ∧ y = .bl k ∧ Q (.int (i + b2i k)) H) := by
  intro pins s σ H x y v u Q I rx ry h
  obtain ⟨i, k, rfl, rfl, q⟩ := h
  obtain ⟨t, rfl⟩ := rx
  cases ry
  exact add_int_bool ⟨.int (i + b2i k), H, I.tok _, ⟨_, rfl⟩, q⟩
end

/-! ### comparisons -/
/-- the scalars that == tells apart as data does -/
def scal : V → V → Bool
  | .non, .non => true | .non, .int _ => true | .int _, .non => true | .non, .bl _ => true | .bl _, .non => true | .non, .str _ => true | .str _, .non => true
  | .int _, .int _ => true | .bl _, .bl _ => true | .str _, .str _ => true | .byt _, .byt _ => true
  | .int _, .str _ => true | .str _, .int _ => true | .bl _, .str _ => true | .str _, .bl _ => true
  | _, _ => false
def rEq : R2 := fun x y H Q => scal x y = true ∧ Q (.bl (decide (x = y))) H
def rNe : R2 := fun x y H Q => scal x y = true ∧ Q (.bl (!decide (x = y))) H

theorem dec_int {i j : Int} : decide (V.int i = V.int j) = (i == j) := by
  rw [Bool.eq_iff_iff]
  simp
theorem dec_bl {i j : Bool} : decide (V.bl i = V.bl j) = (i == j) := by
  rw [Bool.eq_iff_iff]
  simp
theorem dec_str {i j : Str} : decide (V.str i = V.str j) = (i == j) := by
  rw [Bool.eq_iff_iff]
  simp
theorem dec_byt {i j : Array UInt8} : decide (V.byt i = V.byt j) = (i.toList == j.toList) := by
  rw [Bool.eq_iff_iff]
  cases i
  cases j
  simp

section
variable {X : Cx} {a b c : Expr} {ta tb tc : TE} {pos : Pos}
theorem fin_bl {pins : List (Addr × Obj)} {σ : St} {H : Hp} {s : Shared} {Q : VK} {k k' : Bool} (I : Inv X pins σ H s) (q : Q (.bl k) H) (e : k = k') : EP X pins σ Q (.bool k') s := by
  subst e
  exact ⟨.bl k, H, I, rfl, q⟩
theorem op_eq : OpR X (compareOp .Eq) rEq := by
  intro pins s σ H x y v u Q I rx ry h
  obtain ⟨hs, q⟩ := h
  cases x with
  | non =>
    cases rx
    cases y with
    | non => cases ry; exact PySem.EqNone.eq_none_none (fin_bl I q (by simp))
    | bl j => cases ry; exact PySem.EqNone.eq_none_bool (fin_bl I q (by simp))
    | int j => obtain ⟨t', rfl⟩ := ry; exact PySem.EqNone.eq_none_int (fin_bl I q (by simp))
    | str j => obtain ⟨t', rfl⟩ := ry; exact PySem.EqNone.eq_none_str (fin_bl I q (by simp))
    | _ => exact absurd (show false = true from hs) Bool.false_ne_true
  | bl i =>
    cases rx
    cases y with
    | non => cases ry; exact PySem.EqNone.eq_bool_none (fin_bl I q (by simp))
    | bl j => cases ry; exact eq_bool (fin_bl I q dec_bl)
    | str j => obtain ⟨t', rfl⟩ := ry; exact PySem.EqMixed.eq_bool_str (fin_bl I q (by simp))
    | _ => exact absurd (show false = true from hs) Bool.false_ne_true
  | int i =>
    obtain ⟨t, rfl⟩ := rx
    cases y with
    | non => cases ry; exact PySem.EqNone.eq_int_none (fin_bl I q (by simp))
    | int j => obtain ⟨t', rfl⟩ := ry; exact eq_int (fin_bl I q dec_int)
    | str j => obtain ⟨t', rfl⟩ := ry; exact PySem.EqMixed.eq_int_str (fin_bl I q (by simp))
    | _ => exact absurd (show false = true from hs) Bool.false_ne_true
  | str i =>
    obtain ⟨t, rfl⟩ := rx
    cases y with
    | non => cases ry; exact PySem.EqNone.eq_str_none (fin_bl I q (by simp))
    | bl j => cases ry; exact PySem.EqMixed.eq_str_bool (fin_bl I q (by simp))
    | int j => obtain ⟨t', rfl⟩ := ry; exact PySem.EqMixed.eq_str_int (fin_bl I q (by simp))
    | str j => obtain ⟨t', rfl⟩ := ry; exact eq_str (fin_bl I q dec_str)
    | _ => exact absurd (show false = true from hs) Bool.false_ne_true
  | byt i =>
    obtain ⟨t, rfl⟩ := rx
    cases y with
    | byt j => obtain ⟨t', rfl⟩ := ry; exact PySem.W.eq_bytes (fin_bl I q dec_byt)
    | _ => exact absurd (show false = true from hs) Bool.false_ne_true
  | _ => cases y <;> exact absurd (show false = true from hs) Bool.false_ne_true
theorem op_ne : OpR X (compareOp .NotEq) rNe := by
  intro pins s σ H x y v u Q I rx ry h
  obtain ⟨hs, q⟩ := h
  cases x with
  | non =>
    cases rx
    cases y with
    | non => cases ry; exact PySem.EqNone.ne_none_none (fin_bl I q (by simp))
    | bl j => cases ry; exact PySem.EqNone.ne_none_bool (fin_bl I q (by simp))
    | int j => obtain ⟨t', rfl⟩ := ry; exact PySem.EqNone.ne_none_int (fin_bl I q (by simp))
    | str j => obtain ⟨t', rfl⟩ := ry; exact PySem.EqNone.ne_none_str (fin_bl I q (by simp))
    | _ => exact absurd (show false = true from hs) Bool.false_ne_true
  | bl i =>
    cases rx
    cases y with
    | non => cases ry; exact PySem.EqNone.ne_bool_none (fin_bl I q (by simp))
    | bl j => cases ry; exact ne_bool (fin_bl I q (congrArg not dec_bl))
    | str j => obtain ⟨t', rfl⟩ := ry; exact PySem.EqMixed.ne_bool_str (fin_bl I q (by simp))
    | _ => exact absurd (show false = true from hs) Bool.false_ne_true
  | int i =>
    obtain ⟨t, rfl⟩ := rx
    cases y with
    | non => cases ry; exact PySem.EqNone.ne_int_none (fin_bl I q (by simp))
    | int j => obtain ⟨t', rfl⟩ := ry; exact ne_int (fin_bl I q (congrArg not dec_int))
    | str j => obtain ⟨t', rfl⟩ := ry; exact PySem.EqMixed.ne_int_str (fin_bl I q (by simp))
    | _ => exact absurd (show false = true from hs) Bool.false_ne_true
  | str i =>
    obtain ⟨t, rfl⟩ := rx
    cases y with
    | non => cases ry; exact PySem.EqNone.ne_str_none (fin_bl I q (by simp))
    | bl j => cases ry; exact PySem.EqMixed.ne_str_bool (fin_bl I q (by simp))
    | int j => obtain ⟨t', rfl⟩ := ry; exact PySem.EqMixed.ne_str_int (fin_bl I q (by simp))
    | str j => obtain ⟨t', rfl⟩ := ry; exact ne_str (fin_bl I q (congrArg not dec_str))
    | _ => exact absurd (show false = true from hs) Bool.false_ne_true
  | byt i =>
    obtain ⟨t, rfl⟩ := rx
    cases y with
    | byt j => obtain ⟨t', rfl⟩ := ry; exact PySem.W.ne_bytes (fin_bl I q (congrArg not dec_byt))
    | _ => exact absurd (show false = true from hs) Bool.false_ne_true
  | _ => cases y <;> exact absurd (show false = true from hs) Bool.false_ne_true

theorem op_lt : OpR X (compareOp .Lt) (rI0 fun i j => .bl (decide (i < j))) := opB0 fun _ _ _ _ _ _ _ q => lt_int q
theorem op_le : OpR X (compareOp .LtE) (rI0 fun i j => .bl (decide (i ≤ j))) := opB0 fun _ _ _ _ _ _ _ q => le_int q
theorem op_gt : OpR X (compareOp .Gt) (rI0 fun i j => .bl (decide (j < i))) := opB0 fun _ _ _ _ _ _ _ q => gt_int q
theorem op_ge : OpR X (compareOp .GtE) (rI0 fun i j => .bl (decide (j ≤ i))) := opB0 fun _ _ _ _ _ _ _ q => ge_int q
theorem op_lt_str : OpR X (compareOp .Lt) (fun x y H Q => ∃ i j, x = .str i ∧ y = .str j ∧ Q (.bl (decide (i.cps.toList < j.cps.toList))) H) := by
  intro pins s σ H x y v u Q I rx ry h
  obtain ⟨i, j, rfl, rfl, q⟩ := h
  obtain ⟨t, rfl⟩ := rx
  obtain ⟨t', rfl⟩ := ry
  exact lt_str (fin_bl I q rfl)
/-- the one string within the other -/
theorem op_in_str : OpR X (compareOp .In) (fun x y H Q => ∃ i j, x = .str i ∧ y = .str j ∧ Q (.bl (!(Builtin.Str.occurrences j i 0 j.length 1).isEmpty)) H) := by
  intro pins s σ H x y v u Q I rx ry h
  obtain ⟨i, j, rfl, rfl, q⟩ := h
  obtain ⟨t, rfl⟩ := rx
  obtain ⟨t', rfl⟩ := ry
  exact in_str (fin_bl I q rfl)

/-- is None, is not None: the right side a value none -/
theorem op_isN : OpR X (compareOp .Is) (fun x y H Q => y = .non ∧ Q (.bl (decide (x = .non))) H) := by
  intro pins s σ H x y v u Q I rx ry h
  obtain ⟨rfl, q⟩ := h
  cases ry
  refine is_none_gen (fin_bl I q ?_)
  cases x <;> first
    | (cases rx; rfl)
    | (obtain ⟨t, rfl⟩ := rx; rfl)
theorem op_notN : OpR X (compareOp .IsNot) (fun x y H Q => y = .non ∧ Q (.bl (!decide (x = .non))) H) := by
  intro pins s σ H x y v u Q I rx ry h
  obtain ⟨rfl, q⟩ := h
  cases ry
  refine isnot_none_gen (fin_bl I q ?_)
  cases x <;> first
    | (cases rx; rfl)
    | (obtain ⟨t, rfl⟩ := rx; rfl)

theorem op_notin_str : OpR X (compareOp .NotIn) (fun x y H Q => ∃ i j, x = .str i ∧ y = .str j ∧ Q (.bl (!(!(Builtin.Str.occurrences j i 0 j.length 1).isEmpty))) H) := by
  intro pins s σ H x y v u Q I rx ry h
  obtain ⟨i, j, rfl, rfl, q⟩ := h
  obtain ⟨t, rfl⟩ := rx
  obtain ⟨t', rfl⟩ := ry
  exact notIn_str (fin_bl I q rfl)
/-- is, is not of two objects that are tracked lists or instances -/
def isObj : HO → Bool
  | .lst _ => true
  | .ins _ _ _ => true
  | _ => false
theorem obj_there {pins : List (Addr × Obj)} {s : Shared} {σ : St} {H : Hp} {a : Addr} {o : HO} (I : Inv X pins σ H s) (h : H a = some o) (p : isObj o = true) : ∃ ob, s.heap.get? a = some ob ∧ ob.cls ≠ .type "tuple" := by
  cases o with
  | lst xs =>
    obtain ⟨_, its, n, _, e⟩ : xs.length ≤ sizeLine ∧ ∃ (its : List Value) (n : Nat), Vals xs its ∧ s.heap.get? a = some { cls := .type "list", data := .seq its.toArray n } := I.hok a _ h
    exact ⟨_, e, (by show Value.type "list" ≠ .type "tuple"; decide +kernel)⟩
  | ins C dx fs =>
    have x := I.hok a _ h
    obtain ⟨_, _, _, e, _⟩ := x
    exact ⟨_, e, (by show Value.ref C ≠ .type "tuple"; exact fun z => by cases z)⟩
  | _ => exact absurd (show false = true from p) Bool.false_ne_true
theorem op_is_ref : OpR X (compareOp .Is) (fun x y H Q => ∃ a b oa ob, x = .ref a ∧ y = .ref b ∧ H a = some oa ∧ isObj oa = true ∧ H b = some ob ∧ isObj ob = true ∧ Q (.bl (decide (a = b))) H) := by
  intro pins s σ H x y v u Q I rx ry h
  obtain ⟨a, b, oa, ob, rfl, rfl, ha, pa, hb, pb, q⟩ := h
  cases rx
  cases ry
  obtain ⟨o1, e1, n1⟩ := obj_there I ha pa
  obtain ⟨o2, e2, _⟩ := obj_there I hb pb
  by_cases z : a = b
  · subst z
    exact wpAny_is_ref_self (fin_bl I q (by simp))
  · exact wpAny_is_ref_other z e1 e2 n1 (fin_bl I q (by simp [z]))
theorem op_isnot_ref : OpR X (compareOp .IsNot) (fun x y H Q => ∃ a b oa ob, x = .ref a ∧ y = .ref b ∧ H a = some oa ∧ isObj oa = true ∧ H b = some ob ∧ isObj ob = true ∧ Q (.bl (!decide (a = b))) H) := by
  intro pins s σ H x y v u Q I rx ry h
  obtain ⟨a, b, oa, ob, rfl, rfl, ha, pa, hb, pb, q⟩ := h
  cases rx
  cases ry
  obtain ⟨o1, e1, n1⟩ := obj_there I ha pa
  obtain ⟨o2, e2, _⟩ := obj_there I hb pb
  by_cases z : a = b
  · subst z
    exact wpAny_isNot_ref_self (fin_bl I q (by simp))
  · exact wpAny_isNot_ref_other z e1 e2 n1 (fin_bl I q (by simp [z]))

/-- two rules for one operation: by cases -/
theorem OpR.or {f : Value → Value → Sem Value} {r r' : R2} (h : OpR X f r) (h' : OpR X f r') : OpR X f (fun x y H Q => r x y H Q ∨ r' x y H Q) := by
  intro pins s σ H x y v u Q I rx ry q
  rcases q with q | q
  · exact h pins s σ H x y v u Q I rx ry q
  · exact h' pins s σ H x y v u Q I rx ry q

theorem nomark (b : Expr) {op : CmpOp} (h : op ≠ .In := by decide) (h2 : op ≠ .NotIn := by decide) : behindInMarks op b = false := by
  have e1 : (op == CmpOp.In) = false := by cases op <;> first | rfl | exact absurd rfl h
  have e2 : (op == CmpOp.NotIn) = false := by cases op <;> first | rfl | exact absurd rfl h2
  cases b <;> simp [behindInMarks, e1, e2]
/-- a comparison as a value; hm: nomark b, or (for in, not in) by with_unfolding_all rfl -/
theorem pe_cmpR {op : CmpOp} {r : R2} (ho : OpR X (compareOp op) r) (ha : PE X a ta) (hb : PE X b tb) (hm : behindInMarks op b = false) : PE X (.Compare a [op] [b] pos) (tOp r ta tb) := by
  intro pins s σ H Q I h
  exact wpAny_Compare1 (binT ha hb I h fun v u s2 x y H2 I2 rx ry q => ho pins s2 σ H2 x y v u Q I2 rx ry q) hm
/-- a reading of a value as a test -/
def tTest (t : TE) : TT := fun σ H Q => t σ H fun x H' => ∃ k, x = .bl k ∧ Q k H'
theorem pt_cmpR {op : CmpOp} {r : R2} (ho : OpR X (compareOp op) r) (ha : PE X a ta) (hb : PE X b tb) (hm : behindInMarks op b = false) : PT X (.Compare a [op] [b] pos) (tTest (tOp r ta tb)) := by
  intro pins s σ H Q I h
  refine wpAny_isTrue_Compare1 (thn (ha pins s σ H _ I h) fun v s1 ⟨x, H1, I1, r1, q1⟩ => thn (hb pins s1 σ H1 _ I1 q1) fun u s2 ⟨y, H2, I2, r2, q2⟩ =>
    thn (ho pins s2 σ H2 x y v u _ I2 r1 r2 q2) fun c s3 ⟨z, H3, I3, r3, k, e, q3⟩ => ?_) hm
  subst e
  cases r3
  exact wpAny_truthy_bool ⟨H3, I3, q3⟩
/-- a op1 b op2 c -/
def tChain (r r' : R2) (ta tb tc : TE) : TE := fun σ H Q => ta σ H fun x H1 => tb σ H1 fun y H2 => r x y H2 fun z H3 => ∃ k, z = .bl k ∧
  (if k = true then tc σ H3 fun w' H4 => r' y w' H4 Q else Q (.bl false) H3)
theorem pe_chain {op op' : CmpOp} {r r' : R2} (ho : OpR X (compareOp op) r) (ho' : OpR X (compareOp op') r') (ha : PE X a ta) (hb : PE X b tb) (hc : PE X c tc)
    (hm : lastMarks [op, op'] [b, c] = false := by with_unfolding_all rfl) : PE X (.Compare a [op, op'] [b, c] pos) (tChain r r' ta tb tc) := by
  intro pins s σ H Q I h
  refine Compare_chain (thn (ha pins s σ H _ I h) fun v s1 ⟨x, H1, I1, r1, q1⟩ => chain_link (thn (hb pins s1 σ H1 _ I1 q1) fun u s2 ⟨y, H2, I2, r2, q2⟩ =>
    thn (ho pins s2 σ H2 x y v u _ I2 r1 r2 q2) fun d s3 ⟨z, H3, I3, r3, k, e, q3⟩ => ?_)) hm
  subst e
  cases r3
  refine wpAny_truthy_bool ?_
  cases k with
  | false => exact ite_ff ⟨.bl false, H3, I3, rfl, q3⟩
  | true => exact ite_tt (chain_last (thn (hc pins s3 σ H3 _ I3 q3) fun w' s4 ⟨z', H4, I4, r4, q4⟩ => ho' pins s4 σ H4 y z' u w' Q I4 r2 r4 q4))
theorem pt_chain {op op' : CmpOp} {r r' : R2} (ho : OpR X (compareOp op) r) (ho' : OpR X (compareOp op') r') (ha : PE X a ta) (hb : PE X b tb) (hc : PE X c tc)
    (hm : lastMarks [op, op'] [b, c] = false := by with_unfolding_all rfl) : PT X (.Compare a [op, op'] [b, c] pos) (tTest (tChain r r' ta tb tc)) := by
  intro pins s σ H Q I h
  refine isTrue_chain (thn (ha pins s σ H _ I h) fun v s1 ⟨x, H1, I1, r1, q1⟩ => test_link (thn (hb pins s1 σ H1 _ I1 q1) fun u s2 ⟨y, H2, I2, r2, q2⟩ =>
    thn (ho pins s2 σ H2 x y v u _ I2 r1 r2 q2) fun d s3 ⟨z, H3, I3, r3, k, e, q3⟩ => ?_)) hm
  subst e
  cases r3
  refine wpAny_truthy_bool ?_
  cases k with
  | false =>
    obtain ⟨k', e', q'⟩ := q3
    cases e'
    exact ite_ff ⟨H3, I3, q'⟩
  | true =>
    refine ite_tt (test_last (thn (hc pins s3 σ H3 _ I3 q3) fun w' s4 ⟨z', H4, I4, r4, q4⟩ => thn (ho' pins s4 σ H4 y z' u w' _ I4 r2 r4 q4) fun d' s5 ⟨z2, H5, I5, r5, k2, e2, q5⟩ => ?_))
    subst e2
    cases r5
    exact wpAny_truthy_bool ⟨H5, I5, q5⟩

/-! ### truth -/
/-- a value's truth by the abstract heap -/
def TruV (K : PySem.W.Frag) (x : V) (H : Hp) (k : Bool) : Prop :=
  match x with
  | .non => k = false
  | .bl b => k = b
  | .int i => k = (i != 0)
  | .str y => y.length ≤ sizeLine ∧ k = ((y.length : Int) != 0)
  | .byt y => y.size ≤ sizeLine ∧ k = ((y.size : Int) != 0)
  | .ref p => (∃ xs, SqL K H p xs ∧ k = !xs.isEmpty) ∨ (∃ xs, SqT K H p xs ∧ k = !xs.isEmpty) ∨ ∃ kvs, H p = some (.dK kvs) ∧ k = !kvs.isEmpty
  | _ => False
theorem isEmpty_kv {κ : Type} {kvs : List (κ × V)} {vs : List (κ × Value)} (r : KV kvs vs) : (!vs.isEmpty) = !kvs.isEmpty := by
  cases r <;> rfl
theorem isEmpty_of {xs : List V} {its : List Value} (r : Vals xs its) : (!its.toArray.isEmpty) = !xs.isEmpty := by
  cases r <;> simp
theorem line63 : (sizeLine : Nat) < 2 ^ 63 := by rw [sizeLine_eq]; decide
theorem tru_ok : TruR X (fun x H Q => ∃ k, TruV X.K x H k ∧ Q k H) := by
  intro pins s σ H x v Q I rx h
  obtain ⟨k, e, q⟩ := h
  have hl := line63
  have hs : sizeLine = 16777216 := sizeLine_eq
  cases x with
  | non =>
    cases rx
    have e' : k = false := e
    subst e'
    exact truthy_none ⟨H, I, q⟩
  | bl b =>
    cases rx
    have e' : k = b := e
    subst e'
    exact wpAny_truthy_bool ⟨H, I, q⟩
  | int i =>
    obtain ⟨t, rfl⟩ := rx
    have e' : k = (i != 0) := e
    subst e'
    exact PySem.P.truthy_int ⟨H, I, q⟩
  | str y =>
    obtain ⟨t, rfl⟩ := rx
    obtain ⟨hy, e'⟩ : y.length ≤ sizeLine ∧ k = ((y.length : Int) != 0) := e
    subst e'
    exact PySem.P.truthy_str (by omega) ⟨H, I.tok _, q⟩
  | byt y =>
    obtain ⟨t, rfl⟩ := rx
    obtain ⟨hy, e'⟩ : y.size ≤ sizeLine ∧ k = ((y.size : Int) != 0) := e
    subst e'
    exact PySem.W.truthy_bytes (by omega) ⟨H, I.tok _, q⟩
  | ref p =>
    cases rx
    have e' : (∃ xs, SqL X.K H p xs ∧ k = !xs.isEmpty) ∨ (∃ xs, SqT X.K H p xs ∧ k = !xs.isEmpty) ∨ ∃ kvs, H p = some (.dK kvs) ∧ k = !kvs.isEmpty := e
    rcases e' with ⟨xs, hx, e'⟩ | ⟨xs, hx, e'⟩ | ⟨kvs, hx, e'⟩
    · subst e'
      obtain ⟨its, r, pl, hz⟩ := I.list hx
      have hlen := r.length
      exact wpAny_truthy_list pl.isList (by simp only [List.size_toArray]; omega) ⟨H, I.tok _, by rw [isEmpty_of r]; exact q⟩
    · subst e'
      obtain ⟨its, r, pl, hz⟩ := I.tuple hx
      have hlen := r.length
      exact truthy_tuple pl (by simp only [List.size_toArray]; omega) ⟨H, I.tok _, by rw [isEmpty_of r]; exact q⟩
    · subst e'
      obtain ⟨hz, hS, vs, r, m⟩ : kvs.length ≤ sizeLine ∧ (p == sysModules) = false ∧ ∃ vs, KV kvs vs ∧ s.heap.DictOf (mixKind X.prog X.w) p vs := I.hok p _ hx
      have hlen : kvs.length = vs.length := Paired.length r
      exact wpAny_truthy_dict hS m (by omega) ⟨H, I.tok _, by rw [isEmpty_kv r]; exact q⟩
  | _ => exact (show False from e).elim
/-- any expression whose test is its value's truth (a name, a call, a subscript, a field ..: he by fun _ => rfl) -/
theorem pt_truth (ha : PE X a ta) (he : ∀ whole, isTrue a X.env whole = (do let v ← whole; standAt a.pos; holding [v] (truthy v))) :
    PT X a (fun σ H Q => ta σ H fun x H' => ∃ k, TruV X.K x H' k ∧ Q k H') := by
  intro pins s σ H Q I h
  exact isTrue_plain (thn (ha pins s σ H _ I h) fun v s1 ⟨x, H1, I1, r1, q1⟩ => tru_ok pins s1 σ H1 x v Q I1 r1 q1) (he _)

/-! ### strs and bytes -/
theorem pe_byt {x : List UInt8} {k : Nat} : PE X (.Constant (.bytes x) k pos) (fun _ H Q => Q (.byt x.toArray) H) := fun _ _ _ H _ I h => PySem.W.Constant_bytes ⟨.byt x.toArray, H, I.tok _, ⟨_, rfl⟩, h⟩
theorem op_add_str : OpR X (binaryOp .Add) (fun x y H Q => ∃ i j, x = .str i ∧ y = .str j ∧ i.length + j.length ≤ sizeLine ∧ Q (.str (i ++ j)) H) := by
  intro pins s σ H x y v u Q I rx ry h
  obtain ⟨i, j, rfl, rfl, hz, q⟩ := h
  obtain ⟨t, rfl⟩ := rx
  obtain ⟨t', rfl⟩ := ry
  exact add_str (fun t' tk => ⟨.str (i ++ j), H, I.tok _, ⟨_, rfl⟩, q⟩) hz
theorem iop_add_str : OpR X (inplaceOp .Add) (fun x y H Q => ∃ i j, x = .str i ∧ y = .str j ∧ i.length + j.length ≤ sizeLine ∧ Q (.str (i ++ j)) H) := by
  intro pins s σ H x y v u Q I rx ry h
  obtain ⟨i, j, rfl, rfl, hz, q⟩ := h
  obtain ⟨t, rfl⟩ := rx
  obtain ⟨t', rfl⟩ := ry
  exact iadd_str (fun t' tk => ⟨.str (i ++ j), H, I.tok _, ⟨_, rfl⟩, q⟩) hz
theorem op_add_byt : OpR X (binaryOp .Add) (fun x y H Q => ∃ i j, x = .byt i ∧ y = .byt j ∧ i.size + j.size ≤ 16777216 ∧ Q (.byt (i ++ j)) H) := by
  intro pins s σ H x y v u Q I rx ry h
  obtain ⟨i, j, rfl, rfl, hz, q⟩ := h
  obtain ⟨t, rfl⟩ := rx
  obtain ⟨t', rfl⟩ := ry
  exact PySem.W.KBy.add_bytes hz (fun t' tk => ⟨.byt (i ++ j), H, I.tok _, ⟨_, rfl⟩, q⟩)

def PlainIxT (b : Expr) : Prop := ∀ o i, subscripted b false o i = operate [o, i] (getItem o i)
/-- s[i], 0 ≤ i < len -/
theorem pe_item_str (ha : PE X a ta) (hb : PE X b tb) (hs : PlainIxT b) :
    PE X (.Subscript a b pos) (tOp (fun x y H Q => ∃ z i c, x = .str z ∧ y = .int i ∧ 0 ≤ i ∧ i < 2 ^ 63 ∧ i < z.length ∧ z.cps[i.toNat]? = some c ∧ Q (.str ⟨#[c]⟩) H) ta tb) := by
  intro pins s σ H Q I h
  refine Subscript_ (binT ha hb I h fun v u s2 x y H2 I2 rx ry q => ?_)
  obtain ⟨z, i, c, rfl, rfl, h0, h63, h1, hc, q⟩ := q
  obtain ⟨t, rfl⟩ := rx
  obtain ⟨t', rfl⟩ := ry
  have e : seqIndex? i z.length = some i.toNat := PySem.StrLaws.seqIndex_nonneg h0 h1
  exact tail_any (typeIs_str s2 z t) slot_str_getitem.lookup (getItem_str (c := c) (by
    have e1 : decide (i < -(2 ^ 63 : Int)) = false := decide_eq_false (by omega)
    have e2 : decide (i ≥ 2 ^ 63) = false := decide_eq_false (by omega)
    rw [e1, e2] <;> rfl) (by rw [e]; exact hc) ⟨.str ⟨#[c]⟩, H2, I2.tok _, ⟨_, rfl⟩, q⟩) (hs _ _)
/-- b[i], 0 ≤ i < len -/
theorem pe_item_byt (ha : PE X a ta) (hb : PE X b tb) (hs : PlainIxT b) :
    PE X (.Subscript a b pos) (tOp (fun x y H Q => ∃ (z : List UInt8) (i : Int), x = .byt z.toArray ∧ y = .int i ∧ z.length ≤ sizeLine ∧ 0 ≤ i ∧ i < z.length ∧ Q (.int ((z.getD i.toNat 0).toNat : Nat)) H) ta tb) := by
  intro pins s σ H Q I h
  refine Subscript_ (binT ha hb I h fun v u s2 x y H2 I2 rx ry q => ?_)
  obtain ⟨z, i, rfl, rfl, hz, h0, h1, q⟩ := q
  obtain ⟨t, rfl⟩ := rx
  obtain ⟨t', rfl⟩ := ry
  have hl : sizeLine = 16777216 := sizeLine_eq
  exact tail_any (PySem.W.typeIs_bytes s2 z.toArray t) PySem.W.FB.slot_bytes_getitem.lookup (PySem.W.getItem_bytes (by omega) h0 h1 ⟨.int ((z.getD i.toNat 0).toNat : Nat), H2, I2.tok _, ⟨_, rfl⟩, q⟩) (hs _ _)

/-! ### scalar builtins, by CallR -/
theorem vals1 {x : V} {us : List Value} (r : Vals [x] us) : ∃ u, us = [u] ∧ RelV x u := by
  cases r with
  | cons r1 r2 => cases r2; exact ⟨_, rfl, r1⟩
theorem vals2 {x y : V} {us : List Value} (r : Vals [x, y] us) : ∃ u w', us = [u, w'] ∧ RelV x u ∧ RelV y w' := by
  cases r with
  | cons r1 r2 =>
    cases r2 with
    | cons r3 r4 => cases r4; exact ⟨_, _, rfl, r1, r3⟩
theorem call_abs : CallR X (.builtin "abs") (fun xs H Q => ∃ i, xs = [.int i] ∧ Q (.int (if i < 0 then -i else i)) H) := by
  intro pins s σ H xs us Q I r h
  obtain ⟨i, rfl, q⟩ := h
  obtain ⟨u, rfl, t, rfl⟩ := vals1 r
  exact call_abs_int fun u tk => ⟨.int (if i < 0 then -i else i), H, I.tok _, ⟨_, rfl⟩, q⟩
theorem call_max2 (hc : X.calm = true) : CallR X (.builtin "max") (fun xs H Q => ∃ i j, xs = [.int i, .int j] ∧ Q (.int (if j > i then j else i)) H) := by
  intro pins s σ H xs us Q I r h
  obtain ⟨i, j, rfl, q⟩ := h
  obtain ⟨u, w', rfl, ⟨t, rfl⟩, ⟨t', rfl⟩⟩ := vals2 r
  refine max_two_ints (I.ok.hd hc) fun h' tk k => ⟨_, H, I.kept k, ?_, q⟩
  by_cases hj : j > i
  · rw [if_pos hj, if_pos hj]; exact ⟨_, rfl⟩
  · rw [if_neg hj, if_neg hj]; exact ⟨_, rfl⟩
theorem call_min2 (hc : X.calm = true) : CallR X (.builtin "min") (fun xs H Q => ∃ i j, xs = [.int i, .int j] ∧ Q (.int (if j < i then j else i)) H) := by
  intro pins s σ H xs us Q I r h
  obtain ⟨i, j, rfl, q⟩ := h
  obtain ⟨u, w', rfl, ⟨t, rfl⟩, ⟨t', rfl⟩⟩ := vals2 r
  refine min_two_ints (I.ok.hd hc) fun h' tk k => ⟨_, H, I.kept k, ?_, q⟩
  by_cases hj : j < i
  · rw [if_pos hj, if_pos hj]; exact ⟨_, rfl⟩
  · rw [if_neg hj, if_neg hj]; exact ⟨_, rfl⟩
theorem call_int1 : CallR X (.type "int") (fun xs H Q => (∃ i, xs = [.int i] ∧ Q (.int i) H) ∨ ∃ k, xs = [.bl k] ∧ Q (.int (if k then 1 else 0)) H) := by
  intro pins s σ H xs us Q I r h
  rcases h with ⟨i, rfl, q⟩ | ⟨k, rfl, q⟩
  · obtain ⟨u, rfl, t, rfl⟩ := vals1 r
    exact call_int_int ⟨.int i, H, I, ⟨_, rfl⟩, q⟩
  · obtain ⟨u, rfl, r1⟩ := vals1 r
    cases r1
    exact call_int_bool ⟨.int (if k then 1 else 0), H, I.tok _, ⟨_, rfl⟩, q⟩
theorem call_bool1 : CallR X (.type "bool") (fun xs H Q => (∃ i, xs = [.int i] ∧ Q (.bl (i != 0)) H) ∨ ∃ k, xs = [.bl k] ∧ Q (.bl k) H) := by
  intro pins s σ H xs us Q I r h
  rcases h with ⟨i, rfl, q⟩ | ⟨k, rfl, q⟩
  · obtain ⟨u, rfl, t, rfl⟩ := vals1 r
    exact call_bool_int ⟨.bl (i != 0), H, I, rfl, q⟩
  · obtain ⟨u, rfl, r1⟩ := vals1 r
    cases r1
    exact call_bool_bool ⟨.bl k, H, I, rfl, q⟩
theorem call_str_int : CallR X (.type "str") (fun xs H Q => ∃ i, xs = [.int i] ∧ i.natAbs.log2 < 1920 ∧ Q (.str (toString i)) H) := by
  intro pins s σ H xs us Q I r h
  obtain ⟨i, rfl, hz, q⟩ := h
  obtain ⟨u, rfl, t, rfl⟩ := vals1 r
  exact PySem.P.str_of_int hz ⟨.str _, H, I.tok _, ⟨_, rfl⟩, q⟩
theorem call_ord : CallR X (.builtin "ord") (fun xs H Q => ∃ x, xs = [.str x] ∧ x.length = 1 ∧ Q (.int (x.cps.getD 0 0 : Nat)) H) := by
  intro pins s σ H xs us Q I r h
  obtain ⟨x, rfl, hz, q⟩ := h
  obtain ⟨u, rfl, t, rfl⟩ := vals1 r
  exact ord_of_one hz ⟨.int _, H, I.tok _, ⟨_, rfl⟩, q⟩
theorem call_chr : CallR X (.builtin "chr") (fun xs H Q => ∃ i, xs = [.int i] ∧ 0 ≤ i ∧ i ≤ 1114111 ∧ Q (.str ⟨#[i.toNat]⟩) H) := by
  intro pins s σ H xs us Q I r h
  obtain ⟨i, rfl, h0, h1, q⟩ := h
  obtain ⟨u, rfl, t, rfl⟩ := vals1 r
  exact chr_of_range h0 h1 ⟨.str _, H, I.tok _, ⟨_, rfl⟩, q⟩
/-- len of a str, a bytes, a list, a tuple -/
def LenV (K : PySem.W.Frag) (x : V) (H : Hp) (n : Nat) : Prop :=
  match x with
  | .str y => y.length ≤ sizeLine ∧ n = y.length
  | .byt y => y.size ≤ sizeLine ∧ n = y.size
  | .ref p => (∃ xs, SqL K H p xs ∧ n = xs.length) ∨ ∃ xs, SqT K H p xs ∧ n = xs.length
  | _ => False
theorem call_len : CallR X (.builtin "len") (fun xs H Q => ∃ x n, xs = [x] ∧ LenV X.K x H n ∧ Q (.int n) H) := by
  intro pins s σ H xs us Q I r h
  obtain ⟨x, n, rfl, e, q⟩ := h
  obtain ⟨u, rfl, rx⟩ := vals1 r
  have hl := line63
  have hs : sizeLine = 16777216 := sizeLine_eq
  cases x with
  | str y =>
    obtain ⟨t, rfl⟩ := rx
    obtain ⟨hy, e'⟩ : y.length ≤ sizeLine ∧ n = y.length := e
    subst e'
    exact len_str (by omega) ⟨.int _, H, I.tok _, ⟨_, rfl⟩, q⟩
  | byt y =>
    obtain ⟨t, rfl⟩ := rx
    obtain ⟨hy, e'⟩ : y.size ≤ sizeLine ∧ n = y.size := e
    subst e'
    exact PySem.W.len_bytes (by omega) ⟨.int _, H, I.tok _, ⟨_, rfl⟩, q⟩
  | ref p =>
    cases rx
    have e' : (∃ xs, SqL X.K H p xs ∧ n = xs.length) ∨ ∃ xs, SqT X.K H p xs ∧ n = xs.length := e
    rcases e' with ⟨xs, hx, e'⟩ | ⟨xs, hx, e'⟩
    · subst e'
      obtain ⟨its, r', pl, hz⟩ := I.list hx
      have hlen := r'.length
      exact Calls.call_len_list pl.isList (by simp only [List.size_toArray]; omega) ⟨.int xs.length, H, I.tok _, ⟨_, by simp only [List.size_toArray]; rw [hlen]⟩, q⟩
    · subst e'
      obtain ⟨its, r', pl, hz⟩ := I.tuple hx
      have hlen := r'.length
      exact len_tuple pl (by simp only [List.size_toArray]; omega) ⟨.int xs.length, H, I.tok _, ⟨_, by simp only [List.size_toArray]; rw [hlen]⟩, q⟩
  | _ => exact (show False from e).elim
/-- divmod: a new tuple -/
theorem call_divmod : CallR X (.builtin "divmod") (fun xs H Q => ∃ i j, xs = [.int i, .int j] ∧ CDiv i j ∧ ∀ p, H p = none → Q (.ref p) (upd H p (.tup [.int (i / j), .int (i % j)]))) := by
  intro pins s σ H xs us Q I r h
  obtain ⟨i, j, rfl, ⟨h1, h2⟩, q⟩ := h
  obtain ⟨u, w', rfl, ⟨t, rfl⟩, ⟨t', rfl⟩⟩ := vals2 r
  refine divmod_int (by omega) ?_ (.inl (PyProof.noPylong_small (by omega)))
  rw [Int.fdiv_eq_ediv_of_nonneg i (by omega), Int.fmod_eq_emod_of_nonneg i (by omega)]
  have hn : H s.heap.objs.size = none := I.hok.fresh (Nat.le_refl _)
  refine ⟨.ref s.heap.objs.size, _, ?_, rfl, q _ hn⟩
  refine I.laid (fun b o e => Heap.get?_push_of_some _ e) (Nat.le_refl _) ⟨by simp only [List.length_cons, List.length_nil]; rw [sizeLine_eq]; decide, [.int (i / j) s.toks, .int (i % j) (s.toks + 1)], .cons ⟨_, rfl⟩ (.cons ⟨_, rfl⟩ .nil), ?_⟩
  exact ⟨_, Heap.get?_push_size s.heap rfl, rfl, 0, rfl⟩
end
end L2

namespace L2
open PySem PySem.Spec PyProof.Rows

/-! ### an instance, its attributes a map -/
structure ObjM (h : Heap) (x dx C : Addr) (mA : Str → Option Value) : Prop where
  obj : h.get? x = some (PySem.W.instObj C dx)
  ns : h.Ns1 dx mA
  ne : dx ≠ x

theorem lookIn_ns {h : Heap} {dx : Addr} {mA : Str → Option Value} (n : h.Ns1 dx mA) : ∃ od, h.get? dx = some od ∧ ∀ name, PySem.W.lookIn name od = some (mA name) := by
  obtain ⟨o, es, ep, ho, hd, hk, _, hm⟩ := n
  refine ⟨o, ho, fun name => ?_⟩
  have e := hm name
  unfold nsFind findBy at e
  rw [← Array.find?_toList] at e
  unfold PySem.W.lookIn
  rw [hd]
  dsimp only
  split
  · rename_i y q
    rw [q] at e
    exact congrArg some e
  · rename_i q
    rw [q] at e
    have a : es.toList.any (·.refKey) = false := by
      rw [List.any_eq_false]
      intro y hy
      obtain ⟨z, t, hkey⟩ := hk y (Array.mem_toList_iff.mp hy)
      simp [DictEntry.refKey, hkey]
    have a' : ¬ es.toList.any (·.refKey) = true := by rw [a]; exact Bool.false_ne_true
    rw [if_neg a']
    exact congrArg some e

theorem ObjM.look {h : Heap} {x dx C : Addr} {mA : Str → Option Value} (I : ObjM h x dx C mA) : ∃ od, PySem.W.InstAt h x (PySem.W.instObj C dx) C (some od) ∧ ∀ name, PySem.W.lookIn name od = some (mA name) :=
  let ⟨od, ho, hl⟩ := lookIn_ns I.ns
  ⟨od, ⟨I.obj, rfl, rfl, ho⟩, hl⟩

section
variable {prog : Program} {w : World} {A : Around} {E : Value → Shared → Prop} {s : Shared} {K : PySem.W.Frag} {x dx C f : Addr} {mA : Str → Option Value} {name : Str} {v : Value}

theorem get_map {expr : Bool} {Q : Value → Shared → Prop} (X : K.In s.heap) (I : ObjM s.heap x dx C mA) (hg : PySem.W.plainGet K C name = true) (hh : PySem.W.hasDictIn K C = true)
    (ha : PySem.W.findIn K (.ref C) name = some none) (hv : mA name = some v) (hv' : PySem.W.handedIn v = true) (h : Q v { s with toks := s.toks + 1 }) :
    wpAny (model prog w) A (getAttr (.ref x) name expr) Q E s := by
  obtain ⟨od, J, hl⟩ := I.look
  exact PySem.W.get_value X J (PySem.W.plainGet_of hg).1 (PySem.W.findObj_own hh ha rfl (by rw [hl, hv])) hv' h

theorem get_const {expr : Bool} {a : Value} {Q : Value → Shared → Prop} (X : K.In s.heap) (I : ObjM s.heap x dx C mA) (hg : PySem.W.plainGet K C name = true) (hh : PySem.W.hasDictIn K C = true)
    (ha : PySem.W.findIn K (.ref C) name = some (some a)) (hn : PySem.W.specialIn K a "__get__" = some none) (hc : PySem.W.copiedNames.contains name = false) (hv : mA name = none) (hv' : PySem.W.handedIn a = true)
    (h : Q a { s with toks := s.toks + 1 }) : wpAny (model prog w) A (getAttr (.ref x) name expr) Q E s := by
  obtain ⟨od, J, hl⟩ := I.look
  exact PySem.W.get_value X J (PySem.W.plainGet_of hg).1 (PySem.W.findObj_cls hh ha hn hv' hc (by rw [hl, hv])) hv' h

theorem get_meth {pl : Sem Bool} {Q : Value × List Value → Shared → Prop} (X : K.In s.heap) (I : ObjM s.heap x dx C mA) (hg : PySem.W.plainGet K C name = true)
    (hf : PySem.W.findIn K (.ref C) name = some (some (.ref f))) (ht : PySem.W.isFn K (.ref f) = true) (hv : mA name = none) (h : Q (.ref f, [.ref x]) s) :
    wpAny (model prog w) A (getMethod (.ref x) name pl) Q E s := by
  obtain ⟨od, J, hl⟩ := I.look
  exact PySem.W.method_fn X J (PySem.W.plainGet_of hg).1 (PySem.W.plainGet_of hg).2 hf (beq_iff_eq.mp ht) (by show (PySem.W.lookIn name od).map (·.isSome) = some false; rw [hl, hv]; rfl) h

theorem set_map {ns : List Str} {Q : Unit → Shared → Prop} (X : K.In s.heap) (I : ObjM s.heap x dx C mA)
    (hs : PySem.W.findIn K (.ref C) "__setattr__" = some (some (.builtin "object.__setattr__"))) (hp : PySem.W.plainOver K C = true) (ht : PySem.W.takerIn K C name = some none) (hh : PySem.W.hasDictIn K C = true)
    (hw : PySem.Within mA ns) (hsz : ns.length ≤ sizeLine)
    (h : ∀ h', ObjM h' x dx C (fun y => if y = name then some v else mA y) → Heap.SameBut dx s.heap h' → Q () { s with heap := h', toks := s.toks + 2 }) :
    wpAny (model prog w) A (setAttr (.ref x) name v) Q E s := by
  obtain ⟨od, J, hl⟩ := I.look
  refine PySem.W.set_plain X J hs (PySem.W.osa_open (s := { s with toks := s.toks + 1 }) (r := none) X J hp ht fun b => ?_)
  obtain ⟨cd, hc, hd'⟩ := PySem.W.any_some hh
  have hx : s.heap.get? x = some ⟨.ref C, some dx, .plain, #[]⟩ := I.obj
  refine wpAny_bind (wpAny_pure (wpAny_bind (wpAny_bind (wpAny_loadPart hx (wpAny_bind (PySem.W.Looks.here (s := { s with toks := s.toks + 1 }) (PySem.W.looks_clsIn X hc) ?_))))))
  rw [hd']
  refine wpAny_pure (a := some dx) (wpAny_bind (wpAny_pure (wpAny_bind ?_)))
  refine wpAny_nsSet1 (s := { s with toks := s.toks + 1 }) I.ns fun h' hn2 hs2 => ?_
  obtain ⟨oD, esD, epD, hoD, hdD, hcD⟩ := hn2.count (PySem.Within.cons name v hw)
  refine wpAny_bind (wpAny_lookBehind hoD (by rw [hdD]; exact pastItsLine_dict (Nat.le_trans hcD (by rw [List.length_cons]; omega))) ?_)
  exact wpAny_pure (h _ ⟨(hs2.2 _ (Ne.symm I.ne)).trans I.obj, hn2, I.ne⟩ hs2)

/-- C(..): the dict at the heap's end, the instance behind it; then its __init__ -/
theorem make_map {R : Result → Shared → Prop} {vs : List Value} {kw : List (Str × Value)} (X : K.In s.heap) (hm : PySem.W.makesIn K C = true)
    (hi : PySem.W.findIn K (.ref C) "__init__" = some (some (.ref f))) (hf : PySem.W.typeIn K (.ref f) = some (.type "function"))
    (h : codeAny (model prog w) (A.under (.builtin "type.__call__" ⟨.ref C :: vs, kw⟩)) (.call (.ref f) ⟨.ref (s.heap.objs.size + 1) :: vs, kw⟩) (PySem.W.InitBack (s.heap.objs.size + 1) R)
      { s with heap := (s.heap.push PySem.W.emptyDict).push (PySem.W.instObj C s.heap.objs.size) }) :
    codeAny (model prog w) A (.call (.ref C) ⟨vs, kw⟩) R s := by
  obtain ⟨hh, g, d, t, os⟩ := s
  exact PySem.W.make_core (PySem.W.makes_of X hm) (PySem.W.looks_findIn X hi) (fun self => PySem.W.bind_fn X self hf) (.inl rfl) h
/-- C() where there is no __init__ but object's -/
theorem make_map0 {R : Result → Shared → Prop} (X : K.In s.heap) (hm : PySem.W.makesIn K C = true)
    (hi : PySem.W.findIn K (.ref C) "__init__" = some (some (.builtin "object.__init__")))
    (hb : ∀ self, PySem.W.Looks (model prog w) s.heap (bindSpecial (.builtin "object.__init__") self) (.builtin "object.__init__", [self]))
    (h : codeAny (model prog w) (A.under (.builtin "type.__call__" ⟨[.ref C], []⟩)) (.call (.builtin "object.__init__") ⟨[.ref (s.heap.objs.size + 1)], []⟩) (PySem.W.InitBack (s.heap.objs.size + 1) R)
      { s with heap := (s.heap.push PySem.W.emptyDict).push (PySem.W.instObj C s.heap.objs.size) }) :
    codeAny (model prog w) A (.call (.ref C) ⟨[], []⟩) R s := by
  obtain ⟨hh, g, d, t, os⟩ := s
  exact PySem.W.make_core (PySem.W.makes_of X hm) (PySem.W.looks_findIn X hi) hb (.inr ⟨rfl, rfl⟩) h
end

/-! ### the attributes as a list of pairs -/
def putF (f : Str) (v : V) : List (Str × V) → List (Str × V)
  | [] => [(f, v)]
  | (g, x) :: r => if g = f then (g, v) :: r else (g, x) :: putF f v r
theorem lookup_putF (f g : Str) (v : V) : ∀ fs : List (Str × V), (putF f v fs).lookup g = if g = f then some v else fs.lookup g
  | [] => by
    show List.lookup g [(f, v)] = _
    by_cases h : g = f
    · have hb : (g == f) = true := beq_iff_eq.mpr h
      simp only [List.lookup, hb, if_pos h]
    · have hb : (g == f) = false := beq_eq_false_iff_ne.mpr h
      simp only [List.lookup, hb, if_neg h]
  | (k, x) :: r => by
    have ih := lookup_putF f g v r
    rw [show putF f v ((k, x) :: r) = (if k = f then (k, v) :: r else (k, x) :: putF f v r) from rfl]
    by_cases hk : k = f
    · rw [if_pos hk]
      by_cases h : g = k
      · have hb : (g == k) = true := beq_iff_eq.mpr h
        simp only [List.lookup, hb, if_pos (h.trans hk)]
      · have hb : (g == k) = false := beq_eq_false_iff_ne.mpr h
        simp only [List.lookup, hb, if_neg (fun e : g = f => h (e.trans hk.symm))]
    · rw [if_neg hk]
      by_cases h : g = k
      · have hb : (g == k) = true := beq_iff_eq.mpr h
        simp only [List.lookup, hb, if_neg (fun e : g = f => hk (h.symm.trans e))]
      · have hb : (g == k) = false := beq_eq_false_iff_ne.mpr h
        simp only [List.lookup, hb]
        exact ih
theorem keys_putF (f : Str) (v : V) : ∀ fs : List (Str × V), f ∈ (putF f v fs).map (·.1) ∧ ∀ g, g ∈ fs.map (·.1) → g ∈ (putF f v fs).map (·.1)
  | [] => ⟨by simp [putF], fun g h => by simp at h⟩
  | (k, x) :: r => by
    obtain ⟨i1, i2⟩ := keys_putF f v r
    rw [show putF f v ((k, x) :: r) = (if k = f then (k, v) :: r else (k, x) :: putF f v r) from rfl]
    by_cases hk : k = f
    · rw [if_pos hk]
      subst hk
      exact ⟨by simp, fun g h => by simpa using h⟩
    · rw [if_neg hk]
      refine ⟨?_, fun g h => ?_⟩
      · rw [List.map_cons]
        exact List.mem_cons_of_mem _ i1
      · rw [List.map_cons] at h ⊢
        rcases List.mem_cons.mp h with e | e
        · exact List.mem_cons.mpr (.inl e)
        · exact List.mem_cons_of_mem _ (i2 g e)
theorem length_putF (f : Str) (v : V) : ∀ fs : List (Str × V), (putF f v fs).length ≤ fs.length + 1
  | [] => by simp [putF]
  | (k, x) :: r => by
    have ih := length_putF f v r
    rw [show putF f v ((k, x) :: r) = (if k = f then (k, v) :: r else (k, x) :: putF f v r) from rfl]
    by_cases hk : k = f
    · rw [if_pos hk, List.length_cons, List.length_cons]; omega
    · rw [if_neg hk, List.length_cons, List.length_cons]; omega

theorem RelO.some_of {v : V} {o : Option Value} (r : RelO (some v) o) : ∃ u, o = some u ∧ RelV v u := by
  cases o with
  | none => exact (show False from r).elim
  | some u => exact ⟨u, rfl, r⟩
theorem RelO.none_of {o : Option Value} (r : RelO none o) : o = none := by
  cases o with
  | none => rfl
  | some u => exact (show False from r).elim
theorem handed_of {v : V} {u : Value} (r : RelV v u) : PySem.W.handedIn u = true := by
  cases v with
  | non => cases (show u = Value.none from r); rfl
  | bl b => cases (show u = Value.bool b from r); rfl
  | int i => obtain ⟨t, e⟩ := (show ∃ t, u = Value.int i t from r); cases e; rfl
  | str x => obtain ⟨t, e⟩ := (show ∃ t, u = Value.str x t from r); cases e; rfl
  | byt b => obtain ⟨t, e⟩ := (show ∃ t, u = Value.bytes b t from r); cases e; rfl
  | flt b => obtain ⟨t, e⟩ := (show ∃ t, u = Value.float b t from r); cases e; rfl
  | ref a => cases (show u = Value.ref a from r); rfl
  | ty n => cases (show u = Value.type n from r); rfl

section
variable {P : Program} {w : World} {H H' : Hp} {h h' : Heap} {a C dx : Addr} {fs fs' : List (Str × V)}
theorem ins_get (hok : HOk P w H h) (e : H a = some (.ins C dx fs)) : ∃ mA, ObjM h a dx C mA ∧ (∀ f, RelO (fs.lookup f) (mA f)) ∧ PySem.Within mA (fs.map (·.1)) ∧ fs.length ≤ 1000 ∧ H dx = some (.own a) := by
  obtain ⟨d, z, ne, ob, mA, n, r, q⟩ := (show ObjOk P w H h a (.ins C dx fs) from hok a _ e)
  exact ⟨mA, ⟨ob, n, ne⟩, r, q, z, d⟩
end

/-! ### what of the text a class must have -/
structure Cls (K : PySem.W.Frag) (C : Addr) : Prop where
  pg : PySem.W.plainGet K C Str.empty = true
  hd : PySem.W.hasDictIn K C = true
  po : PySem.W.plainOver K C = true
  sa : PySem.W.findIn K (.ref C) "__setattr__" = some (some (.builtin "object.__setattr__"))
theorem Cls.get {K : PySem.W.Frag} {C : Addr} (c : Cls K C) (f : Str) : PySem.W.plainGet K C f = true := c.pg
/-- no class of it has the name -/
def NoAttr (K : PySem.W.Frag) (C : Addr) (f : Str) : Prop := PySem.W.findIn K (.ref C) f = some none
theorem NoAttr.taker {K : PySem.W.Frag} {C : Addr} {f : Str} (n : NoAttr K C f) : PySem.W.takerIn K C f = some none := by
  unfold PySem.W.takerIn
  rw [show PySem.W.findIn K (.ref C) f = some none from n]
  rfl
/-- a constant of the class -/
structure Con (K : PySem.W.Frag) (C : Addr) (f : Str) (v : V) (u : Value) : Prop where
  at_ : PySem.W.findIn K (.ref C) f = some (some u)
  rel : RelV v u
  get : PySem.W.specialIn K u "__get__" = some none
  cp : PySem.W.copiedNames.contains f = false
/-- a method: a plain def of the class or of one above it -/
structure Meth (K : PySem.W.Frag) (C : Addr) (m : Str) (f : Addr) : Prop where
  at_ : PySem.W.findIn K (.ref C) m = some (some (.ref f))
  fn : PySem.W.isFn K (.ref f) = true
  kp : PySem.W.keepIn K (.ref f) = true

section
variable {X : Cx} {pins : List (Addr × Obj)} {σ : St} {H : Hp} {s : Shared} {a C dx : Addr} {fs : List (Str × V)} {f : Str} {v : V} {A : Around} {E : Value → Shared → Prop}

theorem getattr_ok {b : Bool} {Q : Value → Shared → Prop} (I : Inv X pins σ H s) (e : H a = some (.ins C dx fs)) (c : Cls X.K C) (n : NoAttr X.K C f) (l : fs.lookup f = some v)
    (h : ∀ u s', Inv X pins σ H s' → RelV v u → Q u s') : wpAny (model X.prog X.w) A (getAttr (.ref a) f b) Q E s := by
  obtain ⟨mA, O, r, _, _, _⟩ := ins_get I.hok e
  obtain ⟨u, hu, ru⟩ := RelO.some_of (v := v) (o := mA f) (by rw [← l]; exact r f)
  exact get_map I.kIn O (c.get f) c.hd n hu (handed_of ru) (h u _ (I.tok _) ru)

theorem getcon_ok {b : Bool} {u : Value} {Q : Value → Shared → Prop} (I : Inv X pins σ H s) (e : H a = some (.ins C dx fs)) (c : Cls X.K C) (k : Con X.K C f v u) (l : fs.lookup f = none)
    (h : ∀ s', Inv X pins σ H s' → Q u s') : wpAny (model X.prog X.w) A (getAttr (.ref a) f b) Q E s := by
  obtain ⟨mA, O, r, _, _, _⟩ := ins_get I.hok e
  have hn : mA f = none := RelO.none_of (by rw [← l]; exact r f)
  exact get_const I.kIn O (c.get f) c.hd k.at_ k.get k.cp hn (handed_of k.rel) (h _ (I.tok _))

theorem getmeth_ok {m : Str} {g : Addr} {pl : Sem Bool} {Q : Value × List Value → Shared → Prop} (I : Inv X pins σ H s) (e : H a = some (.ins C dx fs)) (c : Cls X.K C) (k : Meth X.K C m g) (l : fs.lookup m = none)
    (h : Q (.ref g, [.ref a]) s) : wpAny (model X.prog X.w) A (getMethod (.ref a) m pl) Q E s := by
  obtain ⟨mA, O, r, _, _, _⟩ := ins_get I.hok e
  have hn : mA m = none := RelO.none_of (by rw [← l]; exact r m)
  exact get_meth I.kIn O (c.get m) k.at_ k.fn hn h

theorem setattr_ok {y : V} {u : Value} {Q : Unit → Shared → Prop} (I : Inv X pins σ H s) (e : H a = some (.ins C dx fs)) (c : Cls X.K C) (n : NoAttr X.K C f) (hl : fs.length < 1000) (ry : RelV y u)
    (h : ∀ s', Inv X pins σ (upd H a (.ins C dx (putF f y fs))) s' → Q () s') : wpAny (model X.prog X.w) A (setAttr (.ref a) f u) Q E s := by
  obtain ⟨mA, O, r, wi, _, ho⟩ := ins_get I.hok e
  have hz : (fs.map (·.1)).length ≤ sizeLine := by rw [List.length_map, sizeLine_eq]; omega
  refine set_map I.kIn O c.sa c.po n.taker c.hd wi hz fun h' O' sb => h _ ?_
  have hd : ∃ o, h'.get? dx = some o := let ⟨o, _, _, e', _⟩ := O'.ns; ⟨o, e'⟩
  refine I.write (x := a) (e := dx) (by rw [e]; exact True.intro) (.inr ho) (fun b q hb z => (sb.2 b hb).trans z) hd ?_
  refine ⟨by rw [upd_ne O.ne]; exact ho, ?_, O.ne, O'.obj, _, O'.ns, fun g => ?_, fun g hg => ?_⟩
  · have := length_putF f y fs; omega
  · show RelO ((putF f y fs).lookup g) (if g = f then some u else mA g)
    rw [lookup_putF]
    by_cases q : g = f
    · rw [if_pos q, if_pos q]; exact ry
    · rw [if_neg q, if_neg q]; exact r g
  · by_cases q : g = f
    · rw [q]; exact (keys_putF f y fs).1
    · refine (keys_putF f y fs).2 g (wi g fun z => hg ?_)
      show (if g = f then some u else mA g) = none
      rw [if_neg q]; exact z

/-- a new instance, tracked, without attributes -/
theorem Inv.made (I : Inv X pins σ H s) : Inv X pins σ (upd (upd H s.heap.objs.size (.own (s.heap.objs.size + 1))) (s.heap.objs.size + 1) (.ins C s.heap.objs.size []))
    { s with heap := (s.heap.push PySem.W.emptyDict).push (PySem.W.instObj C s.heap.objs.size) } := by
  have e1 : (s.heap.push PySem.W.emptyDict).get? s.heap.objs.size = some PySem.W.emptyDict := Heap.get?_push_size s.heap rfl
  have e2 : ((s.heap.push PySem.W.emptyDict).push (PySem.W.instObj C s.heap.objs.size)).get? (s.heap.objs.size + 1) = some (PySem.W.instObj C s.heap.objs.size) := by
    have := Heap.get?_push_size (s.heap.push PySem.W.emptyDict) (o := PySem.W.instObj C s.heap.objs.size) rfl
    rwa [Heap.size_push] at this
  have e3 : (s.heap.push PySem.W.emptyDict).Ns s.heap.objs.size (fun _ => none) := ⟨PySem.W.emptyDict, #[], _, e1, rfl, (fun e he => absurd he (by simp)), fun _ => rfl⟩
  have I1 := I.laid (a := s.heap.objs.size) (o := .own (s.heap.objs.size + 1)) (h' := s.heap.push PySem.W.emptyDict) (t' := s.toks) (fun b u q => Heap.get?_push_of_some _ q) (Nat.le_refl _) ⟨_, e1⟩
  refine I1.laid (a := s.heap.objs.size + 1) (o := .ins C s.heap.objs.size []) (t' := s.toks) (fun b u q => Heap.get?_push_of_some _ q) (Nat.le_of_eq (Heap.size_push _ _)) ?_
  have ne : s.heap.objs.size ≠ s.heap.objs.size + 1 := Nat.ne_of_lt (Nat.lt_succ_self _)
  refine ⟨by rw [upd_ne ne, upd_same], Nat.zero_le _, ne, e2, fun _ => none, (Heap.Ns1.of_empty e3).at fun o q => Heap.get?_push_of_some _ q, fun _ => True.intro, fun y hy => absurd rfl hy⟩

/-- e.f where nothing but the object is asked: through attributeBase (super) and the last hold -/
theorem attr_of {prog : Program} {w : World} {env : Env} {e : Expr} {f : Str} {pos : Pos} {s : Shared} {Q : Value → Shared → Prop} (hb : attributeBase e f env (eval e env) = eval e env)
    (h : wpAny (model prog w) A (eval e env) (fun o s₁ => wpAny (model prog w) A (getAttr o f true) Q E s₁) E s) : wpAny (model prog w) A (eval (.Attribute e f pos) env) Q E s :=
  Attribute_any_ h (by rw [arm_eval_Attribute, hb])
end

/-! ### readings and rules -/
/-- e.f, an attribute of the instance -/
def tFld (K : PySem.W.Frag) (ta : TE) (f : Str) : TE := fun σ H Q => ta σ H fun x H1 => ∃ a C dx fs v, x = .ref a ∧ H1 a = some (.ins C dx fs) ∧ Cls K C ∧ NoAttr K C f ∧ fs.lookup f = some v ∧ Q v H1
/-- e.f, a constant of the class -/
def tCon (K : PySem.W.Frag) (ta : TE) (f : Str) : TE := fun σ H Q => ta σ H fun x H1 => ∃ a C dx fs v u, x = .ref a ∧ H1 a = some (.ins C dx fs) ∧ Cls K C ∧ Con K C f v u ∧ fs.lookup f = none ∧ Q v H1
/-- e.f = value -/
def sFld (K : PySem.W.Frag) (ta tv : TE) (f : Str) : TS := fun D σ H => tv σ H fun y H1 => ta σ H1 fun x H2 => ∃ a C dx fs, x = .ref a ∧ H2 a = some (.ins C dx fs) ∧ Cls K C ∧ NoAttr K C f ∧ fs.length < 1000 ∧
  D.nx σ (upd H2 a (.ins C dx (putF f y fs)))
/-- an augmented operator on two values -/
def InOp (X : Cx) (op : Operator) (rd : V → V → Hp → VK → Prop) : Prop :=
  ∀ (pins : List (Addr × Obj)) (s : Shared) (σ : St) (H : Hp) (x y : V) (u v : Value) (Q : VK), Inv X pins σ H s → RelV x u → RelV y v → rd x y H Q → wpAny (model X.prog X.w) X.A (inplaceOp op u v) (EP X pins σ Q) X.xe s
/-- e.f op= value -/
def sFldAug (K : PySem.W.Frag) (ta tv : TE) (rd : V → V → Hp → VK → Prop) (f : Str) : TS := fun D σ H => ta σ H fun x H1 => ∃ a C dx fs v, x = .ref a ∧ H1 a = some (.ins C dx fs) ∧ Cls K C ∧ NoAttr K C f ∧ fs.lookup f = some v ∧
  tv σ H1 fun y H2 => rd v y H2 fun z H3 => ∃ dx' fs', H3 a = some (.ins C dx' fs') ∧ fs'.length < 1000 ∧ D.nx σ (upd H3 a (.ins C dx' (putF f z fs')))

section
variable {X : Cx} {o e value : Expr} {f : Str} {pos pos' tpos : Pos} {ta tv : TE}
theorem pe_fld (he : PE X e ta) (hb : attributeBase e f X.env (eval e X.env) = eval e X.env) : PE X (.Attribute e f pos) (tFld X.K ta f) := by
  intro pins s σ H Q I h
  refine attr_of hb (thn (he pins s σ H _ I h) fun u s1 ⟨x, H1, I1, rx, a, C, dx, fs, v, ex, ea, c, n, l, q⟩ => ?_)
  subst ex
  obtain rfl : u = Value.ref a := rx
  exact getattr_ok I1 ea c n l fun u' s2 I2 ru => ⟨v, H1, I2, ru, q⟩
theorem pe_con (he : PE X e ta) (hb : attributeBase e f X.env (eval e X.env) = eval e X.env) : PE X (.Attribute e f pos) (tCon X.K ta f) := by
  intro pins s σ H Q I h
  refine attr_of hb (thn (he pins s σ H _ I h) fun u s1 ⟨x, H1, I1, rx, a, C, dx, fs, v, u0, ex, ea, c, k, l, q⟩ => ?_)
  subst ex
  obtain rfl : u = Value.ref a := rx
  exact getcon_ok I1 ea c k l fun s2 I2 => ⟨v, H1, I2, k.rel, q⟩
theorem ps_fld (ha : PE X o ta) (hv : PE X value tv) (hs : swapsWith value (some (.Attribute o f pos')) pos.line X.env = pure false) : PS X (.Assign [.Attribute o f pos'] value pos) (sFld X.K ta tv f) := by
  intro pins s σ H D I h
  refine plainObj_wpAny_Assign_Attribute (thn (hv pins s σ H _ I h) fun u s1 ⟨y, H1, I1, ry, q⟩ => thn (ha pins s1 σ H1 _ I1 q) fun ov s2 ⟨x, H2, I2, rx, a, C, dx, fs, ex, ea, c, n, l, q2⟩ => ?_) hs
  subst ex
  obtain rfl : ov = Value.ref a := rx
  exact setattr_ok I2 ea c n l ry fun s3 I3 => ⟨σ, _, I3, q2⟩
theorem ps_fldaug {op : Operator} {rd : V → V → Hp → VK → Prop} (ha : PE X o ta) (hv : PE X value tv) (hop : InOp X op rd) : PS X (.AugAssign (.Attribute o f tpos) op value pos) (sFldAug X.K ta tv rd f) := by
  intro pins s σ H D I h
  refine wpAny_AugAssign_AttributeAny (thn (ha pins s σ H _ I h) fun ov s1 ⟨x, H1, I1, rx, a, C, dx, fs, v, ex, ea, c, n, l, q⟩ => ?_)
  subst ex
  obtain rfl : ov = Value.ref a := rx
  refine getattr_ok I1 ea c n l fun u s2 I2 ru => thn (hv pins s2 σ H1 _ I2 q) fun w3 s3 ⟨y, H2, I3, ry, q3⟩ => thn (hop pins s3 σ H2 v y u w3 _ I3 ru ry q3) fun w4 s4 ⟨z, H3, I4, rz, dx', fs', ea', l', q4⟩ => ?_
  exact setattr_ok I4 ea' c n l' rz fun s5 I5 => ⟨σ, _, I5, q4⟩
def rAdd : V → V → Hp → VK → Prop := fun x y H Q => ∃ i j, x = .int i ∧ y = .int j ∧ Q (.int (i + j)) H
def rSub : V → V → Hp → VK → Prop := fun x y H Q => ∃ i j, x = .int i ∧ y = .int j ∧ Q (.int (i - j)) H
theorem in_add : InOp X .Add rAdd := by
  rintro pins s σ H x y u v Q I rx ry ⟨i, j, rfl, rfl, q⟩
  obtain ⟨t, rfl⟩ := (show ∃ t, u = Value.int i t from rx)
  obtain ⟨t', rfl⟩ := (show ∃ t', v = Value.int j t' from ry)
  exact PyProof.Rows.iadd_int ⟨.int (i + j), H, I.tok _, ⟨_, rfl⟩, q⟩
theorem in_sub : InOp X .Sub rSub := by
  rintro pins s σ H x y u v Q I rx ry ⟨i, j, rfl, rfl, q⟩
  obtain ⟨t, rfl⟩ := (show ∃ t, u = Value.int i t from rx)
  obtain ⟨t', rfl⟩ := (show ∃ t', v = Value.int j t' from ry)
  exact PyProof.Rows.isub_int ⟨.int (i - j), H, I.tok _, ⟨_, rfl⟩, q⟩

/-- what is between an instance and its method: the tree of a method call -/
theorem methcall_of {pl : Sem Bool} {m : Str} {apos : Pos} {args : List Expr} {pins : List (Addr × Obj)} {s : Shared} {σ : St} {H : Hp} {Q : Value → Shared → Prop} {te : TE} (he : PE X e te) (I : Inv X pins σ H s)
    (h : te σ H fun x H1 => ∃ a C dx fs g, x = .ref a ∧ H1 a = some (.ins C dx fs) ∧ Cls X.K C ∧ Meth X.K C m g ∧ fs.lookup m = none ∧
      ∀ s1, Inv X pins σ H1 s1 → wpAny (model X.prog X.w) X.A (callWith pos (.ref g) [.ref a] (backTo pos (starEach args X.env)) (backToKw pos (keywordEach [] X.env))) Q X.xe s1)
    (ht : eval (.Call (.Attribute e m apos) args [] pos) X.env = (do
      let ov ← eval e X.env
      standAt apos.atName
      let (f, first) ← holding [ov] (getMethod ov m pl)
      callWith pos f first (backTo pos (starEach args X.env)) (backToKw pos (keywordEach [] X.env)))) :
    wpAny (model X.prog X.w) X.A (eval (.Call (.Attribute e m apos) args [] pos) X.env) Q X.xe s := by
  refine PySem.W.methodCall_KW (pl := pl) (thn (he pins s σ H _ I h) fun u s1 ⟨x, H1, I1, rx, a, C, dx, fs, g, ex, ea, c, k, l, q⟩ => ?_) ht
  subst ex
  obtain rfl : u = Value.ref a := rx
  exact getmeth_ok I1 ea c k l (q s1 I1)
end

/-! ### isinstance -/
section
variable {X : Cx} {pins : List (Addr × Obj)} {σ : St} {H : Hp} {s : Shared} {A : Around} {E : Value → Shared → Prop} {Q : Value → Shared → Prop} {c : Value} {b : Bool}
/-- the type of a value, as the fragment's deciders take it; for an instance its class -/
inductive TyOf (K : PySem.W.Frag) (H : Hp) : V → Value → Prop where
  | non : TyOf K H .non (.type "NoneType")
  | bl (x : Bool) : TyOf K H (.bl x) (.type "bool")
  | int (i : Int) : TyOf K H (.int i) (.type "int")
  | str (x : Str) : TyOf K H (.str x) (.type "str")
  | flt (x : UInt64) : TyOf K H (.flt x) (.type "float")
  | lst {a : Addr} {xs : List V} (e : H a = some (.lst xs)) : TyOf K H (.ref a) (.type "list")
  | frz {a : Addr} {o : Obj} {xs : List V} (e : H a = some (.frz o (.lst xs))) : TyOf K H (.ref a) (.type "list")
  | tup {a : Addr} {xs : List V} (e : H a = some (.tup xs)) : TyOf K H (.ref a) (.type "tuple")
  | dK {a : Addr} {kvs : List (Key × V)} (e : H a = some (.dK kvs)) : TyOf K H (.ref a) (.type "dict")
  | dT {a : Addr} {kvs : List (List Key × V)} (e : H a = some (.dT kvs)) : TyOf K H (.ref a) (.type "dict")
  | ins {a C dx : Addr} {fs : List (Str × V)} (e : H a = some (.ins C dx fs)) (cl : Cls K C) (ha : PySem.W.findIn K (.ref C) "__class__" = some (some (.builtin "object.__class__")))
      (hn : PySem.W.specialIn K (.builtin "object.__class__") "__get__" = some (some (.builtin "getset_descriptor.__get__"))) (htk : PySem.W.takesIn K (.builtin "object.__class__") = some true)
      (hm : PySem.W.mroIn K C (.type "object") = some true) : TyOf K H (.ref a) (.ref C)
/-- isinstance(x, c) for one class c, a built-in or an own one: kitOne's answer -/
theorem isinst_ok {x : V} {u t : Value} (I : Inv X pins σ H s) (rx : RelV x u) (ty : TyOf X.K H x t) (e : PySem.W.kitOne X.K t c = some b) (h : ∀ tk, Q (.bool b) { s with toks := tk }) :
    wpAny (model X.prog X.w) A (call (.builtin "isinstance") [u, c]) Q E s := by
  cases ty with
  | non => cases (show u = Value.none from rx); exact PySem.W.kia_one PySem.W.kitx_none I.kIn True.intro e (fun z => nomatch z) h
  | bl y => cases (show u = Value.bool y from rx); exact PySem.W.kia_one PySem.W.kitx_bool I.kIn True.intro e (fun z => nomatch z) h
  | int i => obtain ⟨t, q⟩ := (show ∃ t, u = Value.int i t from rx); cases q; exact PySem.W.kia_one PySem.W.kitx_int I.kIn True.intro e (fun z => nomatch z) h
  | str y => obtain ⟨t, q⟩ := (show ∃ t, u = Value.str y t from rx); cases q; exact PySem.W.kia_one PySem.W.kitx_str I.kIn True.intro e (fun z => nomatch z) h
  | flt y => obtain ⟨t, q⟩ := (show ∃ t, u = Value.float y t from rx); cases q; exact PySem.W.kia_one PySem.W.kitx_float I.kIn True.intro e (fun z => nomatch z) h
  | @lst a xs ea =>
    cases (show u = Value.ref a from rx)
    obtain ⟨_, _, n, _, h1⟩ := (show ObjOk X.prog X.w H s.heap a (.lst xs) from I.hok a _ ea)
    exact PySem.W.kia_one PySem.W.kitx_list I.kIn ⟨_, h1, rfl⟩ e (fun z => nomatch z) h
  | @frz a ob xs ea =>
    cases (show u = Value.ref a from rx)
    obtain ⟨_, _, _, n, _, h1⟩ := (show ObjOk X.prog X.w H s.heap a (.frz ob (.lst xs)) from I.hok a _ ea)
    exact PySem.W.kia_one PySem.W.kitx_list I.kIn ⟨_, h1, rfl⟩ e (fun z => nomatch z) h
  | @tup a xs ea =>
    cases (show u = Value.ref a from rx)
    obtain ⟨_, _, _, p⟩ := (show ObjOk X.prog X.w H s.heap a (.tup xs) from I.hok a _ ea)
    obtain ⟨o, h1, h2, _⟩ := p
    exact PySem.W.kia_one PySem.W.kitx_tuple I.kIn ⟨o, h1, h2⟩ e (fun z => nomatch z) h
  | @dK a kvs ea =>
    cases (show u = Value.ref a from rx)
    obtain ⟨_, _, vs, _, p⟩ := (show ObjOk X.prog X.w H s.heap a (.dK kvs) from I.hok a _ ea)
    obtain ⟨o, es, ep, h1, h2, _⟩ := p
    exact PySem.W.kia_one PySem.W.kitx_dict I.kIn ⟨o, h1, h2.1⟩ e (fun z => nomatch z) h
  | @dT a kvs ea =>
    cases (show u = Value.ref a from rx)
    obtain ⟨_, _, xs, _, o, es, ep, h1, h2, _⟩ := (show ObjOk X.prog X.w H s.heap a (.dT kvs) from I.hok a _ ea)
    exact PySem.W.kia_one PySem.W.kitx_dict I.kIn ⟨o, h1, h2.1⟩ e (fun z => nomatch z) h
  | @ins a C dx fs ea cl ha hn htk hm =>
    cases (show u = Value.ref a from rx)
    obtain ⟨mA, O, _⟩ := ins_get I.hok ea
    obtain ⟨od, J, _⟩ := O.look
    exact PySem.W.kia_one (PySem.W.kitx_own (cl.get _) cl.hd ha hn htk hm) I.kIn J e (fun z => nomatch z) h
end
end L2

namespace L2
open PySem PySem.Spec PyProof.Rows

/-! ### room -/
structure Room (k : Nat) (A : Around) : Prop where
  hd : A.handled = none
  dp : A.depth + 3 * k + 5 < recursionLimit
  un : A.units + 16 * k + 200 < cLine
theorem Room.mono {j k : Nat} {A : Around} (r : Room k A) (h : j ≤ k) : Room j A := ⟨r.hd, by have := r.dp; omega, by have := r.un; omega⟩
theorem Room.deeper {k : Nat} {A : Around} (r : Room (k + 1) A) (env : Env) : Room k (A.deeper env) :=
  ⟨r.hd, by have := r.dp; show A.depth + 1 + 3 * k + 5 < _; omega, by have := r.un; show A.units + 3 + 16 * k + 200 < _; omega⟩
theorem Room.in1 {k : Nat} {A : Around} (r : Room (k + 1) A) : Room k A.in1 :=
  ⟨r.hd, by have := r.dp; show A.depth + 3 * k + 5 < _; omega, by have := r.un; show A.units + 1 + 16 * k + 200 < _; omega⟩
theorem make_depth {A : Around} {C : Addr} {us : List Value} {kw : List (Str × Value)} : (A.under (.builtin "type.__call__" ⟨.ref C :: us, kw⟩)).depth = A.depth + 1 := by
  first | rfl | simp [Around.under, Code.weight, Code.isCreation, Code.isGuard, Code.isCaller, Code.frames, Code.isFrame, guardIds]
theorem make_units {A : Around} {C : Addr} {us : List Value} {kw : List (Str × Value)} : (A.under (.builtin "type.__call__" ⟨.ref C :: us, kw⟩)).units = A.units + 1 := by
  first | rfl | simp [Around.under, Code.cUnits, Code.frames, Code.isFrame]
theorem Room.make {k : Nat} {A : Around} (r : Room (k + 1) A) (C : Addr) (us : List Value) (kw : List (Str × Value)) : Room k (A.under (.builtin "type.__call__" ⟨.ref C :: us, kw⟩)) :=
  ⟨r.hd, by have := r.dp; rw [make_depth]; omega, by have := r.un; rw [make_units]; omega⟩
theorem Room.depth {k : Nat} {A : Around} (r : Room k A) : A.depth < recursionLimit := by have := r.dp; omega
theorem Room.units {k : Nat} {A : Around} (r : Room k A) : A.units + 64 < cLine := by have := r.un; omega
theorem Room.units0 {k : Nat} {A : Around} (r : Room k A) : A.units < cLine := by have := r.un; omega

/-! ### argument lists and displays -/
def tNil : TA := fun _ H Q => Q [] H
def tCons (ta : TE) (tr : TA) : TA := fun σ H Q => ta σ H fun x H1 => tr σ H1 fun xs H2 => Q (x :: xs) H2
section
variable {X : Cx} {e : Expr} {es : List Expr} {te : TE} {t : TA} {pos : Pos}
theorem pa_nil : PA X [] tNil := fun _ _ _ _ H Q I h => Calls.spliced_nil ⟨[], H, I, .nil, h⟩
theorem pa_cons (ha : PE X e te) (hr : PA X es t) (hs : starEach (e :: es) X.env = (false, eval e X.env) :: starEach es X.env := by rfl) : PA X (e :: es) (tCons te t) := by
  intro pos pins s σ H Q I h
  rw [hs]
  show wpAny _ _ (spliced ((false, eval e X.env) :: backTo pos (starEach es X.env))) _ _ s
  refine Calls.spliced_cons (thn (ha pins s σ H _ I h) fun u s1 ⟨x, H1, I1, r1, q1⟩ => ?_)
  exact thn (hr pos pins s1 σ H1 _ I1 q1) fun us s2 ⟨xs, H2, I2, r2, q2⟩ => ⟨x :: xs, H2, I2, .cons r1 r2, q2⟩

/-- a tuple, a list of written items -/
def tTup (t : TA) : TE := fun σ H Q => t σ H fun xs H1 => xs.length ≤ sizeLine ∧ ∀ p, H1 p = none → Q (.ref p) (upd H1 p (.tup xs))
def tLst (t : TA) : TE := fun σ H Q => t σ H fun xs H1 => xs.length ≤ sizeLine ∧ ∀ p, H1 p = none → Q (.ref p) (upd H1 p (.lst xs))
theorem pe_tup {x1} (h : PA X es t) : PE X (.Tuple es x1 pos) (tTup t) := by
  intro pins s σ H Q I hq
  refine wpAny_Tuple_spliced (thn (h pos pins s σ H _ I hq) fun us s1 ⟨xs, H1, I1, r, z, q⟩ => ⟨by rw [← r.length]; exact z, ?_⟩)
  have hf : H1 s1.heap.objs.size = none := I1.hok.fresh (Nat.le_refl _)
  refine ⟨.ref s1.heap.objs.size, upd H1 s1.heap.objs.size (.tup xs), I1.laid (t' := s1.toks) (fun b u e => Heap.get?_push_of_some _ e) (Nat.le_refl _) ?_, rfl, q _ hf⟩
  exact ⟨z, us, r, ⟨_, Heap.get?_push_size _ rfl, rfl, _, rfl⟩⟩
theorem pe_lst (h : PA X es t) : PE X (.List es pos) (tLst t) := by
  intro pins s σ H Q I hq
  refine wpAny_List_spliced (thn (h pos pins s σ H _ I hq) fun us s1 ⟨xs, H1, I1, r, z, q⟩ => ⟨by rw [← r.length]; exact z, ?_⟩)
  have hf : H1 s1.heap.objs.size = none := I1.hok.fresh (Nat.le_refl _)
  refine ⟨.ref s1.heap.objs.size, upd H1 s1.heap.objs.size (.lst xs), I1.laid (t' := s1.toks) (fun b u e => Heap.get?_push_of_some _ e) (Nat.le_refl _) ?_, rfl, q _ hf⟩
  exact ⟨z, us, 0, r, Heap.get?_push_size _ rfl⟩
end

/-! ### what a def promises -/
/-- a def's promise: the bound arguments in the parameters' order, the heap, the wanted end, the wanted exception -/
abbrev Sp := List V → Hp → VK → XK → Prop
/-- how an exception lies behind a call (file 08 gives it): the callers' frames, abstract heap and state ahead of the call, the wish, the exception, the state -/
abbrev CXT := List Env → Hp → Shared → XK → Value → Shared → Prop

/-- the state at a call -/
structure Env0 (P : Program) (w : World) (K : PySem.W.Frag) (mg : Str → Option Value) (base : Heap) (A : Around) (outer : List Env) (s : Shared) (H : Hp) : Prop where
  frames : A.frames = some outer
  mod : Mod K mg base
  bs : ∀ b o, base.get? b = some o → s.heap.get? b = some o ∧ H b = none
  bsz : base.objs.size ≤ s.heap.objs.size
  funs : s.heap.FunFrames base outer
  frf : ∀ b ∈ frs outer, H b = none
  hok : HOk P w H s.heap
  bare : AllBare s.gens
/-- a call's end -/
def CE (outer : List Env) (P : Program) (w : World) (H : Hp) (s : Shared) (Q : VK) (u : Value) (s' : Shared) : Prop :=
  ∃ v H', s'.os = s.os ∧ AllBare s'.gens ∧ Un (frs outer) [] H H' s.heap s'.heap ∧ HOk P w H' s'.heap ∧ RelV v u ∧ Q v H'
def CR (CX : CXT) (outer : List Env) (P : Program) (w : World) (H : Hp) (s : Shared) (Q : VK) (E : XK) (r : Result) (s' : Shared) : Prop :=
  match r with
  | .ok (.ret u) => CE outer P w H s Q u s'
  | .ok _ => False
  | .error e => CX outer H s E e s'
structure FnOk (P : Program) (w : World) (K : PySem.W.Frag) (mg : Str → Option Value) (base : Heap) (CX : CXT) (k : Nat) (f : Addr) (fd : FuncData) (ps : List Str) (sp : Sp) : Prop where
  len : ∀ vs H Q E, sp vs H Q E → vs.length = ps.length
  run : ∀ (A : Around) (outer : List Env) (s : Shared) (H : Hp) (args : Args) (us : List Value) (vs : List V) (Q : VK) (E : XK), Room k A → Env0 P w K mg base A outer s H → BindsTo s fd args (ps.zip us) → Vals vs us → sp vs H Q E →
    codeAny (model P w) A (.call (.ref f) args) (CR CX outer P w H s Q E) s
theorem FnOk.mono {P : Program} {w : World} {K : PySem.W.Frag} {mg : Str → Option Value} {base : Heap} {CX : CXT} {j k : Nat} {f : Addr} {fd : FuncData} {ps : List Str} {sp : Sp} (F : FnOk P w K mg base CX j f fd ps sp) (h : j ≤ k) :
    FnOk P w K mg base CX k f fd ps sp := ⟨F.len, fun A outer s H args us vs Q E hr => F.run A outer s H args us vs Q E (hr.mono h)⟩
/-- a weaker promise -/
theorem FnOk.imp {P : Program} {w : World} {K : PySem.W.Frag} {mg : Str → Option Value} {base : Heap} {CX : CXT} {k : Nat} {f : Addr} {fd : FuncData} {ps : List Str} {sp sp' : Sp} (F : FnOk P w K mg base CX k f fd ps sp)
    (h : ∀ vs H Q E, sp' vs H Q E → sp vs H Q E) : FnOk P w K mg base CX k f fd ps sp' :=
  ⟨fun vs H Q E q => F.len vs H Q E (h _ _ _ _ q), fun A outer s H args us vs Q E hr he hb hv hs => F.run A outer s H args us vs Q E hr he hb hv (h _ _ _ _ hs)⟩

theorem Env0.make {P : Program} {w : World} {K : PySem.W.Frag} {mg : Str → Option Value} {base : Heap} {A : Around} {outer : List Env} {s : Shared} {H : Hp} (e : Env0 P w K mg base A outer s H) (C : Addr) (us : List Value) (kw : List (Str × Value)) :
    Env0 P w K mg base (A.under (.builtin "type.__call__" ⟨.ref C :: us, kw⟩)) outer s H := ⟨by first | exact e.frames | (simpa [Around.under, Code.envs, Code.isFrame, pushEnvs] using e.frames), e.mod, e.bs, e.bsz, e.funs, e.frf, e.hok, e.bare⟩
theorem Env0.in1 {P : Program} {w : World} {K : PySem.W.Frag} {mg : Str → Option Value} {base : Heap} {A : Around} {outer : List Env} {s : Shared} {H : Hp} (e : Env0 P w K mg base A outer s H) :
    Env0 P w K mg base A.in1 outer s H := ⟨e.frames, e.mod, e.bs, e.bsz, e.funs, e.frf, e.hok, e.bare⟩

section
variable {X : Cx} {pins : List (Addr × Obj)} {σ : St} {H : Hp} {s s' : Shared}
/-- from a body: what a callee wants -/
theorem Inv.env0 (I : Inv X pins σ H s) : Env0 X.prog X.w X.K X.mg X.base X.A X.stack s H :=
  ⟨I.ok.frames, I.ok.mod, I.bs, Nat.le_trans I.ok.bsz I.sz, I.stack, I.stkFree, I.hok, I.bare⟩
/-- behind a call -/
theorem Inv.after {Q : VK} {u : Value} (I : Inv X pins σ H s) (h : CE X.stack X.prog X.w H s Q u s') : EP X pins σ Q u s' := by
  obtain ⟨v, H', os, bare, un, hok, r, q⟩ := h
  obtain ⟨hh, g, d, t, os'⟩ := s'
  obtain rfl : os' = s.os := os
  exact ⟨v, H', I.call (h' := hh) (g' := g) (d' := d) (t' := t) (ch := []) un hok bare (fun b z => absurd z (by simp)), r, q⟩
end

/-! ### calls -/
/-- f(..): the written arguments, then the defaults dvs; E: what is wanted of an exception -/
def tCall (sp : Sp) (dvs : List V) (E : XK) (t : TA) : TE := fun σ H Q => t σ H fun vs H1 => sp (vs ++ dvs) H1 Q E
/-- o.m(..) of an instance of the class at C -/
def tMeth (C : Addr) (m : Str) (sp : Sp) (dvs : List V) (E : XK) (ta : TE) (t : TA) : TE := fun σ H Q => ta σ H fun x H1 => ∃ a dx fs, x = .ref a ∧ H1 a = some (.ins C dx fs) ∧ fs.lookup m = none ∧
  t σ H1 fun vs H2 => sp (x :: (vs ++ dvs)) H2 Q E
/-- C(..): a new instance and its dict, then __init__ -/
def tMake (C : Addr) (sp : Sp) (dvs : List V) (E : XK) (t : TA) : TE := fun σ H Q => t σ H fun vs H1 => ∀ x dx, H1 x = none → H1 dx = none → dx ≠ x →
  sp (.ref x :: (vs ++ dvs)) (upd (upd H1 dx (.own x)) x (.ins C dx [])) (fun v H2 => v = .non ∧ Q (.ref x) H2) E

/-- how the parameters are bound: us the positional arguments, kw the keywords' values by name, ds the defaults that fill up -/
def Binds (K : PySem.W.Frag) (fd : FuncData) (ps : List Str) (ds : List Value) : Prop :=
  ∀ (s : Shared) (us : List Value), K.In s.heap → (us ++ ds).length = ps.length → BindsTo s fd ⟨us, []⟩ (ps.zip (us ++ ds))
/-- every parameter is given -/
theorem Binds.all {K : PySem.W.Frag} {fd : FuncData} {ps : List Str} (h : ∀ us : List Value, us.length = ps.length → bindArgs fd ⟨us, []⟩ = pure (ps.zip us)) : Binds K fd ps [] := fun s us _ hl => by
  rw [List.append_nil] at hl ⊢
  exact .of_eq (h us hl)

/-- an exception of a callee reaches what this body wants of exceptions -/
def Passes (CX : CXT) (X : Cx) (E : XK) : Prop := ∀ (pins : List (Addr × Obj)) (σ : St) (H : Hp) (s : Shared) (e : Value) (s' : Shared), Inv X pins σ H s → CX X.stack H s E e s' → X.xe e s'

section
variable {X : Cx} {CX : CXT} {k : Nat} {f C : Addr} {fd : FuncData} {ps : List Str} {sp : Sp} {dvs : List V} {ds : List Value} {E : XK} {x m : Str} {p pos apos : Pos} {e o : Expr} {es : List Expr} {ta : TE} {t : TA}

/-- the callee runs -/
theorem run_fn {pins : List (Addr × Obj)} {σ : St} {H : Hp} {s : Shared} {Q : VK} {us : List Value} {vs : List V} (F : FnOk X.prog X.w X.K X.mg X.base CX k f fd ps sp) (hr : Room k X.A) (hb : Binds X.K fd ps ds) (hd : Vals dvs ds) (hx : Passes CX X E)
    (I : Inv X pins σ H s) (r : Vals vs us) (h : sp (vs ++ dvs) H Q E) : wpAny (model X.prog X.w) X.A (call (.ref f) us) (EP X pins σ Q) X.xe s := by
  have r2 : Vals (vs ++ dvs) (us ++ ds) := r.append hd
  have hl : (us ++ ds).length = ps.length := by rw [← r2.length]; exact F.len _ _ _ _ h
  refine wpAny_call (codeAny_mono (F.run X.A X.stack s H ⟨us, []⟩ (us ++ ds) (vs ++ dvs) Q E hr I.env0 (hb s us I.kIn hl) r2 h) fun r s' hq => ?_)
  cases r with
  | error e => exact hx pins σ H s e s' I hq
  | ok fl =>
    cases fl with
    | ret u => exact I.after hq
    | next => exact False.elim hq
    | brk => exact False.elim hq
    | cont => exact False.elim hq

theorem pe_call (F : FnOk X.prog X.w X.K X.mg X.base CX k f fd ps sp) (hr : Room k X.A) (hg : Gl X x) (hm : X.mg x = some (.ref f)) (hk : PySem.W.keepIn X.K (.ref f) = true) (hb : Binds X.K fd ps ds) (hd : Vals dvs ds) (hx : Passes CX X E)
    (ha : PA X (e :: es) t) (hdb : (x == ("__debug__" : Str)) = false := by decide) (he : starEach (e :: es) X.env = (false, eval e X.env) :: starEach es X.env := by rfl) (hpl : (backTo pos (starEach es X.env)).any (·.1) = false := by rfl) :
    PE X (.Call (.Name x p) (e :: es) [] pos) (tCall sp dvs E t) := by
  intro pins s σ H Q I h
  refine wpAny_Call_Name_kw (ld_glob I hg hm ?_ hdb)
  refine PySem.W.callWith_K (h₀ := X.base) I.ok.mod.kin hk (thn (ha pos pins s σ H _ I h) fun us s1 ⟨vs, H1, I1, r, q⟩ => ⟨I1.kIn, ?_⟩) he hpl
  exact run_fn F hr hb hd hx I1 r q
theorem pe_call0 (F : FnOk X.prog X.w X.K X.mg X.base CX k f fd ps sp) (hr : Room k X.A) (hg : Gl X x) (hm : X.mg x = some (.ref f)) (hk : PySem.W.keepIn X.K (.ref f) = true) (hb : Binds X.K fd ps ds) (hd : Vals dvs ds) (hx : Passes CX X E)
    (hdb : (x == ("__debug__" : Str)) = false := by decide) : PE X (.Call (.Name x p) [] [] pos) (tCall sp dvs E tNil) := by
  intro pins s σ H Q I h
  refine wpAny_Call_Name_kw (ld_glob I hg hm ?_ hdb)
  exact PySem.W.callWith_K0 I.kIn hk (run_fn (us := []) F hr hb hd hx I .nil h)

/-- o.m(e, ..) -/
theorem pe_meth {pl : Sem Bool} (he : PE X o ta) (c : Cls X.K C) (hm : Meth X.K C m f) (F : FnOk X.prog X.w X.K X.mg X.base CX k f fd ps sp) (hr : Room k X.A) (hb : Binds X.K fd ps ds) (hd : Vals dvs ds) (hx : Passes CX X E) (ha : PA X (e :: es) t)
    (hst : starEach (e :: es) X.env = (false, eval e X.env) :: starEach es X.env := by rfl) (hpl : (backTo pos (starEach es X.env)).any (·.1) = false := by rfl)
    (ht : eval (.Call (.Attribute o m apos) (e :: es) [] pos) X.env = (do
      let ov ← eval o X.env
      standAt apos.atName
      let (f, first) ← holding [ov] (getMethod ov m pl)
      callWith pos f first (backTo pos (starEach (e :: es) X.env)) (backToKw pos (keywordEach [] X.env))) := by rfl) :
    PE X (.Call (.Attribute o m apos) (e :: es) [] pos) (tMeth C m sp dvs E ta t) := by
  intro pins s σ H Q I h
  refine PySem.W.methodCall_KW (pl := pl) (thn (he pins s σ H _ I h) fun u s1 ⟨x, H1, I1, rx, a, dx, fs, ex, ea, l, q⟩ => ?_) ht
  subst ex
  obtain rfl : u = Value.ref a := rx
  refine getmeth_ok I1 ea c hm l ?_
  refine PySem.W.callWith_K (first := [.ref a]) (h₀ := X.base) I.ok.mod.kin hm.kp (thn (ha pos pins s1 σ H1 _ I1 q) fun us s2 ⟨vs, H2, I2, r, q2⟩ => ⟨I2.kIn, ?_⟩) hst hpl
  exact run_fn (us := .ref a :: us) (vs := .ref a :: vs) F hr hb hd hx I2 (.cons rfl r) q2
/-- o.m() -/
theorem pe_meth0 {pl : Sem Bool} (he : PE X o ta) (c : Cls X.K C) (hm : Meth X.K C m f) (F : FnOk X.prog X.w X.K X.mg X.base CX k f fd ps sp) (hr : Room k X.A) (hb : Binds X.K fd ps ds) (hd : Vals dvs ds) (hx : Passes CX X E)
    (ht : eval (.Call (.Attribute o m apos) [] [] pos) X.env = (do
      let ov ← eval o X.env
      standAt apos.atName
      let (f, first) ← holding [ov] (getMethod ov m pl)
      callWith pos f first (backTo pos (starEach [] X.env)) (backToKw pos (keywordEach [] X.env))) := by rfl) :
    PE X (.Call (.Attribute o m apos) [] [] pos) (tMeth C m sp dvs E ta tNil) := by
  intro pins s σ H Q I h
  refine PySem.W.methodCall_KW (pl := pl) (thn (he pins s σ H _ I h) fun u s1 ⟨x, H1, I1, rx, a, dx, fs, ex, ea, l, q⟩ => ?_) ht
  subst ex
  obtain rfl : u = Value.ref a := rx
  refine getmeth_ok I1 ea c hm l ?_
  exact PySem.W.callWith_K0 (first := [.ref a]) I1.kIn hm.kp (run_fn (us := [.ref a]) (vs := [.ref a]) F hr hb hd hx I1 (.cons rfl .nil) q)

/-- what a class must have to be made -/
structure Mk (K : PySem.W.Frag) (C f : Addr) : Prop where
  makes : PySem.W.makesIn K C = true
  init : PySem.W.findIn K (.ref C) "__init__" = some (some (.ref f))
  fn : PySem.W.isFn K (.ref f) = true
  kp : PySem.W.keepIn K (.ref C) = true

theorem run_make {pins : List (Addr × Obj)} {σ : St} {H : Hp} {s : Shared} {Q : VK} {us : List Value} {vs : List V} (M : Mk X.K C f) (F : FnOk X.prog X.w X.K X.mg X.base CX k f fd ps sp) (hr : Room (k + 1) X.A) (hb : Binds X.K fd ps ds) (hd : Vals dvs ds)
    (hx : Passes CX X E) (I : Inv X pins σ H s) (r : Vals vs us)
    (h : ∀ x dx, H x = none → H dx = none → dx ≠ x → sp (.ref x :: (vs ++ dvs)) (upd (upd H dx (.own x)) x (.ins C dx [])) (fun v H2 => v = .non ∧ Q (.ref x) H2) E) :
    wpAny (model X.prog X.w) X.A (call (.ref C) us) (EP X pins σ Q) X.xe s := by
  have hq := h (s.heap.objs.size + 1) s.heap.objs.size (I.hok.fresh (Nat.le_succ _)) (I.hok.fresh (Nat.le_refl _)) (Nat.ne_of_lt (Nat.lt_succ_self _))
  have I2 := Inv.made (C := C) I
  have r2 : Vals (V.ref (s.heap.objs.size + 1) :: (vs ++ dvs)) (Value.ref (s.heap.objs.size + 1) :: (us ++ ds)) := .cons rfl (r.append hd)
  have hl : (Value.ref (s.heap.objs.size + 1) :: us ++ ds).length = ps.length := by
    have e := r2.length
    rw [F.len _ _ _ _ hq] at e
    exact e.symm
  refine wpAny_call (make_map (f := f) I.kIn M.makes M.init (beq_iff_eq.mp M.fn) (codeAny_mono (F.run _ X.stack _ _ ⟨Value.ref (s.heap.objs.size + 1) :: us, []⟩ (Value.ref (s.heap.objs.size + 1) :: (us ++ ds)) _ _ E (hr.make C us [])
    (I2.env0.make C us []) (hb _ (Value.ref (s.heap.objs.size + 1) :: us) I2.kIn hl) r2 hq) fun r s' hq' => ?_))
  cases r with
  | error e => exact hx pins σ _ _ e s' I2 hq'
  | ok fl =>
    cases fl with
    | ret u =>
      obtain ⟨v, H', I3, rv, ev, q3⟩ := I2.after hq'
      subst ev
      exact ⟨rv, ⟨V.ref (s.heap.objs.size + 1), H', I3, rfl, q3⟩⟩
    | next => exact False.elim hq'
    | brk => exact False.elim hq'
    | cont => exact False.elim hq'
theorem pe_make (M : Mk X.K C f) (F : FnOk X.prog X.w X.K X.mg X.base CX k f fd ps sp) (hr : Room (k + 1) X.A) (hg : Gl X x) (hm : X.mg x = some (.ref C)) (hb : Binds X.K fd ps ds) (hd : Vals dvs ds) (hx : Passes CX X E)
    (ha : PA X (e :: es) t) (hdb : (x == ("__debug__" : Str)) = false := by decide) (he : starEach (e :: es) X.env = (false, eval e X.env) :: starEach es X.env := by rfl) (hpl : (backTo pos (starEach es X.env)).any (·.1) = false := by rfl) :
    PE X (.Call (.Name x p) (e :: es) [] pos) (tMake C sp dvs E t) := by
  intro pins s σ H Q I h
  refine wpAny_Call_Name_kw (ld_glob I hg hm ?_ hdb)
  refine PySem.W.callWith_K (h₀ := X.base) I.ok.mod.kin M.kp (thn (ha pos pins s σ H _ I h) fun us s1 ⟨vs, H1, I1, r, q⟩ => ⟨I1.kIn, ?_⟩) he hpl
  exact run_make M F hr hb hd hx I1 r q
theorem pe_make0 (M : Mk X.K C f) (F : FnOk X.prog X.w X.K X.mg X.base CX k f fd ps sp) (hr : Room (k + 1) X.A) (hg : Gl X x) (hm : X.mg x = some (.ref C)) (hb : Binds X.K fd ps ds) (hd : Vals dvs ds) (hx : Passes CX X E)
    (hdb : (x == ("__debug__" : Str)) = false := by decide) : PE X (.Call (.Name x p) [] [] pos) (tMake C sp dvs E tNil) := by
  intro pins s σ H Q I h
  refine wpAny_Call_Name_kw (ld_glob I hg hm ?_ hdb)
  exact PySem.W.callWith_K0 I.kIn M.kp (run_make (us := []) M F hr hb hd hx I .nil h)
end

/-! ### keywords -/
/-- the values of the keywords, from the left -/
def PK (X : Cx) (kws : List Keyword) (t : TA) : Prop :=
  ∀ (pos : Pos) (pins : List (Addr × Obj)) (s : Shared) (σ : St) (H : Hp) (Q : List V → Hp → Prop), Inv X pins σ H s → t σ H Q → wpAny (model X.prog X.w) X.A (evalAll ((backToKw pos (keywordEach kws X.env)).map (·.2))) (AP X pins σ Q) X.xe s
section
variable {X : Cx} {CX : CXT} {k : Nat} {f C : Addr} {fd : FuncData} {ps ks : List Str} {sp : Sp} {E : XK} {x m : Str} {p pos apos kpos : Pos} {e o : Expr} {es : List Expr} {kws : List Keyword} {te ta : TE} {t tk : TA} {nm : Option Str}
theorem pk_nil : PK X [] tNil := fun _ _ _ _ H Q I h => wpAny_evalAll_nil ⟨[], H, I, .nil, h⟩
theorem pk_cons (ha : PE X e te) (hr : PK X kws t) : PK X (⟨nm, e, kpos⟩ :: kws) (tCons te t) := by
  intro pos pins s σ H Q I h
  show wpAny _ _ (evalAll ((do let v ← eval e X.env; standAt pos; pure v) :: (backToKw pos (keywordEach kws X.env)).map (·.2))) _ _ s
  refine wpAny_evalAll_cons (wpAny_bind (thn (ha pins s σ H _ I h) fun u s1 ⟨x, H1, I1, r1, q1⟩ => wpAny_bind (wpAny_standAt (wpAny_pure ?_))))
  exact thn (hr pos pins s1 σ H1 _ I1 q1) fun us s2 ⟨xs, H2, I2, r2, q2⟩ => ⟨x :: xs, H2, I2, .cons r1 r2, q2⟩

/-- how a call with keywords binds: g puts the positional values us and the keywords' values ws (names ks) in the parameters' order, defaults among them -/
structure KBinds (K : PySem.W.Frag) (fd : FuncData) (ps ks : List Str) (g : List Value → List Value → List Value) (gV : List V → List V → List V) : Prop where
  to : ∀ (s : Shared) (us ws : List Value), K.In s.heap → (g us ws).length = ps.length → BindsTo s fd ⟨us, ks.zip ws⟩ (ps.zip (g us ws))
  rel : ∀ {vs : List V} {us : List Value} {zs : List V} {ws : List Value}, Vals vs us → Vals zs ws → Vals (gV vs zs) (g us ws)
def tCallK (sp : Sp) (gV : List V → List V → List V) (E : XK) (t tk : TA) : TE := fun σ H Q => t σ H fun vs H1 => tk σ H1 fun zs H2 => sp (gV vs zs) H2 Q E
variable {g : List Value → List Value → List Value} {gV : List V → List V → List V}
theorem run_fnk {pins : List (Addr × Obj)} {σ : St} {H : Hp} {s : Shared} {Q : VK} {us ws : List Value} {vs zs : List V} (F : FnOk X.prog X.w X.K X.mg X.base CX k f fd ps sp) (hr : Room k X.A) (hb : KBinds X.K fd ps ks g gV) (hx : Passes CX X E)
    (I : Inv X pins σ H s) (r : Vals vs us) (rz : Vals zs ws) (h : sp (gV vs zs) H Q E) : wpAny (model X.prog X.w) X.A (call (.ref f) us (ks.zip ws)) (EP X pins σ Q) X.xe s := by
  have r2 := hb.rel r rz
  have hl : (g us ws).length = ps.length := by rw [← r2.length]; exact F.len _ _ _ _ h
  refine wpAny_call (codeAny_mono (F.run X.A X.stack s H ⟨us, ks.zip ws⟩ (g us ws) (gV vs zs) Q E hr I.env0 (hb.to s us ws I.kIn hl) r2 h) fun r s' hq => ?_)
  cases r with
  | error e => exact hx pins σ H s e s' I hq
  | ok fl =>
    cases fl with
    | ret u => exact I.after hq
    | next => exact False.elim hq
    | brk => exact False.elim hq
    | cont => exact False.elim hq
/-- f(e, .., k = v, ..) -/
theorem pe_callK (F : FnOk X.prog X.w X.K X.mg X.base CX k f fd ps sp) (hr : Room k X.A) (hg : Gl X x) (hm : X.mg x = some (.ref f)) (hk : PySem.W.keepIn X.K (.ref f) = true) (hb : KBinds X.K fd ps ks g gV) (hx : Passes CX X E)
    (ha : PA X (e :: es) t) (hkw : PK X kws tk) (hall : (backToKw pos (keywordEach kws X.env)).all (·.1.isSome) = true := by rfl) (hks : (backToKw pos (keywordEach kws X.env)).filterMap (·.1) = ks := by rfl)
    (hdb : (x == ("__debug__" : Str)) = false := by decide) (he : starEach (e :: es) X.env = (false, eval e X.env) :: starEach es X.env := by rfl)
    (hpl : ((backTo pos (starEach (e :: es) X.env)).any (·.1) || (backToKw pos (keywordEach kws X.env)).any (·.1.isNone)) = false := by rfl) :
    PE X (.Call (.Name x p) (e :: es) kws pos) (tCallK sp gV E t tk) := by
  intro pins s σ H Q I h
  refine wpAny_Call_Name_kw (ld_glob I hg hm ?_ hdb)
  refine PySem.W.callWith_KW (h₀ := X.base) I.ok.mod.kin hk hall (thn (ha pos pins s σ H _ I h) fun us s1 ⟨vs, H1, I1, r, q⟩ => ?_) hpl he
  refine thn (hkw pos pins s1 σ H1 _ I1 q) fun ws s2 ⟨zs, H2, I2, rz, q2⟩ => ⟨I2.kIn, ?_⟩
  rw [hks]
  exact run_fnk F hr hb hx I2 r rz q2
end

/-! ### a def's body keeps its promise -/
/-- names: the parameters first -/
structure FnScope (N P : List Str) (sc : Scope) : Prop where
  kind : sc.kind = .function
  co : sc.isCoroutine = false
  gen : sc.isGenerator = false
  nd : N.Nodup
  pre : N.take P.length = P
  par : ∀ x ∈ P, sc.names.lookup x = some .local ∨ sc.names.lookup x = some .cell
  nofree : ∀ y ∈ sc.names, y.2 ≠ .free

theorem bindL_out {kindOf : Str → Option NameKind} {x : Str} : ∀ {binds : List (Str × Value)} {m : Str → Option Value}, (∀ v, (x, v) ∉ binds) → bindL kindOf binds m x = m x
  | [], _, _ => rfl
  | (n, v) :: r, m, h => by
    unfold bindL
    rw [bindL_out fun w hw => h w (List.mem_cons_of_mem _ hw)]
    split
    · have : x ≠ n := by rintro rfl; exact h v List.mem_cons_self
      simp [this]
    · rfl
theorem bindC_out {kindOf : Str → Option NameKind} {x : Str} : ∀ {binds : List (Str × Value)} {m : Str → Option Value}, (∀ v, (x, v) ∉ binds) → bindC kindOf binds m x = m x
  | [], _, _ => rfl
  | (n, v) :: r, m, h => by
    unfold bindC
    rw [bindC_out fun w hw => h w (List.mem_cons_of_mem _ hw)]
    split
    · rfl
    · have : x ≠ n := by rintro rfl; exact h v List.mem_cons_self
      simp [this]
theorem bindL_get {kindOf : Str → Option NameKind} {x : Str} {v : Value} : ∀ {P : List Str} {vs : List Value} {i : Nat} {m : Str → Option Value}, P.Nodup → P[i]? = some x → vs[i]? = some v → kindOf x = some .local →
    bindL kindOf (P.zip vs) m x = some v
  | [], _, _, _, _, h, _, _ => by simp at h
  | _ :: _, [], _, _, _, _, h, _ => by simp at h
  | p :: P, w :: vs, 0, m, nd, h1, h2, hk => by
    simp at h1 h2; subst h1; subst h2
    show bindL kindOf ((p, w) :: P.zip vs) m p = _
    unfold bindL
    rw [bindL_out fun v hv => (List.nodup_cons.mp nd).1 (List.of_mem_zip hv).1, if_pos hk]
    simp
  | p :: P, w :: vs, i + 1, m, nd, h1, h2, hk => by
    show bindL kindOf ((p, w) :: P.zip vs) m x = _
    unfold bindL
    exact bindL_get (i := i) (List.nodup_cons.mp nd).2 (by simpa using h1) (by simpa using h2) hk
theorem bindC_get {kindOf : Str → Option NameKind} {x : Str} {v : Value} : ∀ {P : List Str} {vs : List Value} {i : Nat} {m : Str → Option Value}, P.Nodup → P[i]? = some x → vs[i]? = some v → kindOf x ≠ some .local →
    bindC kindOf (P.zip vs) m x = some v
  | [], _, _, _, _, h, _, _ => by simp at h
  | _ :: _, [], _, _, _, _, h, _ => by simp at h
  | p :: P, w :: vs, 0, m, nd, h1, h2, hk => by
    simp at h1 h2; subst h1; subst h2
    show bindC kindOf ((p, w) :: P.zip vs) m p = _
    unfold bindC
    rw [bindC_out fun v hv => (List.nodup_cons.mp nd).1 (List.of_mem_zip hv).1, if_neg hk]
    simp
  | p :: P, w :: vs, i + 1, m, nd, h1, h2, hk => by
    show bindC kindOf ((p, w) :: P.zip vs) m x = _
    unfold bindC
    exact bindC_get (i := i) (List.nodup_cons.mp nd).2 (by simpa using h1) (by simpa using h2) hk

/-- the names' values at the entry -/
def start (N : List Str) (vs : List V) : St := vs.map some ++ List.replicate (N.length - vs.length) none

/-- the context of a def's body, at its entry; an exception leaves the frame, then lies as CX says -/
def cxOf (CX : CXT) (P : Program) (w : World) (K : PySem.W.Frag) (mg : Str → Option Value) (base : Heap) (N : List Str) (qual : Str) (scope : Scope) (f : Addr) (cd : Value) (A : Around) (outer : List Env) (s : Shared) (H : Hp) (E : XK) : Cx where
  prog := P
  w := w
  K := K
  mg := mg
  base := base
  A := A.deeper (envOfC qual scope s.heap.objs.size f cd)
  N := N
  s₀ := s
  H₀ := H
  env := envOfC qual scope s.heap.objs.size f cd
  outer := outer
  stack := envOfC qual scope s.heap.objs.size f cd :: outer
  ex := []
  calm := true
  fn := fun _ => true
  pn := []
  xe := fun e s' => wpAny (model P w) (A.deeper (envOfC qual scope s.heap.objs.size f cd)) (leaving (envOfC qual scope s.heap.objs.size f cd) e) (fun _ s'' => CX outer H s E e s'') (fun e' s'' => CX outer H s E e' s'') s'

theorem cell_has {sc : Scope} {n : Nat} {x : Str} (h : sc.names.lookup x = some .cell) : ∃ c, (cellsFrom n sc.names []).lookup x = some c := by
  have q := PySem.W.cellsFrom_some sc.names n [] (.inl h)
  exact Option.isSome_iff_exists.mp q

theorem inv_start {CX : CXT} {P : Program} {w : World} {K : PySem.W.Frag} {mg : Str → Option Value} {base : Heap} {N ps : List Str} {qual : Str} {scope : Scope} {f : Addr} {cd : Value} {A : Around} {outer : List Env} {s s1 : Shared} {H : Hp} {E : XK} {us : List Value} {vs : List V}
    (S : FnScope N ps scope) (hd : A.handled = none) (e0 : Env0 P w K mg base A outer s H) (hl : vs.length = ps.length) (r : Vals vs us)
    (x : InCallC s s.heap.objs.size (bindL (envOfC qual scope s.heap.objs.size f cd).kindOf (ps.zip us) fun _ => none) (cellsFrom (s.heap.objs.size + 1) scope.names []) (bindC (envOfC qual scope s.heap.objs.size f cd).kindOf (ps.zip us) fun _ => none) s1) :
    Inv (cxOf CX P w K mg base N qual scope f cd A outer s H E) [] (start N vs) H s1 := by
  have hpl : ps.length ≤ N.length := by have := congrArg List.length S.pre; rw [List.length_take] at this; omega
  obtain ⟨h1, tk, rfl, hk⟩ := x.done
  have noA : ∀ b : Addr, b ∉ (cxOf CX P w K mg base N qual scope f cd A outer s H E).ex := fun b z => absurd (show b ∈ ([] : List Addr) from z) (by simp)
  refine ⟨⟨e0.mod, S.kind, rfl, rfl, Nat.le_refl _, fun y z c h1 h2 => ?_, fun y hy => ?_, fun y c _ h => ?_, fun _ => hd, Around.frames_deeper e0.frames, .inr ⟨rfl, rfl⟩, fun b z => absurd z (noA b), e0.bs, e0.bsz, fun b _ _ => noA b, fun b z => absurd z (noA b), e0.funs, e0.frf⟩,
    rfl, e0.bare, Un.kept hk, ⟨_, x.toInCall.ns, fun i y v h1 h2 h3 => ?_⟩, fun y c h => ⟨_, x.cell y c h⟩, e0.hok.fresh (Nat.le_refl _), fun y c h => ?_, fun p hp => absurd (show p ∈ ([] : List (Addr × Obj)) from hp) (by simp), e0.hok.kept hk, ?_⟩
  · exact name_of_addr x.apart (PySem.mem_of_lookup h1) (PySem.mem_of_lookup h2)
  · have hy : scope.names.lookup y = some .cell ∨ scope.names.lookup y = some .free := hy
    rcases hy with hy | hy
    · exact cell_has hy
    · exact absurd rfl (S.nofree _ (PySem.mem_of_lookup hy))
  · exact Nat.le_of_lt (x.above y c (PySem.mem_of_lookup h))
  · have hi : i < vs.length := by
      unfold start at h2
      by_cases hi : i < vs.length
      · exact hi
      · rw [List.getElem?_append_right (by simpa using hi)] at h2
        rw [List.getElem?_replicate] at h2
        split at h2 <;> cases h2
    have ha : vs[i]? = some v := by
      unfold start at h2
      rw [List.getElem?_append_left (by simpa using hi), List.getElem?_map] at h2
      cases e : vs[i]? with
      | none => rw [e] at h2; cases h2
      | some a => rw [e] at h2; cases h2; rfl
    obtain ⟨u, hu, rv⟩ := r.get ha
    have hp : ps[i]? = some y := by
      rw [← S.pre, List.getElem?_take_of_lt (by omega)]; exact h1
    have ndP : ps.Nodup := by rw [← S.pre]; exact S.nd.sublist (List.take_sublist _ _)
    refine ⟨u, rv, ?_⟩
    rcases S.par y (List.mem_of_getElem? hp) with k | k
    · exact .inl ⟨k, bindL_get ndP hp hu k⟩
    · obtain ⟨c, e⟩ := cell_has (n := s.heap.objs.size + 1) k
      refine .inr ⟨.inl k, c, e, ?_⟩
      have q := x.cell y c e
      rw [bindC_get ndP hp hu (by show scope.names.lookup y ≠ _; rw [k]; decide)] at q
      exact q
  · exact e0.hok.fresh (Nat.le_of_lt (x.above y c (PySem.mem_of_lookup h)))
  · unfold start
    show _ = N.length
    rw [List.length_append, List.length_map, List.length_replicate]
    omega

/-- THE RULE: a def (or a method) of the text, by its body. The body's reading t is chosen for each entry; it is run at the parameters' values -/
theorem fn_of {CX : CXT} {P : Program} {w : World} {K : PySem.W.Frag} {mg : Str → Option Value} {base : Heap} {k : Nat} {f : Addr} {name qual : Str} {params : Arguments} {body : List Stmt} {scope : Scope} {dV kV doc pm cdv ct oc : Value} {an od : Option Addr}
    {osl : Array (Option Value)} {N ps : List Str} {sp : Sp} (lk : K.lookup f = some ⟨oc, od, .func (PySem.W.fnOf name qual params body scope dV kV doc pm an cdv ct), osl⟩) (hcd : PySem.W.codeIn K cdv qual = true) (S : FnScope N ps scope)
    (len : ∀ vs H Q E, sp vs H Q E → vs.length = ps.length)
    (hbody : ∀ (A : Around) (outer : List Env) (s : Shared) (H : Hp) (vs : List V) (Q : VK) (E : XK), Room k (A.deeper (envOfC qual scope s.heap.objs.size f cdv)) → sp vs H Q E →
      ∃ t, PSs (cxOf CX P w K mg base N qual scope f cdv A outer s H E) body t ∧ t { nx := fun _ H' => Q .non H', rt := Q } (start N vs) H) :
    FnOk P w K mg base CX (k + 1) f (PySem.W.fnOf name qual params body scope dV kV doc pm an cdv ct) ps sp := by
  refine ⟨len, fun A outer s H args us vs Q E hr e0 hb r hsp => ?_⟩
  have hl := len _ _ _ _ hsp
  have KX : K.In s.heap := e0.mod.kin.keeps fun b o e => (e0.bs b o e).1
  have lim : s.heap.NoLimit := e0.mod.nolimit.keeps fun b o e => (e0.bs b o e).1
  have hkind : ∀ y ∈ ps.zip us, scope.names.lookup y.1 = some .local ∨ (scope.names.lookup y.1 = some .cell ∧ ((cellsFrom (s.heap.objs.size + 1) scope.names []).lookup y.1).isSome = true) := fun ⟨n, v⟩ hy => by
    rcases S.par n (List.of_mem_zip hy).1 with q | q
    · exact .inl q
    · exact .inr ⟨q, PySem.W.cellsFrom_some _ _ _ (.inl q)⟩
  refine codeAny_call_function hr.depth (KX _ _ lk) rfl S.co S.gen rfl (PySem.W.codeRec_of KX hcd) (hb _ _ _ _ ?_)
  refine wpAny_newFunctionEnv_cells S.kind hkind fun env he s1 x => ?_
  subst he
  refine ⟨lim.keeps x.toInCall.keep, codeAny_func ?_⟩
  obtain ⟨t, ht, hq⟩ := hbody A outer s H vs Q E (hr.deeper _) hsp
  have I : Inv (cxOf CX P w K mg base N qual scope f cdv A outer s H E) [] (start N vs) H s1 := inv_start S hr.hd e0 hl r x
  refine wpAny_mono (ht [] s1 (start N vs) H _ I hq) (fun fl s' hs => ?_) fun e s' hs => hs
  have fin : ∀ {σ' : St} {H' : Hp} {v : V} {u : Value}, Inv (cxOf CX P w K mg base N qual scope f cdv A outer s H E) [] σ' H' s' → RelV v u → Q v H' → CE outer P w H s Q u s' :=
    fun {σ' H' v u} J rv q => ⟨v, H', J.os, J.bare, J.base, J.hok, rv, q⟩
  cases fl with
  | ret u =>
    obtain ⟨v, σ', H', J, rv, q⟩ := hs
    exact fin J rv q
  | next =>
    obtain ⟨σ', H', J, q⟩ := hs
    exact fin (v := V.non) (u := Value.none) J rfl q
  | brk =>
    obtain ⟨_, _, _, q⟩ := hs
    exact False.elim q
  | cont =>
    obtain ⟨_, _, _, q⟩ := hs
    exact False.elim q
end L2

namespace L2
open PySem PySem.Spec PyProof.Rows
section
variable {X : Cx} {x : Str} {p pos : Pos} {e : Expr} {es : List Expr} {t : TA} {id T : String} {r : List V → Hp → VK → Prop}

def tCB (r : List V → Hp → VK → Prop) (t : TA) : TE := fun σ H Q => t σ H fun vs H1 => r vs H1 Q
/-- f(e, ..), f a built-in function -/
theorem pe_callB (hc : CallR X (.builtin id) r) (hg : Gl X x) (hm : X.mg x = none) (hv : bootBuiltins x = some (.builtin id)) (ha : PA X (e :: es) t) (hn : x ≠ "__name__" := by decide) (hdb : (x == ("__debug__" : Str)) = false := by decide)
    (he : starEach (e :: es) X.env = (false, eval e X.env) :: starEach es X.env := by rfl) (hpl : (backTo pos (starEach es X.env)).any (·.1) = false := by rfl) : PE X (.Call (.Name x p) (e :: es) [] pos) (tCB r t) := by
  intro pins s σ H Q I h
  refine wpAny_Call_Name_kw (ld_blt I hg hm hv ?_ hn hdb)
  exact PyProof.Rows.callWith_builtin1 (thn (ha pos pins s σ H _ I h) fun us s1 ⟨vs, H1, I1, r1, q1⟩ => hc pins s1 σ H1 vs us Q I1 r1 q1) he hpl
/-- T(e, ..), T a built-in type -/
theorem pe_callTy (hc : CallR X (.type T) r) (hg : Gl X x) (hm : X.mg x = none) (hv : bootBuiltins x = some (.type T)) (ha : PA X (e :: es) t) (hn : x ≠ "__name__" := by decide) (hdb : (x == ("__debug__" : Str)) = false := by decide)
    (he : starEach (e :: es) X.env = (false, eval e X.env) :: starEach es X.env := by rfl) (hpl : (backTo pos (starEach es X.env)).any (·.1) = false := by rfl) : PE X (.Call (.Name x p) (e :: es) [] pos) (tCB r t) := by
  intro pins s σ H Q I h
  refine wpAny_Call_Name_kw (ld_blt I hg hm hv ?_ hn hdb)
  exact PyProof.Rows.callWith_type1 (thn (ha pos pins s σ H _ I h) fun us s1 ⟨vs, H1, I1, r1, q1⟩ => hc pins s1 σ H1 vs us Q I1 r1 q1) he hpl
/-- T() -/
theorem pe_callTy0 (hc : CallR X (.type T) r) (hg : Gl X x) (hm : X.mg x = none) (hv : bootBuiltins x = some (.type T)) (hn : x ≠ "__name__" := by decide) (hdb : (x == ("__debug__" : Str)) = false := by decide) :
    PE X (.Call (.Name x p) [] [] pos) (tCB r tNil) := by
  intro pins s σ H Q I h
  refine wpAny_Call_Name_kw (ld_blt I hg hm hv ?_ hn hdb)
  exact PyProof.Rows.callWith_type0 (hc pins s σ H [] [] Q I .nil h)
end
end L2

namespace HT
open PySem PyProof.Rows

/-- t < u of tuples of ints -/
def lexLt : List Int → List Int → Bool
  | [], [] => false
  | [], _ :: _ => true
  | _ :: _, [] => false
  | x :: xs, y :: ys => if x = y then lexLt xs ys else decide (x < y)
theorem lexLt_cons (x y : Int) (xs ys : List Int) : lexLt (x :: xs) (y :: ys) = if x = y then lexLt xs ys else decide (x < y) := rfl
theorem lexLt_nil_nil : lexLt [] [] = false := rfl
theorem lexLt_nil_cons (y : Int) (ys : List Int) : lexLt [] (y :: ys) = true := rfl
theorem lexLt_cons_nil (x : Int) (xs : List Int) : lexLt (x :: xs) [] = false := rfl

theorem eqAt_int (A : Around) (s : Shared) (a : Int) (t : Tok) (c : Int) (u : Tok) : ∃ e, SeqAt.EqAt A s (.int a t) (.int c u) e ∧ (e = true ↔ a = c) :=
  ⟨(a == c), SeqAt.EqAt.int_int a t c u, by simp⟩
theorem rcLt_int (A : Around) (s : Shared) (a : Int) (t : Tok) (c : Int) (u : Tok) (prog : Program) (w : World) (E : Value → Shared → Prop) (Q : Value → Shared → Prop) (h : Q (.bool (decide (a < c))) s) :
    wpAny (model prog w) A (richCompare .Lt (.int a t) (.int c u)) Q E s :=
  (PyProof.Rows.lt_int h : wpAny (model prog w) A (compareOp .Lt (.int a t) (.int c u)) Q E s)

section
open PySem.SeqAt
open PySem.AutoSeq1 (wpAny_loadPart')
open PySem.MeetsSeq PySem.MeetsSeq2 PySem.MeetsSeq3

theorem tuple_lt_ints (l b : Addr) (items items2 : Array Value) (n n2 : Nat) (dd dd2 : Option Addr) (sl sl2 : Array (Option Value)) (ns ms : List Int) (hi : IntsAre items.toList ns) (hj : IntsAre items2.toList ms) :
    Meets (Builtin.«tuple.__lt__» ⟨[.ref l, .ref b], []⟩)
      (fun _ R s => s.heap.get? l = some { cls := .type "tuple", dict := dd, data := .seq items n, slots := sl } ∧ s.heap.get? b = some { cls := .type "tuple", dict := dd2, data := .seq items2 n2, slots := sl2 } ∧
        R (.ok (.ret (.bool (lexLt ns ms)))) s) :=
  .of_wp fun prog w A R s h => by
    obtain ⟨hp, g, d, tk, os⟩ := s; obtain ⟨hl, hb, h⟩ := h
    have f2 := AutoSeq1.sub_tuple_tuple
    have z1 : items.size = ns.length := by rw [← hi.length]; simp
    have z2 : items2.size = ms.length := by rw [← hj.length]; simp
    wp_walk using wpAny_loadPart' hl, wpAny_loadPart' hb, wpAny_forIn_list _ (fun rest b s' => b.1 = none ∧ s' = ⟨hp, g, d, tk, os⟩ ∧ ∃ (vs ws : List Value) (ns' ms' : List Int), rest = vs.zip ws ∧
      IntsAre vs ns' ∧ IntsAre ws ms' ∧ ns'.length + items2.size = ms'.length + items.size ∧ R (.ok (.ret (.bool (lexLt ns' ms')))) ⟨hp, g, d, tk, os⟩) _
    case turn =>
      rintro ⟨y, x⟩ rest b s' ⟨hb', rfl, vs, ws, ns', ms', hz, hvi, hwi, hlen, hR⟩
      cases hvi with
      | nil => rw [List.zip_nil_left] at hz; cases hz
      | cons a t hvi' =>
        cases hwi with
        | nil => rw [List.zip_nil_right] at hz; cases hz
        | cons c u hwi' =>
          rw [List.zip_cons_cons] at hz
          injection hz with hyx hrest
          injection hyx with hy hx
          subst hy hx
          rw [lexLt_cons] at hR
          simp only [List.length_cons] at hlen
          obtain ⟨e, he, hiff⟩ := eqAt_int A.in1 ⟨hp, g, d, tk, os⟩ a t c u
          refine wpAny_bind (he prog w _ _ ?_)
          cases e with
          | true =>
            rw [if_pos (hiff.mp rfl)] at hR
            wp_walk
            exact ⟨rfl, rfl, _, _, _, _, hrest, hvi', hwi', by omega, hR⟩
          | false =>
            rw [if_neg (fun q => absurd (hiff.mpr q) Bool.false_ne_true)] at hR
            have hri := rcLt_int A.in1 ⟨hp, g, d, tk, os⟩ a t c u prog w
            wp_walk using hri
            exact ⟨_, rfl, by simpa using hR⟩
    case fin =>
      rintro ⟨b1, b2⟩ s' ⟨hb', rfl, vs, ws, ns', ms', hz, hvi, hwi, hlen, hR⟩
      simp only at hb'
      subst hb'
      have hv : lexLt ns' ms' = decide (items.size < items2.size) := by
        cases hvi with
        | nil =>
          cases hwi with
          | nil =>
            simp only [List.length_nil] at hlen
            rw [lexLt_nil_nil]
            exact (decide_eq_false (by omega)).symm
          | cons c u hw =>
            simp only [List.length_nil, List.length_cons] at hlen
            rw [lexLt_nil_cons]
            exact (decide_eq_true (by omega)).symm
        | cons a t hv =>
          cases hwi with
          | nil =>
            simp only [List.length_nil, List.length_cons] at hlen
            rw [lexLt_cons_nil]
            exact (decide_eq_false (by omega)).symm
          | cons c u hw =>
            rw [List.zip_cons_cons] at hz
            cases hz
      rw [hv] at hR
      wp_walk
      exact ⟨_, rfl, by simpa [Builtin.Tuple.tupleCompareSizes] using hR⟩
    case h =>
      exact ⟨rfl, rfl, items.toList, items2.toList, ns, ms, rfl, hi, hj, by omega, h⟩
end

section
variable {prog : Program} {w : World} {A : Around} {E : Value → Shared → Prop} {s : Shared}

theorem lt_tupInts {l b : Addr} {items items2 : Array Value} {ns ms : List Int} {Q : Value → Shared → Prop} (hl : IsTup s.heap l items) (hb : IsTup s.heap b items2) (hi : IntsAre items.toList ns) (hj : IntsAre items2.toList ms)
    (hu : A.units < cLine) (h : Q (.bool (lexLt ns ms)) s) : wpAny (model prog w) A (compareOp .Lt (.ref l) (.ref b)) Q E s := by
  obtain ⟨⟨cls, dd, data, sl⟩, ho, hc, n, hd⟩ := id hl
  obtain ⟨⟨cls2, dd2, data2, sl2⟩, ho2, hc2, n2, hd2⟩ := id hb
  simp only at hc hd hc2 hd2
  subst hc hd hc2 hd2
  exact richCompare_meets_room (op := .Lt) ⟨_, ho, rfl⟩ ⟨_, ho2, rfl⟩ PySem.F.slot_tuple_lt PySem.F.entry_tuple_lt (PySem.F.args_tuple_lt_2 _ _) (tuple_lt_ints l b items items2 n n2 dd dd2 sl sl2 ns ms hi hj)
    ⟨ho, ho2, show Value.bool (lexLt ns ms) ≠ Value.notImplemented ∧ Q (.bool (lexLt ns ms)) s from ⟨(fun x => nomatch x), h⟩⟩ hu

/-- t + u, t not empty -/
theorem cat_tup {t b : Addr} {vs ws : List Value} {Q : Value → Shared → Prop} (ht : IsTup s.heap t vs.toArray) (hb : IsTup s.heap b ws.toArray) (hv : vs ≠ [])
    (h1 : ws = [] → Q (.ref t) s) (h2 : ws ≠ [] → Q (.ref s.heap.objs.size) { s with heap := s.heap.push { cls := .type "tuple", data := .seq (vs ++ ws).toArray } })
    (hsz : vs.length + ws.length ≤ sizeLine) : wpAny (model prog w) A (binaryOp .Add (.ref t) (.ref b)) Q E s := by
  obtain ⟨⟨cls, dd, data, sl⟩, ho, hc, n, hd⟩ := id ht
  obtain ⟨⟨cls2, dd2, data2, sl2⟩, ho2, hc2, n2, hd2⟩ := id hb
  simp only at hc hd hc2 hd2
  subst hc hd hc2 hd2
  have e : vs.toArray ++ ws.toArray = (vs ++ ws).toArray := by simp
  by_cases hw : ws = []
  · exact concat_meets ⟨_, ho, rfl⟩ ⟨_, ho2, rfl⟩ noFill_tuple_add seq_tuple_add PySem.F.slot_tuple_add PySem.F.entry_tuple_add (PySem.F.args_tuple_add_2 _ _)
      (tuple_addW1 t b vs.toArray ws.toArray n n2 dd dd2 sl sl2 (by simpa using hv) (by simp [hw])) ⟨ho, ho2, h1 hw⟩
  · refine concat_meets ⟨_, ho, rfl⟩ ⟨_, ho2, rfl⟩ noFill_tuple_add seq_tuple_add PySem.F.slot_tuple_add PySem.F.entry_tuple_add (PySem.F.args_tuple_add_2 _ _)
      (tuple_addW2 t b vs.toArray ws.toArray n n2 dd dd2 sl sl2 (by simpa using hv) (by simpa using hw) (by rw [List.size_toArray, List.size_toArray]; exact hsz)) ⟨ho, ho2, ?_⟩
    rw [e]
    exact h2 hw

/-! ### t[a:b], not the whole -/
/-- a slice's bound as a place among n (d where it is left out) -/
def sIx (n d : Nat) : Option Int → Nat
  | none => d
  | some v => if v < 0 then (v + (n : Int)).toNat else min v.toNat n
theorem sIx_none (n d : Nat) : sIx n d none = d := rfl
theorem sIx_nat (n d k : Nat) : sIx n d (some (k : Int)) = min k n := by
  show (if (k : Int) < 0 then ((k : Int) + (n : Int)).toNat else min (k : Int).toNat n) = min k n
  rw [if_neg (by omega), Int.toNat_natCast]
theorem sIx_le (n d : Nat) (hd : d ≤ n) (o : Option Int) : sIx n d o ≤ n := by
  cases o with
  | none => exact hd
  | some v =>
    show (if v < 0 then (v + (n : Int)).toNat else min v.toNat n) ≤ n
    by_cases hv : v < 0
    · rw [if_pos hv]; omega
    · rw [if_neg hv]; exact Nat.min_le_right _ _
theorem clip_eq (v : Int) (n d : Nat) : (if v < 0 then max (v + (n : Int)) 0 else min v (n : Int)) = ((sIx n d (some v) : Nat) : Int) := by
  show (if v < 0 then max (v + (n : Int)) 0 else min v (n : Int)) = (((if v < 0 then (v + (n : Int)).toNat else min v.toNat n) : Nat) : Int)
  by_cases hv : v < 0
  · simp only [if_pos hv]; omega
  · simp only [if_neg hv]; omega
theorem adjust_gen (lo hi : Option Int) (n : Nat) : Builtin.Slice.sliceAdjust lo hi 1 (n : Int) = (((sIx n 0 lo : Nat) : Int), ((sIx n n hi : Nat) : Int)) := by
  have h1 : ¬ ((1 : Int) < 0) := by omega
  unfold Builtin.Slice.sliceAdjust
  simp only [h1, if_false]
  refine Prod.ext ?_ ?_
  · cases lo with
    | none => rfl
    | some v => exact clip_eq v n 0
  · cases hi with
    | none => rfl
    | some v => exact clip_eq v n n
theorem places_gen (i j : Nat) : Builtin.Slice.slicePlaces (i : Int) (j : Int) 1 = j - i := by
  unfold Builtin.Slice.slicePlaces
  have h1 : (1 : Int) > 0 := by omega
  simp only [h1, if_true, Int.ediv_one]
  split <;> omega
theorem slicePart_ {v : Value} {o : Option Int} {Q : Option Int → Shared → Prop} (p : IsPart v o) (h : Q o s) : wpAny (model prog w) A (Builtin.Slice.slicePartIndex v) Q E s := by
  cases p with
  | none => exact slicePart_none h
  | int i t => exact slicePart_int h
theorem sliceApplied_gen {sl : Addr} {vl vu : Value} {lo hi : Option Int} {n : Nat} {Q : Int × Int × Nat → Shared → Prop} (hs : s.heap.IsSliceOf sl vl vu .none) (pl : IsPart vl lo) (pu : IsPart vu hi)
    (h : Q (((sIx n 0 lo : Nat) : Int), 1, sIx n n hi - sIx n 0 lo) s) : wpAny (model prog w) A (Builtin.Slice.sliceApplied (.ref sl) (pure (n : Int))) Q E s := by
  obtain ⟨os, hos, hcs, hds⟩ := id hs
  unfold Builtin.Slice.sliceApplied Builtin.Slice.sliceFields
  refine wpAny_bind (wpAny_bind (wpAny_field hos hds (x := vl) rfl (wpAny_bind (wpAny_field hos hds (x := vu) rfl (wpAny_bind (wpAny_field hos hds (x := .none) rfl (wpAny_pure ?_)))))))
  refine wpAny_bind (slicePart_none ?_)
  show wpAny _ _ (if ((1 : Int) == 0) = true then _ else _) _ _ s
  rw [if_neg (by decide)]
  refine wpAny_bind (slicePart_ pl (wpAny_bind (slicePart_ pu (wpAny_bind (wpAny_pure ?_)))))
  show wpAny _ _ (match Builtin.Slice.sliceAdjust lo hi 1 (n : Int) with | (lo, hi) => pure (lo, (1 : Int), Builtin.Slice.slicePlaces lo hi 1)) _ _ s
  rw [adjust_gen lo hi n]
  show wpAny _ _ (pure (((sIx n 0 lo : Nat) : Int), (1 : Int), Builtin.Slice.slicePlaces ((sIx n 0 lo : Nat) : Int) ((sIx n n hi : Nat) : Int) 1)) _ _ s
  rw [places_gen]
  exact wpAny_pure h
theorem pick_gen (xs : Array Value) (i k : Nat) : ((List.range k).filterMap fun (m : Nat) => xs[((i : Int) + (m : Int) * 1).toNat]?).toArray = ((xs.toList.drop i).take k).toArray := by
  have e : (fun (m : Nat) => xs[((i : Int) + (m : Int) * 1).toNat]?) = fun m => xs[i + m]? := by
    funext m
    have : ((i : Int) + (m : Int) * 1).toNat = i + m := by omega
    rw [this]
  rw [e]
  have := pick_run xs i k
  rw [List.filterMap_map] at this
  have e2 : ((fun x => xs[x]?) ∘ fun x => i + x) = fun m => xs[i + m]? := rfl
  rw [e2] at this
  rw [this]

theorem getItem_tuple_cut {t sl : Addr} {items : Array Value} {vl vu : Value} {lo hi : Option Int} {Q : Value → Shared → Prop} (ht : IsTup s.heap t items) (hs : s.heap.IsSliceOf sl vl vu .none) (pl : IsPart vl lo) (pu : IsPart vu hi)
    (hw : ¬ (sIx items.size 0 lo = 0 ∧ sIx items.size items.size hi = items.size))
    (h : Q (.ref s.heap.objs.size) { s with heap := s.heap.push { cls := .type "tuple", data := .seq ((items.toList.drop (sIx items.size 0 lo)).take (sIx items.size items.size hi - sIx items.size 0 lo)).toArray } })
    (hsz : items.size ≤ sizeLine) : wpAny (model prog w) A (getItem (.ref t) (.ref sl)) Q E s := by
  have htake : sizeOk (.seq ((items.toList.drop (sIx items.size 0 lo)).take (sIx items.size items.size hi - sIx items.size 0 lo)).toArray) := by
    show ((items.toList.drop (sIx items.size 0 lo)).take (sIx items.size items.size hi - sIx items.size 0 lo)).toArray.size ≤ sizeLine
    rw [List.size_toArray, List.length_take, List.length_drop, Array.length_toList]
    omega
  have hj : sIx items.size items.size hi ≤ items.size := sIx_le _ _ (Nat.le_refl _) hi
  obtain ⟨os, hos, hcs, hds⟩ := id hs
  have hTs : s.TypeIs (.ref sl) "slice" := ⟨os, hos, hcs⟩
  unfold getItem
  try with_reducible refine wpAny_holding ?_
  first | refine wpAny_bind (wpAny_pure ?_) | skip
  refine wpAny_bind (wpAny_sequenceKey ht.typeIs (by decide) ?_)
  refine wpAny_bind (wpAny_callSpecial?_slot (name := Str.ofString "__getitem__") ht.typeIs PyProof.Rows.slot_tuple_getitem
    (wpAny_call_entry PyProof.Rows.slot_tuple_getitem ht.typeIs entry_tuple_getitem ?_ (args_tuple_getitem _ _)))
  show wpAny _ _ (Builtin.Tuple.tupleItemsOf (.ref t) >>= _) _ _ s
  refine wpAny_bind (tupleItemsOf_ ht ?_)
  refine wpAny_bind (wpAny_typeOf hTs ?_)
  rw [if_pos (by decide)]
  refine wpAny_bind (sliceApplied_gen hs pl pu ?_)
  have hno : ¬ ((((sIx items.size 0 lo : Nat) : Int) == 0 && (1 : Int) == 1 && (sIx items.size items.size hi - sIx items.size 0 lo) == items.size) = true) := by
    intro q
    rw [Bool.and_eq_true, Bool.and_eq_true] at q
    have q1 : ((sIx items.size 0 lo : Nat) : Int) = 0 := eq_of_beq q.1.1
    have q2 : sIx items.size items.size hi - sIx items.size 0 lo = items.size := eq_of_beq q.2
    exact hw ⟨by omega, by omega⟩
  show wpAny _ _ (if (((sIx items.size 0 lo : Nat) : Int) == 0 && (1 : Int) == 1 && (sIx items.size items.size hi - sIx items.size 0 lo) == items.size) = true then _ else _) _ _ s
  rw [if_neg hno, pick_gen]
  first
    | exact wpAny_bind (m := Builtin.Tuple.tupleExact _) (wpAny_newObj_type (wpAny_pure ⟨_, rfl, wpAny_pure h⟩) htake)
    | exact wpAny_bind (m := Builtin.Tuple.tupleExact _) (wpAny_newObj_type (wpAny_bind (wpAny_pure (wpAny_pure ⟨_, rfl, wpAny_pure h⟩))) htake)
    | exact wpAny_bind (wpAny_bind (m := Builtin.Tuple.tupleExact _) (wpAny_newObj_type (wpAny_pure (wpAny_pure ⟨_, rfl, wpAny_pure h⟩)) htake))
    | exact wpAny_bind (wpAny_bind (m := Builtin.Tuple.tupleExact _) (wpAny_newObj_type (wpAny_pure ⟨_, rfl, wpAny_pure h⟩) htake))
end
end HT

namespace L2
open PySem PySem.Spec PyProof.Rows

/-! ### the parts of a slice -/
abbrev TO := St → Hp → (Option Int → Hp → Prop) → Prop
/-- a slice's part (left out, or an int) -/
def PO (X : Cx) (e : Option Expr) (t : TO) : Prop :=
  ∀ (pins : List (Addr × Obj)) (s : Shared) (σ : St) (H : Hp) (Q : Option Int → Hp → Prop), Inv X pins σ H s → t σ H Q →
    wpAny (model X.prog X.w) X.A (evalPart e X.env) (fun u s' => ∃ o H', Inv X pins σ H' s' ∧ IsPart u o ∧ Q o H') X.xe s
def tNoPart : TO := fun _ H Q => Q none H
def tPart (t : TE) : TO := fun σ H Q => t σ H fun x H1 => ∃ i, x = .int i ∧ Q (some i) H1

theorem intsAre_of {ns : List Int} : ∀ {us : List Value}, Vals (ns.map V.int) us → IntsAre us ns := by
  induction ns with
  | nil => intro us r; rw [List.map_nil] at r; cases r; exact .nil
  | cons n ns ih =>
    intro us r
    rw [List.map_cons] at r
    cases r with
    | cons r1 r2 =>
      obtain ⟨t, e⟩ := r1
      subst e
      exact .cons n t (ih r2)

section
variable {X : Cx} {e : Expr} {te : TE} {lo hi : Option Expr} {tl th : TO} {pos p2 : Pos}

theorem po_none : PO X none tNoPart := by
  intro pins s σ H Q I h
  rw [evalPart_none]
  exact wpAny_pure ⟨none, H, I, .none, h⟩
theorem po_some (h : PE X e te) : PO X (some e) (tPart te) := by
  intro pins s σ H Q I hw
  rw [evalPart_some]
  refine thn (h pins s σ H _ I hw) fun u s1 ⟨x, H1, I1, r1, q1⟩ => ?_
  obtain ⟨i, rfl, q⟩ := q1
  obtain ⟨t, rfl⟩ := r1
  exact ⟨some i, H1, I1, .int i t, q⟩

/-- what a slice of a value is, by values: the slice object stands at sl -/
def SlR (X : Cx) (r : V → Option Int → Option Int → Hp → VK → Prop) : Prop :=
  ∀ (pins : List (Addr × Obj)) (s : Shared) (σ : St) (H : Hp) (x : V) (v vl vu : Value) (lo hi : Option Int) (sl : Addr) (Q : VK), Inv X pins σ H s → RelV x v → s.heap.IsSliceOf sl vl vu .none → IsPart vl lo → IsPart vu hi → r x lo hi H Q →
    ∃ T id, typeLookup (.type T) "__getitem__" = pure (some (.builtin id)) ∧ s.TypeIs v T ∧ wpAny (model X.prog X.w) X.A (getItem v (.ref sl)) (EP X pins σ Q) X.xe s
theorem SlR.or {r r' : V → Option Int → Option Int → Hp → VK → Prop} (h : SlR X r) (h' : SlR X r') : SlR X (fun x lo hi H Q => r x lo hi H Q ∨ r' x lo hi H Q) := by
  intro pins s σ H x v vl vu lo hi sl Q I rx hs pl pu q
  rcases q with q | q
  · exact h pins s σ H x v vl vu lo hi sl Q I rx hs pl pu q
  · exact h' pins s σ H x v vl vu lo hi sl Q I rx hs pl pu q
def tSl (r : V → Option Int → Option Int → Hp → VK → Prop) (te : TE) (tl th : TO) : TE := fun σ H Q => te σ H fun x H1 => tl σ H1 fun l H2 => th σ H2 fun u H3 => r x l u H3 Q
/-- a[lo:hi], any a -/
theorem pe_slice {r : V → Option Int → Option Int → Hp → VK → Prop} (hr : SlR X r) (he : PE X e te) (hl : PO X lo tl) (hu : PO X hi th) : PE X (.Subscript e (.Slice lo hi none p2) pos) (tSl r te tl th) := by
  intro pins s σ H Q I h
  refine Subscript_ (thn (he pins s σ H _ I h) fun v s1 ⟨x, H1, I1, r1, q1⟩ => ?_)
  refine wpAny_Slice (thn (hl pins s1 σ H1 _ I1 q1) fun vl s2 ⟨l, H2, I2, pl, q2⟩ => thn (hu pins s2 σ H2 _ I2 q2) fun vu s3 ⟨u, H3, I3, pu, q3⟩ => ?_)
  rw [evalPart_none]
  refine wpAny_pure ?_
  have I4 : Inv X pins σ H3 { s3 with heap := s3.heap.push { cls := .type "slice", data := .fields #[vl, vu, .none] } } := I3.kept (t' := s3.toks) fun b ob q => Heap.get?_push_of_some _ q
  obtain ⟨T, id, hT, ht, hg⟩ := hr pins { s3 with heap := s3.heap.push { cls := .type "slice", data := .fields #[vl, vu, .none] } } σ H3 x v vl vu l u s3.heap.objs.size Q I4 r1 (Heap.IsSliceOf.new ..) pl pu q3
  show wpAny (model X.prog X.w) X.A (subscriptTail e (.Slice lo hi none p2) v (.ref s3.heap.objs.size)) (EP X pins σ Q) X.xe { s3 with heap := s3.heap.push { cls := .type "slice", data := .fields #[vl, vu, .none] } }
  exact tail_any (ops := [.ref s3.heap.objs.size, v]) ht hT hg (by with_unfolding_all rfl)

/-- the items of xs[lo:hi] -/
def cutV (xs : List V) (lo hi : Option Int) : List V := (xs.drop (HT.sIx xs.length 0 lo)).take (HT.sIx xs.length xs.length hi - HT.sIx xs.length 0 lo)
theorem cutV_length (xs : List V) (lo hi : Option Int) : (cutV xs lo hi).length ≤ xs.length := by
  unfold cutV
  rw [List.length_take, List.length_drop]
  omega
/-- t[lo:hi], not the whole of it (the whole would be t itself) -/
def rSlT (K : PySem.W.Frag) : V → Option Int → Option Int → Hp → VK → Prop := fun x lo hi H Q => ∃ a xs, x = .ref a ∧ SqT K H a xs ∧
  ¬ (HT.sIx xs.length 0 lo = 0 ∧ HT.sIx xs.length xs.length hi = xs.length) ∧ ∀ p, H p = none → Q (.ref p) (upd H p (.tup (cutV xs lo hi)))
theorem sl_tup : SlR X (rSlT X.K) := by
  intro pins s σ H x v vl vu lo hi sl Q I rx hs pl pu h
  obtain ⟨a, xs, rfl, hx, hw, q⟩ := h
  cases rx
  obtain ⟨its, r, ht, hz⟩ := I.tuple hx
  have hlen : its.toArray.size = xs.length := by rw [List.size_toArray]; exact r.length.symm
  refine ⟨"tuple", _, PyProof.Rows.slot_tuple_getitem.lookup, ht.typeIs, ?_⟩
  refine HT.getItem_tuple_cut ht hs pl pu (by rw [hlen]; exact hw) ?_ (by rw [hlen]; exact hz)
  rw [hlen]
  refine ⟨.ref s.heap.objs.size, _, I.laid (t' := s.toks) (o := .tup (cutV xs lo hi)) (fun b ob q => Heap.get?_push_of_some _ q) (Nat.le_refl _) ?_, rfl, q _ (I.hok.fresh (Nat.le_refl _))⟩
  exact ⟨Nat.le_trans (cutV_length xs lo hi) hz, _, (r.drop (HT.sIx xs.length 0 lo)).take (HT.sIx xs.length xs.length hi - HT.sIx xs.length 0 lo), IsTup.new _ _⟩

/-! ### t < u, t + u -/
def rLtT (K : PySem.W.Frag) : R2 := fun x y H Q => ∃ a b ns ms, x = .ref a ∧ y = .ref b ∧ SqT K H a (ns.map V.int) ∧ SqT K H b (ms.map V.int) ∧ Q (.bl (HT.lexLt ns ms)) H
theorem op_ltT (hu : X.A.units < cLine) : OpR X (compareOp .Lt) (rLtT X.K) := by
  intro pins s σ H x y v u Q I rx ry h
  obtain ⟨a, b, ns, ms, rfl, rfl, ha, hb, q⟩ := h
  cases rx
  cases ry
  obtain ⟨its, r1, p1, _⟩ := I.tuple ha
  obtain ⟨its2, r2, p2, _⟩ := I.tuple hb
  have i1 : IntsAre its.toArray.toList ns := intsAre_of r1
  have i2 : IntsAre its2.toArray.toList ms := intsAre_of r2
  exact HT.lt_tupInts p1 p2 i1 i2 hu ⟨.bl (HT.lexLt ns ms), H, I, rfl, q⟩
/-- t + u, t not empty: u empty gives t itself -/
def rCatT (K : PySem.W.Frag) : R2 := fun x y H Q => ∃ a b xs ys, x = .ref a ∧ y = .ref b ∧ SqT K H a xs ∧ SqT K H b ys ∧ xs ≠ [] ∧ xs.length + ys.length ≤ sizeLine ∧
  (ys = [] → Q (.ref a) H) ∧ (ys ≠ [] → ∀ p, H p = none → Q (.ref p) (upd H p (.tup (xs ++ ys))))
theorem Vals.nil_iff {xs : List V} {us : List Value} (r : Vals xs us) : us = [] ↔ xs = [] := by
  cases r with
  | nil => simp
  | cons _ _ => simp
theorem op_catT : OpR X (binaryOp .Add) (rCatT X.K) := by
  intro pins s σ H x y v u Q I rx ry h
  obtain ⟨a, b, xs, ys, rfl, rfl, ha, hb, hx, hz, q1, q2⟩ := h
  cases rx
  cases ry
  obtain ⟨its, r1, p1, _⟩ := I.tuple ha
  obtain ⟨its2, r2, p2, _⟩ := I.tuple hb
  refine HT.cat_tup p1 p2 (fun z => hx (r1.nil_iff.mp z)) (fun z => ⟨.ref a, H, I, rfl, q1 (r2.nil_iff.mp z)⟩) (fun z => ?_) (by rw [← r1.length, ← r2.length]; exact hz)
  refine ⟨.ref s.heap.objs.size, _, I.laid (t' := s.toks) (o := .tup (xs ++ ys)) (fun b ob q => Heap.get?_push_of_some _ q) (Nat.le_refl _) ?_, rfl, q2 (fun w => z (r2.nil_iff.mpr w)) _ (I.hok.fresh (Nat.le_refl _))⟩
  exact ⟨by rw [List.length_append]; exact hz, _, r1.append r2, IsTup.new _ _⟩
/-- tuple(t) -/
theorem call_tupleT : CallR X (.type "tuple") (fun xs H Q => ∃ a ys, xs = [.ref a] ∧ SqT X.K H a ys ∧ Q (.ref a) H) := by
  intro pins s σ H xs us Q I r h
  obtain ⟨a, ys, rfl, ha, q⟩ := h
  obtain ⟨u, rfl, ru⟩ := vals1 r
  cases ru
  obtain ⟨its, _, p1, _⟩ := I.tuple ha
  exact call_tuple_same (items := its.toArray) p1 ⟨.ref a, H, I, rfl, q⟩
end
end L2

namespace L2
open PySem PySem.Spec PyProof.Rows

/-! ### places -/
/-- the place that an index of any sign means -/
def ixN (n : Nat) (i : Int) : Option Nat := if 0 ≤ i then (if i < n then some i.toNat else none) else if -(n : Int) ≤ i then some (i + n).toNat else none
def atI {α : Type} (xs : List α) (i : Int) : Option α := (ixN xs.length i).bind fun j => xs[j]?
theorem ixN_seq {n : Nat} {i : Int} {j : Nat} (h : ixN n i = some j) : seqIndex? i n = some j ∧ j < n ∧ -(n : Int) ≤ i ∧ i < n := by
  unfold ixN at h
  by_cases h0 : 0 ≤ i
  · rw [if_pos h0] at h
    by_cases h1 : i < n
    · rw [if_pos h1] at h
      have e : i.toNat = j := Option.some.inj h
      exact ⟨by rw [seqIndex_of h0 h1, e], by omega, by omega, h1⟩
    · rw [if_neg h1] at h; cases h
  · rw [if_neg h0] at h
    by_cases h1 : -(n : Int) ≤ i
    · rw [if_pos h1] at h
      have e : (i + n).toNat = j := Option.some.inj h
      exact ⟨by rw [seqIndex_neg (by omega) h1, e], by omega, h1, by omega⟩
    · rw [if_neg h1] at h; cases h
theorem atI_get {α : Type} {xs : List α} {i : Int} {v : α} (h : atI xs i = some v) : ∃ j, seqIndex? i xs.length = some j ∧ xs[j]? = some v ∧ j < xs.length ∧ -(xs.length : Int) ≤ i ∧ i < xs.length := by
  unfold atI at h
  cases e : ixN xs.length i with
  | none => rw [e] at h; cases h
  | some j =>
    rw [e] at h
    obtain ⟨h1, h2, h3, h4⟩ := ixN_seq e
    exact ⟨j, h1, h, h2, h3, h4⟩
theorem atI_nat {α : Type} {xs : List α} {j : Nat} {v : α} (h : xs[j]? = some v) : atI xs (j : Int) = some v := by
  have hj : j < xs.length := (List.getElem?_eq_some_iff.mp h).1
  have e : ixN xs.length (j : Int) = some j := by
    unfold ixN
    rw [if_pos (by omega), if_pos (by omega)]; simp
  unfold atI; rw [e]; exact h
theorem atI_last {α : Type} (xs : List α) (v : α) : atI (xs ++ [v]) (-1) = some v := by
  have hl : (xs ++ [v]).length = xs.length + 1 := by simp
  have e : ixN (xs ++ [v]).length (-1) = some xs.length := by
    unfold ixN
    rw [hl, if_neg (by decide), if_pos (by omega)]
    congr 1
    omega
  unfold atI
  rw [e]
  show (xs ++ [v])[xs.length]? = some v
  simp

/-! ### what may be subscripted -/
/-- what stands as an index of a plain subscript -/
def PlainIx (b : Expr) : Prop := ∀ o i, subscripted b false o i = operate [o, i] (getItem o i)
/-- a subscript by values -/
def IxR (X : Cx) (r : R2) : Prop :=
  ∀ (value slice : Expr) (pins : List (Addr × Obj)) (s : Shared) (σ : St) (H : Hp) (x y : V) (v u : Value) (Q : VK), Inv X pins σ H s → RelV x v → RelV y u → r x y H Q →
    subscripted slice false v u = operate [v, u] (getItem v u) → wpAny (model X.prog X.w) X.A (subscriptTail value slice v u) (EP X pins σ Q) X.xe s
/-- a call of a builtin's method by values: the receiver, the arguments -/
def MtR (X : Cx) (id : String) (r : V → List V → Hp → VK → Prop) : Prop :=
  ∀ (pins : List (Addr × Obj)) (s : Shared) (σ : St) (H : Hp) (x : V) (xs : List V) (v : Value) (us : List Value) (Q : VK), Inv X pins σ H s → RelV x v → Vals xs us → r x xs H Q →
    wpAny (model X.prog X.w) X.A (call (.builtin id) (v :: us)) (EP X pins σ Q) X.xe s
section
variable {X : Cx} {a b : Expr} {ta tb : TE} {pos : Pos}
theorem IxR.or {r r' : R2} (h : IxR X r) (h' : IxR X r') : IxR X (fun x y H Q => r x y H Q ∨ r' x y H Q) := by
  intro value slice pins s σ H x y v u Q I rx ry q hs
  rcases q with q | q
  · exact h value slice pins s σ H x y v u Q I rx ry q hs
  · exact h' value slice pins s σ H x y v u Q I rx ry q hs
theorem MtR.or {id : String} {r r' : V → List V → Hp → VK → Prop} (h : MtR X id r) (h' : MtR X id r') : MtR X id (fun x xs H Q => r x xs H Q ∨ r' x xs H Q) := by
  intro pins s σ H x xs v us Q I rx rs q
  rcases q with q | q
  · exact h pins s σ H x xs v us Q I rx rs q
  · exact h' pins s σ H x xs v us Q I rx rs q
/-- a[b] -/
theorem pe_ix {r : R2} (hr : IxR X r) (ha : PE X a ta) (hb : PE X b tb) (hs : PlainIx b) : PE X (.Subscript a b pos) (tOp r ta tb) := by
  intro pins s σ H Q I h
  exact Subscript_ (binT ha hb I h fun v u s2 x y H2 I2 rx ry q => hr a b pins s2 σ H2 x y v u Q I2 rx ry q (hs _ _))

def rIxL (K : PySem.W.Frag) : R2 := fun x y H Q => ∃ p xs i v, x = .ref p ∧ y = .int i ∧ SqL K H p xs ∧ atI xs i = some v ∧ Q v H
def rIxT (K : PySem.W.Frag) : R2 := fun x y H Q => ∃ p xs i v, x = .ref p ∧ y = .int i ∧ SqT K H p xs ∧ atI xs i = some v ∧ Q v H
def rIxS : R2 := fun x y H Q => ∃ z i c, x = .str z ∧ y = .int i ∧ z.length ≤ sizeLine ∧ atI z.cps.toList i = some c ∧ Q (.str ⟨#[c]⟩) H
theorem ix_list : IxR X (rIxL X.K) := by
  intro value slice pins s σ H x y v u Q I rx ry h hs
  obtain ⟨p, xs, i, z, rfl, rfl, hq, he, q⟩ := h
  cases rx
  obtain ⟨t, rfl⟩ := ry
  obtain ⟨its, r, pl, hz⟩ := I.list hq
  obtain ⟨j, h1, h2, h3, h4, h5⟩ := atI_get he
  obtain ⟨w, ew, rw'⟩ := r.get h2
  have hl := r.length
  have hn := line63
  have fin : EP X pins σ Q w s := ⟨z, H, I, rw', q⟩
  by_cases h0 : 0 ≤ i
  · have hj : i.toNat = j := by
      rw [seqIndex_of h0 h5] at h1
      exact Option.some.inj h1
    exact item_listR pl.isList h0 (by omega) (by rw [hj]; simpa using ew) fin hs
  · have hj : (i + (its.toArray.size : Int)).toNat = j := by
      rw [seqIndex_neg (by omega) h4] at h1
      rw [List.size_toArray, ← hl]
      exact Option.some.inj h1
    exact subscriptTail_builtinR (x := w) pl.isList.typeIs slot_list_getitem.lookup
      (wpAny_getItem_list_neg (Q := fun r s' => r = w ∧ EP X pins σ Q r s') pl.isList (by omega) (by rw [List.size_toArray] <;> omega) (by omega) (by rw [hj]; simpa using ew) ⟨rfl, fin⟩) hs
theorem ix_tup : IxR X (rIxT X.K) := by
  intro value slice pins s σ H x y v u Q I rx ry h hs
  obtain ⟨p, xs, i, z, rfl, rfl, hq, he, q⟩ := h
  cases rx
  obtain ⟨t, rfl⟩ := ry
  obtain ⟨its, r, pl, hz⟩ := I.tuple hq
  obtain ⟨j, h1, h2, h3, h4, h5⟩ := atI_get he
  obtain ⟨w, ew, rw'⟩ := r.get h2
  have hl := r.length
  have hn := line63
  have fin : EP X pins σ Q w s := ⟨z, H, I, rw', q⟩
  exact subscriptTail_builtinR (x := w) pl.typeIs slot_tuple_getitem.lookup
    (getItem_tuple (j := j) (Q := fun r s' => r = w ∧ EP X pins σ Q r s') pl (by omega) (by omega) (by rw [List.size_toArray, ← hl]; exact h1) (by simpa using ew) ⟨rfl, fin⟩) hs
theorem ix_str : IxR X rIxS := by
  intro value slice pins s σ H x y v u Q I rx ry h hs
  obtain ⟨z, i, c, rfl, rfl, hz, he, q⟩ := h
  obtain ⟨t, rfl⟩ := rx
  obtain ⟨t', rfl⟩ := ry
  obtain ⟨j, h1, h2, h3, h4, h5⟩ := atI_get he
  have hl : z.cps.toList.length = z.length := by simp [Str.length]
  rw [hl] at h1 h4 h5
  have hn := line63
  exact tail_any (typeIs_str s z t) slot_str_getitem.lookup (getItem_str (c := c) (by
    have e1 : decide (i < -(2 ^ 63 : Int)) = false := decide_eq_false (by omega)
    have e2 : decide (i ≥ 2 ^ 63) = false := decide_eq_false (by omega)
    rw [e1, e2, Bool.or_false]) (by rw [h1]; simpa using h2) ⟨.str ⟨#[c]⟩, H, I.tok _, ⟨_, rfl⟩, q⟩) hs
/-- list, tuple or str -/
def rIx (K : PySem.W.Frag) : R2 := fun x y H Q => rIxL K x y H Q ∨ rIxT K x y H Q ∨ rIxS x y H Q
theorem ix_seq : IxR X (rIx X.K) := ix_list.or (ix_tup.or ix_str)

/-! ### xs[i] = v, any sign -/
/-- the list's object behind a store -/
theorem mapSeq_set (its : List Value) (n j : Nat) (u : Value) : Obj.mapSeq (·.setIfInBounds j u) { cls := .type "list", data := .seq its.toArray n } = { cls := .type "list", data := .seq (its.set j u).toArray n } := by
  simp [Obj.mapSeq]
theorem Inv.lst {pins : List (Addr × Obj)} {σ : St} {H : Hp} {s : Shared} {p : Addr} {xs : List V} (I : Inv X pins σ H s) (h : H p = some (.lst xs)) :
    ∃ (its : List Value) (n : Nat), Vals xs its ∧ s.heap.get? p = some { cls := .type "list", data := .seq its.toArray n } ∧ xs.length ≤ sizeLine := by
  obtain ⟨z, its, n, r, e⟩ := I.hok p _ h
  exact ⟨its, n, r, e, z⟩
/-- the list at p is written by an update of its object -/
theorem Inv.lstUpd {pins : List (Addr × Obj)} {σ : St} {H : Hp} {s : Shared} {p : Addr} {xs ys : List V} {its its' : List Value} {n n' : Nat} {f : Obj → Obj} (I : Inv X pins σ H s) (h : H p = some (.lst xs))
    (ho : s.heap.get? p = some { cls := .type "list", data := .seq its.toArray n }) (hf : f { cls := .type "list", data := .seq its.toArray n } = { cls := .type "list", data := .seq its'.toArray n' }) (r : Vals ys its') (hz : ys.length ≤ sizeLine) (t : Nat) :
    Inv X pins σ (upd H p (.lst ys)) { s with heap := s.heap.update p f, toks := t } := by
  have e : (s.heap.update p f).get? p = some { cls := .type "list", data := .seq its'.toArray n' } := by
    rw [Heap.get?_update_self f ho (by rw [hf] <;> rfl), hf]
  refine I.write (x := p) (e := p) (by rw [h]; trivial) (.inl rfl) (fun b u hb q => (Heap.get?_update_other _ _ (Ne.symm hb)).trans q) ⟨_, e⟩ ?_
  exact ⟨hz, its', n', r, e⟩
def rSetL : V → V → V → Hp → (Hp → Prop) → Prop := fun o i v H Q => ∃ p xs k j, o = .ref p ∧ i = .int k ∧ H p = some (.lst xs) ∧ ixN xs.length k = some j ∧ Q (upd H p (.lst (xs.set j v)))
theorem set_list : PSet X rSetL := by
  intro pins s σ H o i v ov iv u Q I ro ri rv h
  obtain ⟨p, xs, k, j, rfl, rfl, hp, hj, q⟩ := h
  cases ro
  obtain ⟨t, rfl⟩ := ri
  obtain ⟨its, n, r, ho, hz⟩ := I.lst hp
  obtain ⟨h1, h2, h3, h4⟩ := ixN_seq hj
  have hl := r.length
  have hn := line63
  have I' : Inv X pins σ (upd H p (.lst (xs.set j v))) { s with heap := s.heap.update p (Obj.mapSeq (·.setIfInBounds j u)) } :=
    I.lstUpd hp ho (mapSeq_set its n j u) (r.set rv j) (by rw [List.length_set]; exact hz) s.toks
  by_cases h0 : 0 ≤ k
  · have hk : k.toNat = j := by
      rw [seqIndex_of h0 h4] at h1
      exact Option.some.inj h1
    exact PySem.W.ki_setAt ho h0 (by omega) (by rw [List.size_toArray, ← hl]; exact h4) (by rw [hk]; exact ⟨_, I', q⟩)
  · have hk : (k + (its.toArray.size : Int)).toNat = j := by
      rw [seqIndex_neg (by omega) h3] at h1
      rw [List.size_toArray, ← hl]
      exact Option.some.inj h1
    exact PySem.W.ki_setBack ho (by omega) (by rw [List.size_toArray, ← hl]; exact h3) (by omega) (by rw [hk]; exact ⟨_, I', q⟩)

/-! ### slices -/
theorem slice_bounds (lo hi : Option Int) (n : Nat) : (sliceBounds lo hi none n).1 = ((HT.sIx n 0 lo : Nat) : Int) ∧ (sliceBounds lo hi none n).2.1 = ((HT.sIx n n hi : Nat) : Int) ∧ (sliceBounds lo hi none n).2.2 = 1 := by
  refine ⟨?_, ?_, rfl⟩
  · cases lo with
    | none => simp [sliceBounds, HT.sIx]
    | some i =>
      simp only [sliceBounds, HT.sIx, Option.getD_none, show (1 : Int) > 0 by decide, if_true]
      by_cases h : i < 0
      · simp only [h, if_true] <;> omega
      · simp only [h, if_false] <;> omega
  · cases hi with
    | none => simp [sliceBounds, HT.sIx]
    | some i =>
      simp only [sliceBounds, HT.sIx, Option.getD_none, show (1 : Int) > 0 by decide, if_true]
      by_cases h : i < 0
      · simp only [h, if_true] <;> omega
      · simp only [h, if_false] <;> omega
theorem slicePick_cut (its : List Value) (lo hi : Option Int) : slicePick its.toArray lo hi none = ((its.drop (HT.sIx its.length 0 lo)).take (HT.sIx its.length its.length hi - HT.sIx its.length 0 lo)).toArray := by
  obtain ⟨h1, h2, h3⟩ := slice_bounds lo hi its.toArray.size
  unfold slicePick
  rw [h1, h2, h3]
  simp only [sliceRange_one, pick_run, List.size_toArray] <;> rfl
/-- xs[lo:hi] of a list: a new list -/
def rSlL (K : PySem.W.Frag) : V → Option Int → Option Int → Hp → VK → Prop := fun x lo hi H Q => ∃ a xs, x = .ref a ∧ SqL K H a xs ∧ ∀ p, H p = none → Q (.ref p) (upd H p (.lst (cutV xs lo hi)))
theorem sl_list : SlR X (rSlL X.K) := by
  intro pins s σ H x v vl vu lo hi sl Q I rx hs pl pu h
  obtain ⟨a, xs, rfl, hx, q⟩ := h
  cases rx
  obtain ⟨its, r, ht, hz⟩ := I.list hx
  have hlen := r.length
  refine ⟨"list", _, slot_list_getitem.lookup, ht.isList.typeIs, ?_⟩
  refine wpAny_getItem_list_slice ht.isList hs pl pu .none (by simp) ?_ (by rw [List.size_toArray] <;> omega)
  rw [slicePick_cut, ← hlen]
  refine ⟨.ref s.heap.objs.size, _, I.laid (t' := s.toks) (o := .lst (cutV xs lo hi)) (fun b ob q => Heap.get?_push_of_some _ q) (Nat.le_refl _) ?_, rfl, q _ (I.hok.fresh (Nat.le_refl _))⟩
  exact ⟨Nat.le_trans (cutV_length xs lo hi) hz, _, 0, (r.drop (HT.sIx xs.length 0 lo)).take (HT.sIx xs.length xs.length hi - HT.sIx xs.length 0 lo), Heap.get?_push_size _ rfl⟩

/-! ### in, not in: flat items -/
def flatV : V → Bool
  | .non => true
  | .bl _ => true
  | .int _ => true
  | .str _ => true
  | _ => false
/-- == of flat values -/
def eqV : V → V → Bool
  | .non, .non => true
  | .bl a, .bl b => a == b
  | .bl a, .int b => (if a then 1 else 0) == b
  | .int a, .bl b => a == (if b then 1 else 0)
  | .int a, .int b => a == b
  | .str a, .str b => a == b
  | _, _ => false
theorem eqAt_V {A : Around} {s : Shared} {y x : V} {u v : Value} (ry : RelV y u) (rx : RelV x v) (fy : flatV y = true) (fx : flatV x = true) : SeqAt.EqAt A s u v (eqV y x) := by
  cases y with
  | non =>
    cases ry
    cases x with
    | non => cases rx; exact SeqAt.EqAt.same _
    | bl b => cases rx; exact SeqAt.EqAt.none_bool b
    | int b => obtain ⟨t, rfl⟩ := rx; exact SeqAt.EqAt.none_int b t
    | str b => obtain ⟨t, rfl⟩ := rx; exact SeqAt.EqAt.none_str b t
    | _ => exact absurd (show false = true from fx) Bool.false_ne_true
  | bl a =>
    cases ry
    cases x with
    | non => cases rx; exact SeqAt.EqAt.bool_none a
    | bl b => cases rx; exact SeqAt.EqAt.bool_bool a b
    | int b => obtain ⟨t, rfl⟩ := rx; exact SeqAt.EqAt.bool_int a b t
    | str b => obtain ⟨t, rfl⟩ := rx; exact SeqAt.EqAt.bool_str a b t
    | _ => exact absurd (show false = true from fx) Bool.false_ne_true
  | int a =>
    obtain ⟨t', rfl⟩ := ry
    cases x with
    | non => cases rx; exact SeqAt.EqAt.int_none a t'
    | bl b => cases rx; exact SeqAt.EqAt.int_bool a t' b
    | int b => obtain ⟨t, rfl⟩ := rx; exact SeqAt.EqAt.int_int a t' b t
    | str b => obtain ⟨t, rfl⟩ := rx; exact SeqAt.EqAt.int_str a t' b t
    | _ => exact absurd (show false = true from fx) Bool.false_ne_true
  | str a =>
    obtain ⟨t', rfl⟩ := ry
    cases x with
    | non => cases rx; exact SeqAt.EqAt.str_none a t'
    | bl b => cases rx; exact SeqAt.EqAt.str_bool a t' b
    | int b => obtain ⟨t, rfl⟩ := rx; exact SeqAt.EqAt.str_int a t' b t
    | str b => obtain ⟨t, rfl⟩ := rx; exact SeqAt.EqAt.str_str a t' b t
    | _ => exact absurd (show false = true from fx) Bool.false_ne_true
  | _ => exact absurd (show false = true from fy) Bool.false_ne_true
/-- the items' answers, read off the values (a value's own answer does not lean on its token) -/
def eqU (x : V) (u : Value) : Bool := match u with
  | .none => eqV .non x
  | .bool b => eqV (.bl b) x
  | .int i _ => eqV (.int i) x
  | .str z _ => eqV (.str z) x
  | _ => false
theorem eqU_of {x y : V} {u : Value} (r : RelV y u) (f : flatV y = true) : eqU x u = eqV y x := by
  cases y with
  | non => cases r; rfl
  | bl b => cases r; rfl
  | int i => obtain ⟨t, rfl⟩ := r; rfl
  | str z => obtain ⟨t, rfl⟩ := r; rfl
  | _ => exact absurd (show false = true from f) Bool.false_ne_true
theorem any_eqU {x : V} : ∀ {xs : List V} {us : List Value}, Vals xs us → xs.all flatV = true → us.any (eqU x) = xs.any fun y => eqV y x
  | _, _, .nil, _ => rfl
  | y :: xs, u :: us, .cons r t, f => by
    rw [List.all_cons, Bool.and_eq_true] at f
    rw [List.any_cons, List.any_cons, eqU_of r f.1, any_eqU t f.2]
theorem mem_eqAt {A : Around} {s : Shared} {x : V} {v : Value} (rx : RelV x v) (fx : flatV x = true) : ∀ {xs : List V} {us : List Value}, Vals xs us → xs.all flatV = true → ∀ u ∈ us, SeqAt.EqAt A s u v (eqU x u)
  | _, _, .nil, _ => fun u hu => by cases hu
  | y :: xs, u :: us, .cons r t, f => fun u' hu => by
    rw [List.all_cons, Bool.and_eq_true] at f
    rcases List.mem_cons.mp hu with rfl | hu
    · rw [eqU_of r f.1]; exact eqAt_V r rx f.1 fx
    · exact mem_eqAt rx fx t f.2 u' hu
def inV (x : V) (xs : List V) : Bool := xs.any fun y => eqV y x
/-- x in a list or tuple of flat items -/
def rIn (K : PySem.W.Frag) (neg : Bool) : R2 := fun x y H Q => ∃ p xs, y = .ref p ∧ (SqL K H p xs ∨ SqT K H p xs) ∧ flatV x = true ∧ xs.all flatV = true ∧ Q (.bl (if neg then !inV x xs else inV x xs)) H
theorem op_in_seq : OpR X (compareOp .In) (rIn X.K false) := by
  intro pins s σ H x y v u Q I rx ry h
  obtain ⟨p, xs, rfl, hq, fx, fs, q⟩ := h
  cases ry
  rcases hq with hq | hq
  · obtain ⟨its, r, pl, hz⟩ := I.list hq
    refine SeqAt.in_listAt (eqU x) pl.isList (fun w hw => mem_eqAt rx fx r fs w (by simpa using hw)) ⟨.bl _, H, I, rfl, ?_⟩
    rw [show its.toArray.any (eqU x) = its.any (eqU x) by simp, any_eqU r fs]
    exact q
  · obtain ⟨its, r, pl, hz⟩ := I.tuple hq
    refine SeqAt.in_tupleAt (eqU x) pl (fun w hw => mem_eqAt rx fx r fs w (by simpa using hw)) ⟨.bl _, H, I, rfl, ?_⟩
    rw [show its.toArray.any (eqU x) = its.any (eqU x) by simp, any_eqU r fs]
    exact q
theorem op_notIn_seq : OpR X (compareOp .NotIn) (rIn X.K true) := by
  intro pins s σ H x y v u Q I rx ry h
  obtain ⟨p, xs, rfl, hq, fx, fs, q⟩ := h
  cases ry
  rcases hq with hq | hq
  · obtain ⟨its, r, pl, hz⟩ := I.list hq
    refine SeqAt.notIn_listAt (eqU x) pl.isList (fun w hw => mem_eqAt rx fx r fs w (by simpa using hw)) ⟨.bl _, H, I, rfl, ?_⟩
    rw [show its.toArray.any (eqU x) = its.any (eqU x) by simp, any_eqU r fs]
    exact q
  · obtain ⟨its, r, pl, hz⟩ := I.tuple hq
    refine SeqAt.notIn_tupleAt (eqU x) pl (fun w hw => mem_eqAt rx fx r fs w (by simpa using hw)) ⟨.bl _, H, I, rfl, ?_⟩
    rw [show its.toArray.any (eqU x) = its.any (eqU x) by simp, any_eqU r fs]
    exact q
theorem op_notIn_str : OpR X (compareOp .NotIn) (fun x y H Q => ∃ i j, x = .str i ∧ y = .str j ∧ Q (.bl (!(!(Builtin.Str.occurrences j i 0 j.length 1).isEmpty))) H) := by
  intro pins s σ H x y v u Q I rx ry h
  obtain ⟨i, j, rfl, rfl, q⟩ := h
  obtain ⟨t, rfl⟩ := rx
  obtain ⟨t', rfl⟩ := ry
  exact notIn_str ⟨.bl _, H, I, rfl, q⟩

/-! ### len, list(x), tuple(x) of any list or tuple that is read -/
theorem call_len_seq : CallR X (.builtin "len") (fun xs H Q => ∃ p ys, xs = [.ref p] ∧ (SqL X.K H p ys ∨ SqT X.K H p ys) ∧ Q (.int ys.length) H) := by
  intro pins s σ H xs us Q I r h
  obtain ⟨p, ys, rfl, hq, q⟩ := h
  obtain ⟨u, rfl, rx⟩ := vals1 r
  cases rx
  have hn := line63
  rcases hq with hq | hq
  · obtain ⟨its, r', pl, hz⟩ := I.list hq
    have hlen := r'.length
    exact Calls.call_len_list pl.isList (by simp only [List.size_toArray] <;> omega) ⟨.int ys.length, H, I.tok _, ⟨s.toks + 1, by rw [List.size_toArray, hlen]⟩, q⟩
  · obtain ⟨its, r', pl, hz⟩ := I.tuple hq
    have hlen := r'.length
    exact len_tuple pl (by simp only [List.size_toArray] <;> omega) ⟨.int ys.length, H, I.tok _, ⟨s.toks + 1, by rw [List.size_toArray, hlen]⟩, q⟩
theorem call_len_str : CallR X (.builtin "len") (fun xs H Q => ∃ z, xs = [.str z] ∧ z.length ≤ sizeLine ∧ Q (.int z.length) H) := by
  intro pins s σ H xs us Q I r h
  obtain ⟨z, rfl, hz, q⟩ := h
  obtain ⟨u, rfl, t, rfl⟩ := vals1 r
  have hn := line63
  exact len_str (by omega) ⟨.int z.length, H, I.tok _, ⟨_, rfl⟩, q⟩
theorem CallR.or {f : Value} {r r' : List V → Hp → VK → Prop} (h : CallR X f r) (h' : CallR X f r') : CallR X f (fun xs H Q => r xs H Q ∨ r' xs H Q) := by
  intro pins s σ H xs us Q I rs q
  rcases q with q | q
  · exact h pins s σ H xs us Q I rs q
  · exact h' pins s σ H xs us Q I rs q
theorem call_list_of : CallR X (.type "list") (fun xs H Q => ∃ p ys, xs = [.ref p] ∧ (SqL X.K H p ys ∨ SqT X.K H p ys) ∧ ∀ l, H l = none → Q (.ref l) (upd H l (.lst ys))) := by
  intro pins s σ H xs us Q I r h
  obtain ⟨p, ys, rfl, hq, q⟩ := h
  obtain ⟨u, rfl, rx⟩ := vals1 r
  cases rx
  have fin : ∀ (its : List Value), Vals ys its → ys.length ≤ sizeLine → ∀ (h' : Heap) (c' : Nat), (∀ b o', s.heap.get? b = some o' → h'.get? b = some o') →
      h'.get? s.heap.objs.size = some { cls := .type "list", dict := none, data := .seq its.toArray c', slots := #[] } → EP X pins σ Q (.ref s.heap.objs.size) { s with heap := h' } := fun its r' hz h' c' kp e =>
    ⟨.ref s.heap.objs.size, _, I.laid (t' := s.toks) kp (Nat.le_refl _) (show ObjOk X.prog X.w _ h' _ (.lst ys) from ⟨hz, its, c', r', e⟩), rfl, q _ (I.hok.fresh (Nat.le_refl _))⟩
  rcases hq with hq | hq
  · obtain ⟨its, r', pl, hz⟩ := I.list hq
    have hlen := r'.length
    obtain ⟨o, ho, hc, n, hd⟩ := pl.isList
    exact call_list_seq p (.inl rfl) ho hc hd (fun h' c' kp e => fin its r' hz h' c' kp e) (by simp only [List.size_toArray] <;> omega)
  · obtain ⟨its, r', pl, hz⟩ := I.tuple hq
    have hlen := r'.length
    obtain ⟨o, ho, hc, n, hd⟩ := pl
    exact call_list_seq p (.inr rfl) ho hc hd (fun h' c' kp e => fin its r' hz h' c' kp e) (by simp only [List.size_toArray] <;> omega)
theorem call_tuple_of : CallR X (.type "tuple") (fun xs H Q => ∃ p ys, xs = [.ref p] ∧ ((SqL X.K H p ys ∧ ∀ l, H l = none → Q (.ref l) (upd H l (.tup ys))) ∨ (SqT X.K H p ys ∧ Q (.ref p) H))) := by
  intro pins s σ H xs us Q I r h
  obtain ⟨p, ys, rfl, h⟩ := h
  obtain ⟨u, rfl, rx⟩ := vals1 r
  cases rx
  rcases h with ⟨hq, q⟩ | ⟨hq, q⟩
  · obtain ⟨its, r', pl, hz⟩ := I.list hq
    have hlen := r'.length
    refine call_tuple_list pl.isList (fun h' kp => ?_) (by simp only [List.size_toArray] <;> omega)
    have I1 : Inv X pins σ H { s with heap := h' } := I.kept (t' := s.toks) kp
    have I2 : Inv X pins σ (upd H h'.objs.size (.tup ys)) { s with heap := h'.push { cls := .type "tuple", data := .seq its.toArray } } :=
      I1.laid (t' := s.toks) (fun b o e => Heap.get?_push_of_some _ e) (Nat.le_refl _) (show ObjOk X.prog X.w _ _ _ (.tup ys) from ⟨hz, its, r', IsTup.new _ _⟩)
    exact ⟨.ref h'.objs.size, _, I2, rfl, q _ (I1.hok.fresh (Nat.le_refl _))⟩
  · obtain ⟨its, r', pl, hz⟩ := I.tuple hq
    exact call_tuple_same pl ⟨.ref p, H, I, rfl, q⟩

/-! ### the call of a builtin's method: o.m(..) -/
/-- the value is of that builtin type -/
def tyV (K : PySem.W.Frag) (T : String) (x : V) (H : Hp) : Prop := match x with
  | .str _ => T = "str"
  | .int _ => T = "int"
  | .ref p => (T = "list" ∧ ∃ xs, SqL K H p xs) ∨ (T = "tuple" ∧ ∃ o, K.lookup p = some o ∧ o.cls = .type "tuple" ∧ o.dict = none) ∨
      (T = "dict" ∧ ((∃ kvs, H p = some (.dK kvs)) ∨ ∃ kvs, H p = some (.dT kvs))) ∨ (T = "set" ∧ ∃ S n, H p = some (.set S n))
  | _ => False
theorem tyV_is {pins : List (Addr × Obj)} {σ : St} {H : Hp} {s : Shared} {T : String} {x : V} {v : Value} (I : Inv X pins σ H s) (r : RelV x v) (ty : tyV X.K T x H) :
    s.TypeIs v T ∧ ∀ a, v = .ref a → ∃ ob, s.heap.get? a = some ob ∧ ob.dict = none := by
  cases x with
  | str z =>
    obtain ⟨t, rfl⟩ := r
    cases (show T = "str" from ty)
    exact ⟨typeIs_str s z t, fun _ e => nomatch e⟩
  | int i =>
    obtain ⟨t, rfl⟩ := r
    cases (show T = "int" from ty)
    exact ⟨typeIs_int s i t, fun _ e => nomatch e⟩
  | ref p =>
    cases r
    rcases ty with ⟨rfl, xs, hq⟩ | ⟨rfl, o, hk, hc, hd⟩ | ⟨rfl, hk⟩ | ⟨rfl, S, n, hk⟩
    · obtain ⟨its, _, pl, _⟩ := I.list hq
      refine ⟨pl.isList.typeIs, fun a e => ?_⟩
      cases e
      obtain ⟨o, n, e, c, hd, _⟩ := pl
      exact ⟨o, e, hd⟩
    · refine ⟨⟨o, I.kIn p o hk, hc⟩, fun a e => ?_⟩
      cases e
      exact ⟨o, I.kIn _ o hk, hd⟩
    · have z : ∃ o, s.heap.get? p = some o ∧ o.ExactDict := by
        rcases hk with ⟨kvs, hk⟩ | ⟨kvs, hk⟩
        · obtain ⟨_, _, _, _, o, _, _, e, ex, _⟩ := I.hok p _ hk
          exact ⟨o, e, ex⟩
        · obtain ⟨_, _, _, _, o, _, _, e, ex, _⟩ := I.hok p _ hk
          exact ⟨o, e, ex⟩
      obtain ⟨o, e, ex⟩ := z
      refine ⟨⟨o, e, ex.1⟩, fun a e2 => ?_⟩
      cases e2
      exact ⟨o, e, ex.2.1⟩
    · obtain ⟨o, _, _, _, e, ex, _⟩ := I.hok p _ hk
      refine ⟨⟨o, e, ex.1⟩, fun a e2 => ?_⟩
      cases e2
      exact ⟨o, e, ex.2.1⟩
  | _ => exact False.elim ty
def tBM0 (K : PySem.W.Frag) (T : String) (r : V → List V → Hp → VK → Prop) (to : TE) : TE := fun σ H Q => to σ H fun x H1 => tyV K T x H1 ∧ r x [] H1 Q
def tBM (K : PySem.W.Frag) (T : String) (r : V → List V → Hp → VK → Prop) (to : TE) (t : TA) : TE := fun σ H Q => to σ H fun x H1 => tyV K T x H1 ∧ t σ H1 fun xs H2 => r x xs H2 Q
variable {o e : Expr} {es : List Expr} {to : TE} {t : TA} {name : Str} {apos cpos : Pos} {T id : String} {r : V → List V → Hp → VK → Prop}
theorem pe_bm0 (pa : PlainAttrs T) (slot : Slot T name id) (hty : typeOf (.builtin id) = pure (.type "method_descriptor")) (hm : MtR X id r) (ho : PE X o to)
    (hbase : attributeBase o name X.env (eval o X.env) = eval o X.env := by rfl) (hline : (apos.endLine == cpos.line) = true := by rfl) : PE X (.Call (.Attribute o name apos) [] [] cpos) (tBM0 X.K T r to) := by
  intro pins s σ H Q I h
  refine wpAny_Call_method0_late hbase hline (thn (ho pins s σ H _ I h) fun v s1 ⟨x, H1, I1, r1, ty, q1⟩ => ?_)
  obtain ⟨h1, h2⟩ := tyV_is I1 r1 ty
  exact ⟨T, id, pa, slot, hty, h1, h2, Calls.callWith_builtin rfl (PySem.evalArgs_none (hm pins s1 σ H1 x [] v [] Q I1 r1 .nil q1))⟩
theorem pe_bm (pa : PlainAttrs T) (slot : Slot T name id) (hty : typeOf (.builtin id) = pure (.type "method_descriptor")) (hm : MtR X id r) (ho : PE X o to) (ha : PA X (e :: es) t)
    (hbase : attributeBase o name X.env (eval o X.env) = eval o X.env := by rfl)
    (hfew : ((backTo cpos (starEach (e :: es) X.env)).all (fun x => !x.1) && (backToKw cpos (keywordEach [] X.env)).all (fun x => x.1.isSome)
      && decide ((e :: es).length + ([] : List Keyword).length + (if ([] : List Keyword).isEmpty then 0 else 1) < 30)) = true := by rfl)
    (hline : (apos.endLine == cpos.line) = true := by rfl) (hs : starEach (e :: es) X.env = (false, eval e X.env) :: starEach es X.env := by rfl) (hplain : (backTo cpos (starEach es X.env)).any (·.1) = false := by rfl) :
    PE X (.Call (.Attribute o name apos) (e :: es) [] cpos) (tBM X.K T r to t) := by
  intro pins s σ H Q I h
  refine wpAny_Call_method_late hbase hfew hline rfl (thn (ho pins s σ H _ I h) fun v s1 ⟨x, H1, I1, r1, ty, q1⟩ => ?_)
  obtain ⟨h1, h2⟩ := tyV_is I1 r1 ty
  refine ⟨T, id, pa, slot, hty, h1, h2, ?_⟩
  have hA := ha cpos pins s1 σ H1 _ I1 q1
  rw [hs] at hA ⊢
  refine Calls.callWith_builtin (by show (false || (backTo cpos (starEach es X.env)).any (·.1)) = false; rw [hplain] <;> rfl) (Calls.evalArgs_plain ?_)
  exact thn hA fun us s2 ⟨vs, H2, I2, r2, q2⟩ => hm pins s2 σ H2 x vs v us Q I2 r1 r2 q2
/- xs.append(e), list.index on a module's tuple .. are MtR facts of 06m -/
end
end L2

namespace L2
open PySem PySem.Spec PyProof.Rows

def MtM (X : Cx) (id : String) (r : V → List V → Hp → VK → Prop) : Prop :=
  ∀ (pins : List (Addr × Obj)) (s : Shared) (σ : St) (H : Hp) (x : V) (xs : List V) (v : Value) (us : List Value) (Q : VK), Inv X pins σ H s → RelV x v → Vals xs us → r x xs H Q →
    wpAny (model X.prog X.w) X.A (call (.builtin id) (v :: us)) (EP X pins σ Q) X.xe s

/-! ### lists of values -/
theorem Vals.one : ∀ {x : V} {us : List Value}, Vals [x] us → ∃ u, us = [u] ∧ RelV x u
  | _, _, .cons r .nil => ⟨_, rfl, r⟩
theorem Vals.two : ∀ {x y : V} {us : List Value}, Vals [x, y] us → ∃ u v, us = [u, v] ∧ RelV x u ∧ RelV y v
  | _, _, _, .cons r (.cons q .nil) => ⟨_, _, rfl, r, q⟩
theorem Vals.zero : ∀ {us : List Value}, Vals [] us → us = []
  | _, .nil => rfl
theorem Vals.dropLast {xs : List V} {us : List Value} (h : Vals xs us) : Vals xs.dropLast us.dropLast := by
  induction h with
  | nil => exact .nil
  | cons r t ih =>
    cases t with
    | nil => exact .nil
    | cons q t' => exact .cons r ih
theorem Vals.eraseIdx : ∀ {xs : List V} {us : List Value} (i : Nat), Vals xs us → Vals (xs.eraseIdx i) (us.eraseIdx i)
  | _, _, _, .nil => .nil
  | _, _, 0, .cons _ t => t
  | _, _, i + 1, .cons r t => .cons r (Vals.eraseIdx i t)
theorem Vals.reverse {xs : List V} {us : List Value} (h : Vals xs us) : Vals xs.reverse us.reverse := by
  induction h with
  | nil => exact .nil
  | cons r t ih => rw [List.reverse_cons, List.reverse_cons]; exact Vals.append ih (.cons r .nil)
theorem Vals.rep {xs : List V} {us : List Value} (h : Vals xs us) : ∀ k : Nat, Vals (List.replicate k xs).flatten (List.replicate k us).flatten
  | 0 => .nil
  | k + 1 => by
    rw [List.replicate_succ, List.replicate_succ, List.flatten_cons, List.flatten_cons]
    exact Vals.append h (Vals.rep h k)
theorem erase_last {α : Type} (l : List α) : l.eraseIdx (l.length - 1) = l.dropLast := by
  induction l with
  | nil => rfl
  | cons a r ih =>
    cases r with
    | nil => rfl
    | cons b r =>
      have e : (a :: b :: r).length - 1 = ((b :: r).length - 1) + 1 := by
        have h1 : (a :: b :: r).length = r.length + 2 := rfl
        have h2 : (b :: r).length = r.length + 1 := rfl
        omega
      rw [e, List.eraseIdx_cons_succ, ih]
      all_goals rfl
theorem len_erase {α : Type} : ∀ (l : List α) (i : Nat), (l.eraseIdx i).length ≤ l.length
  | [], _ => Nat.le_refl _
  | _ :: _, 0 => Nat.le_succ _
  | _ :: r, i + 1 => Nat.succ_le_succ (len_erase r i)
theorem foldl_rep (its : List Value) : ∀ (k : Nat) (acc : List Value),
    List.foldl (fun x1 x2 => x1 ++ x2) acc.toArray (List.replicate k its.toArray) = (acc ++ (List.replicate k its).flatten).toArray
  | 0, acc => by simp
  | k + 1, acc => by
    have e : acc.toArray ++ its.toArray = (acc ++ its).toArray := by simp
    have e2 : (acc ++ its) ++ (List.replicate k its).flatten = acc ++ (List.replicate (k + 1) its).flatten := by
      rw [List.replicate_succ, List.flatten_cons, List.append_assoc]
    rw [← e2, ← foldl_rep its k (acc ++ its), ← e, List.replicate_succ, List.foldl_cons]

section
variable {X : Cx} {pins : List (Addr × Obj)} {σ : St} {H : Hp} {s : Shared} {l b : Addr} {xs ys zs : List V}

/-! ### the two steps: a tracked list is rewritten, a new list is laid -/
theorem Inv.lset {its its' : List Value} {n : Nat} {f : Array Value → Array Value} {t' : Nat} (I : Inv X pins σ H s) (hH : H l = some (.lst xs))
    (e : s.heap.get? l = some { cls := .type "list", data := .seq its.toArray n }) (hf : f its.toArray = its'.toArray) (hv : Vals ys its') (hz : ys.length ≤ sizeLine) :
    Inv X pins σ (upd H l (.lst ys)) { s with heap := s.heap.update l (Obj.mapSeq f), toks := t' } := by
  have q := PySem.IsL.update e f
  rw [hf] at q
  refine I.write (x := l) (e := l) (by rw [hH]; exact trivial) (.inl rfl) (fun b' u hb hu => (Heap.get?_update_other s.heap (Obj.mapSeq f) (Ne.symm hb)).trans hu) ⟨_, q⟩ ?_
  exact ⟨hz, its', _, hv, q⟩
theorem Inv.lnew {its : List Value} {t' : Nat} (I : Inv X pins σ H s) (hv : Vals ys its) (hz : ys.length ≤ sizeLine) :
    Inv X pins σ (upd H s.heap.objs.size (.lst ys)) { s with heap := s.heap.push { cls := .type "list", data := .seq its.toArray }, toks := t' } :=
  I.laid (fun _ _ q => Heap.get?_push_of_some _ q) (Nat.le_refl _) ⟨hz, its, 0, hv, Heap.get?_push_size _ rfl⟩
theorem Inv.fresh (I : Inv X pins σ H s) : H s.heap.objs.size = none := I.hok.fresh (Nat.le_refl _)
theorem Inv.lstM (I : Inv X pins σ H s) (hH : H l = some (.lst xs)) : xs.length ≤ sizeLine ∧ ∃ (its : List Value) (n : Nat), Vals xs its ∧ xs.length = its.length ∧ s.heap.get? l = some { cls := .type "list", data := .seq its.toArray n } := by
  obtain ⟨z, its, n, r, e⟩ := I.hok l _ hH
  exact ⟨z, its, n, r, r.length, e⟩

theorem notLongL {n : Nat} (h : n ≤ sizeLine) : Builtin.List.listTooLong n = false := by
  unfold Builtin.List.listTooLong
  exact decide_eq_false (by omega)
end

section
variable {X : Cx}

/-! ### methods -/
def rAppend : V → List V → Hp → VK → Prop := fun x vs H Q => ∃ l xs y, x = .ref l ∧ vs = [y] ∧ H l = some (.lst xs) ∧ xs.length < sizeLine ∧ Q .non (upd H l (.lst (xs ++ [y])))
theorem mt_append : MtM X "list.append" rAppend := by
  intro pins s σ H x vs v us Q I rx rv h
  obtain ⟨l, xs, y, rfl, rfl, hH, hz, q⟩ := h
  cases rx
  obtain ⟨u, rfl, ru⟩ := rv.one
  obtain ⟨z, its, n, r, hl, e⟩ := I.lstM hH
  refine call_meets F.slot_list_append ⟨_, e, rfl⟩ F.entry_list_append (F.args_list_append_2 _ _) (PySem.list_append l its.toArray n u (by rw [List.size_toArray]; omega)) ⟨e, ?_⟩
  refine ⟨.non, _, I.lset (its' := its ++ [u]) hH e (by simp) (r.append (.cons ru .nil)) ?_, rfl, q⟩
  rw [List.length_append, List.length_singleton]
  omega

def rExtend : V → List V → Hp → VK → Prop := fun x vs H Q => ∃ l b xs zs, x = .ref l ∧ vs = [.ref b] ∧ H l = some (.lst xs) ∧ H b = some (.lst zs) ∧ xs.length + zs.length ≤ sizeLine ∧ Q .non (upd H l (.lst (xs ++ zs)))
theorem mt_extend : MtM X "list.extend" rExtend := by
  intro pins s σ H x vs v us Q I rx rv h
  obtain ⟨l, b, xs, zs, rfl, rfl, hH, hB, hz, q⟩ := h
  cases rx
  obtain ⟨u, rfl, ru⟩ := rv.one
  cases ru
  obtain ⟨z, its, n, r, hl, e⟩ := I.lstM hH
  obtain ⟨z2, its2, n2, r2, hl2, e2⟩ := I.lstM hB
  have hsz : its.toArray.size + its2.toArray.size ≤ sizeLine := by rw [List.size_toArray, List.size_toArray]; omega
  have hlong : ¬ (!its.toArray.isEmpty && Builtin.List.listTooLong (its.toArray.size + its2.toArray.size)) = true := by
    rw [notLongL hsz, Bool.and_false]
    exact Bool.false_ne_true
  refine call_meets F.slot_list_extend ⟨_, e, rfl⟩ F.entry_list_extend (F.args_list_extend_2 _ _)
    (AutoSeq1.list_extend_list_list_0 l its.toArray n b its2.toArray n2 hlong (by rw [List.size_toArray]; omega) (by omega)) ⟨e, e2, ?_⟩
  refine ⟨.non, _, I.lset (its' := its ++ its2) hH e (by simp) (r.append r2) ?_, rfl, q⟩
  rw [List.length_append]
  omega

def rPop : V → List V → Hp → VK → Prop := fun x vs H Q => ∃ l xs y, x = .ref l ∧ vs = [] ∧ H l = some (.lst xs) ∧ xs[xs.length - 1]? = some y ∧ Q y (upd H l (.lst xs.dropLast))
theorem mt_pop : MtM X "list.pop" rPop := by
  intro pins s σ H x vs v us Q I rx rv h
  obtain ⟨l, xs, y, rfl, rfl, hH, hy, q⟩ := h
  cases rx
  have hus := rv.zero
  subst hus
  obtain ⟨z, its, n, r, hl, e⟩ := I.lstM hH
  obtain ⟨u, hu, ru⟩ := r.get hy
  have hy' : its.toArray[its.toArray.size - 1]? = some u := by
    show its.toArray[its.length - 1]? = some u
    rw [← Array.getElem?_toList, ← hl]
    exact hu
  refine call_meets F.slot_list_pop ⟨_, e, rfl⟩ F.entry_list_pop (F.args_list_pop_1 _) (MeetsSeq.list_pop_last l its.toArray n u hy' (by rw [List.size_toArray]; omega)) ⟨e, ?_⟩
  refine ⟨y, _, I.lset (its' := its.dropLast) hH e ?_ r.dropLast ?_, ru, q⟩
  · show its.toArray.eraseIdxIfInBounds (its.toArray.size - 1) = its.dropLast.toArray
    rw [List.size_toArray, List.eraseIdxIfInBounds_toArray, erase_last]
  · rw [List.length_dropLast]
    omega

def rPopAt : V → List V → Hp → VK → Prop := fun x vs H Q => ∃ l xs i k y, x = .ref l ∧ vs = [.int i] ∧ H l = some (.lst xs) ∧ -(2 ^ 63) ≤ i ∧ i < 2 ^ 63 ∧ seqIndex? i xs.length = some k ∧ xs[k]? = some y ∧ Q y (upd H l (.lst (xs.eraseIdx k)))
theorem mt_popAt : MtM X "list.pop" rPopAt := by
  intro pins s σ H x vs v us Q I rx rv h
  obtain ⟨l, xs, i, k, y, rfl, rfl, hH, h1, h2, hk, hy, q⟩ := h
  cases rx
  obtain ⟨u, rfl, ru⟩ := rv.one
  obtain ⟨t, rfl⟩ := ru
  obtain ⟨z, its, n, r, hl, e⟩ := I.lstM hH
  obtain ⟨w, hw, rw'⟩ := r.get hy
  refine call_meets F.slot_list_pop ⟨_, e, rfl⟩ F.entry_list_pop (F.args_list_pop_2 _ _)
    (MeetsSeq.list_pop_at l its.toArray n i t k w (fitsIndex_both h1 h2) (by rw [List.size_toArray, ← hl]; exact hk) (by rw [← Array.getElem?_toList]; exact hw) (by rw [List.size_toArray]; omega)) ⟨e, ?_⟩
  refine ⟨y, _, I.lset (its' := its.eraseIdx k) hH e ?_ (r.eraseIdx k) ?_, rw', q⟩
  · show its.toArray.eraseIdxIfInBounds k = (its.eraseIdx k).toArray
    rw [List.eraseIdxIfInBounds_toArray]
  · have := len_erase xs k
    omega

def rReverse : V → List V → Hp → VK → Prop := fun x vs H Q => ∃ l xs, x = .ref l ∧ vs = [] ∧ H l = some (.lst xs) ∧ Q .non (upd H l (.lst xs.reverse))
theorem mt_reverse : MtM X "list.reverse" rReverse := by
  intro pins s σ H x vs v us Q I rx rv h
  obtain ⟨l, xs, rfl, rfl, hH, q⟩ := h
  cases rx
  have hus := rv.zero
  subst hus
  obtain ⟨z, its, n, r, hl, e⟩ := I.lstM hH
  refine call_meets F.slot_list_reverse ⟨_, e, rfl⟩ F.entry_list_reverse (F.args_list_reverse_1 _) (AutoSeq1.list_reverse_list_0 l its.toArray n (by rw [List.size_toArray]; omega)) ⟨e, ?_⟩
  refine ⟨.non, _, I.lset (its' := its.reverse) hH e (by simp) r.reverse ?_, rfl, q⟩
  rw [List.length_reverse]
  omega

def rClear : V → List V → Hp → VK → Prop := fun x vs H Q => ∃ l xs, x = .ref l ∧ vs = [] ∧ H l = some (.lst xs) ∧ Q .non (upd H l (.lst []))
theorem mt_clear : MtM X "list.clear" rClear := by
  intro pins s σ H x vs v us Q I rx rv h
  obtain ⟨l, xs, rfl, rfl, hH, q⟩ := h
  cases rx
  have hus := rv.zero
  subst hus
  obtain ⟨z, its, n, r, hl, e⟩ := I.lstM hH
  refine call_meets F.slot_list_clear ⟨_, e, rfl⟩ F.entry_list_clear (F.args_list_clear_1 _) (AutoSeq1.list_clear_list_0 l its.toArray n (by rw [List.size_toArray]; omega)) ⟨e, ?_⟩
  exact ⟨.non, _, I.lset (its' := []) (ys := []) hH e rfl .nil (Nat.zero_le _), rfl, q⟩

/-! ### list + list, list += list, list * int -/
def rCat : R2 := fun x y H Q => ∃ l b xs zs, x = .ref l ∧ y = .ref b ∧ H l = some (.lst xs) ∧ H b = some (.lst zs) ∧ xs.length + zs.length ≤ sizeLine ∧ ∀ p, H p = none → Q (.ref p) (upd H p (.lst (xs ++ zs)))
theorem op_cat : OpR X (binaryOp .Add) rCat := by
  intro pins s σ H x y v u Q I rx ry h
  obtain ⟨l, b, xs, zs, rfl, rfl, hH, hB, hz, q⟩ := h
  cases rx
  cases ry
  obtain ⟨z, its, n, r, hl, e⟩ := I.lstM hH
  obtain ⟨z2, its2, n2, r2, hl2, e2⟩ := I.lstM hB
  refine PySem.P.add_list e e2 ?_ (by rw [List.size_toArray, List.size_toArray]; omega)
  have ea : its.toArray ++ its2.toArray = (its ++ its2).toArray := by simp
  rw [ea]
  exact ⟨.ref _, _, I.lnew (t' := s.toks) (r.append r2) (by rw [List.length_append]; omega), rfl, q _ I.fresh⟩
/-- a list times an int (a negative one is nothing) -/
def rRep : R2 := fun x y H Q => ∃ l k xs, x = .ref l ∧ y = .int k ∧ H l = some (.lst xs) ∧ -(2 ^ 63) ≤ k ∧ k < 2 ^ 63 ∧ xs.length * k.toNat ≤ sizeLine ∧
  ∀ p, H p = none → Q (.ref p) (upd H p (.lst (List.replicate k.toNat xs).flatten))
theorem len_rep {α : Type} (xs : List α) (k : Nat) : (List.replicate k xs).flatten.length = k * xs.length := by
  induction k with
  | zero => simp
  | succ k ih => rw [List.replicate_succ, List.flatten_cons, List.length_append, ih, Nat.succ_mul, Nat.add_comm]
theorem op_rep : OpR X (binaryOp .Mult) rRep := by
  intro pins s σ H x y v u Q I rx ry h
  obtain ⟨l, k, xs, rfl, rfl, hH, h1, h2, hz, q⟩ := h
  cases rx
  obtain ⟨t, rfl⟩ := ry
  obtain ⟨z, its, n, r, hl, e⟩ := I.lstM hH
  have hlen : its.toArray.size * k.toNat ≤ sizeLine := by rw [List.size_toArray, ← hl]; exact hz
  have hcap : ¬ its.toArray.size * k.toNat > (2 ^ 63 - 1) / 8 := by
    have : (sizeLine : Nat) ≤ (2 ^ 63 - 1) / 8 := by decide
    omega
  have hfit : ¬ (!Builtin.List.listFitsIndex k) = true := by
    rw [fitsIndex_both h1 h2]
    exact Bool.false_ne_true
  have hlong : ¬ Builtin.List.listTooLong (its.toArray.size * k.toNat) = true := by
    rw [notLongL hlen]
    exact Bool.false_ne_true
  have hnew : List.foldl (fun x1 x2 => x1 ++ x2) #[] (List.replicate (if its.toArray.isEmpty = true then 0 else k.toNat) its.toArray) = (List.replicate k.toNat its).flatten.toArray := by
    have f0 : ∀ m : Nat, List.foldl (fun x1 x2 => x1 ++ x2) #[] (List.replicate m its.toArray) = (List.replicate m its).flatten.toArray := fun m => by
      have := foldl_rep its m []
      rw [List.nil_append] at this
      exact this
    rw [f0]
    cases its with
    | nil => simp
    | cons a r' => rw [if_neg (by simp)]
  refine wpAny_binaryOp_repeat_ref (T := "list") (U := "int") (by decide) ⟨_, e, rfl⟩ (fun s' => typeIs_int s' k t) noFill_list_mul F.fills_int_mul F.slot_int_rmul repeat_list F.slot_int_index.lookup
    (call_meets F.slot_int_rmul (typeIs_int s k t) F.entry_int_rmul (F.args_int_rmul_2 _ _) (int___rmul___int_list k t l its.toArray n)
      ⟨e, rfl, ⟨_, e, rfl⟩, call_meets F.slot_list_mul ⟨_, e, rfl⟩ F.entry_list_mul (F.args_list_mul_2 _ _) (AutoListH.list___mul___list_int_3 l its.toArray n k t hfit hcap hlong) ⟨e, ?_⟩⟩)
  rw [hnew]
  exact ⟨.ref _, _, I.lnew (t' := s.toks) (r.rep k.toNat) (by rw [len_rep, Nat.mul_comm]; exact hz), rfl, q _ I.fresh⟩

/-! ### del xs[i] -/
theorem del_list {pins : List (Addr × Obj)} {s : Shared} {σ : St} {H : Hp} {l : Addr} {xs : List V} {i : Int} {t : Tok} {k : Nat} {Q : Unit → Shared → Prop} (I : Inv X pins σ H s) (hH : H l = some (.lst xs))
    (h1 : -(2 ^ 63) ≤ i) (h2 : i < 2 ^ 63) (hk : seqIndex? i xs.length = some k) (h : ∀ s', Inv X pins σ (upd H l (.lst (xs.eraseIdx k))) s' → Q () s') :
    wpAny (model X.prog X.w) X.A (delItem (.ref l) (.int i t)) Q X.xe s := by
  obtain ⟨z, its, n, r, hl, e⟩ := I.lstM hH
  refine PySem.P.delItem_list (k := k) e (fitsIndex_both h1 h2) (by rw [List.size_toArray, ← hl]; exact hk) (h _ ?_) (by rw [List.size_toArray]; omega)
  refine I.lset (its' := its.eraseIdx k) (t' := s.toks) hH e ?_ (r.eraseIdx k) ?_
  · show its.toArray.eraseIdxIfInBounds k = (its.eraseIdx k).toArray
    rw [List.eraseIdxIfInBounds_toArray]
  · have := len_erase xs k
    omega
end

/-! ### xs[a:b] = ys -/
section
variable {prog : Program} {w : World} {A : Around} {E : Value → Shared → Prop} {s : Shared}
theorem splice_eq (its its2 : List Value) (a c : Nat) : its.toArray.extract 0 a ++ its2.toArray ++ its.toArray.extract c its.toArray.size = (its.take a ++ its2 ++ its.drop c).toArray := by
  apply Array.toList_inj.mp
  first
    | (simp
       exact List.take_of_length_le (by simp))
    | simp [List.take_of_length_le]
    | simp
theorem bounds_run {a c n : Nat} (hac : a ≤ c) (hc : c ≤ n) : sliceBounds (some (a : Int)) (some (c : Int)) none n = ((a : Int), (c : Int), 1) := by
  simp only [sliceBounds, Option.getD_none]
  have h1 : ¬ ((a : Int) < 0) := by omega
  have h2 : ¬ ((c : Int) < 0) := by omega
  simp only [h1, h2, if_false, show (1 : Int) > 0 by decide, if_true]
  congr 1
  · omega
  · congr 1; omega
set_option maxRecDepth 100000 in
/-- list.__setitem__ with a slice of step one and another list -/
theorem setItem_slice {l b sl : Addr} {items new : Array Value} {n n2 : Nat} {vl vu : Value} {a c : Nat} {Q : Unit → Shared → Prop}
    (e : s.heap.get? l = some { cls := .type "list", data := .seq items n }) (e2 : s.heap.get? b = some { cls := .type "list", data := .seq new n2 }) (hne : l ≠ b)
    (hs : s.heap.IsSliceOf sl vl vu .none) (pl : IsPart vl (some (a : Int))) (pu : IsPart vu (some (c : Int))) (hac : a ≤ c) (hc : c ≤ items.size)
    (hsz : items.size + new.size ≤ sizeLine) (h : Q () { s with heap := s.heap.update l (Obj.mapSeq fun xs => xs.extract 0 a ++ new ++ xs.extract c xs.size) }) :
    wpAny (model prog w) A (setItem (.ref l) (.ref sl) (.ref b)) Q E s := by
  have hl : s.heap.IsList l items := PySem.IsL.isList e
  have hb : s.heap.IsList b new := PySem.IsL.isList e2
  obtain ⟨os, hos, hcs, hds⟩ := id hs
  have hTs : s.TypeIs (.ref sl) "slice" := ⟨os, hos, hcs⟩
  have hstep : ¬ ((rawPart none == rawInt 0) = true) := Bool.false_ne_true
  have hsame : Builtin.List.listSameRef (.ref l) (.ref b) = false := by
    unfold Builtin.List.listSameRef
    exact beq_eq_false_iff_ne.mpr hne
  have hmax : (max (a : Int) (c : Int)).toNat = c := by omega
  have hz' : ((fun xs : Array Value => xs.extract 0 a ++ new ++ xs.extract c xs.size) items).size ≤ sizeLine + 1 := by
    simp only [Array.size_append, Array.size_extract]
    omega
  unfold setItem
  try with_reducible refine wpAny_holding ?_
  first | refine wpAny_bind (wpAny_pure ?_) | skip
  refine wpAny_bind (wpAny_sequenceKey hl.typeIs (by decide) ?_)
  refine wpAny_bind (wpAny_callSpecial?_slot (name := Str.ofString "__setitem__") hl.typeIs slot_list_setitem
    (wpAny_call_entry slot_list_setitem hl.typeIs entry_list_setitem ?_ (args_list_setitem _ _ _)))
  show wpAny _ _ (Builtin.List.listSubscript? (.ref sl) >>= _) _ _ s
  refine wpAny_bind ?_
  unfold Builtin.List.listSubscript?
  refine wpAny_bind (wpAny_specialOf hTs slice_no_index ?_)
  simp only [Option.isNone_none, if_true]
  refine wpAny_pure ?_
  show wpAny _ _ (typeOf (.ref sl) >>= _) _ _ s
  refine wpAny_bind (wpAny_typeOf hTs ?_)
  first
    | rw [if_neg (by decide)]
    | refine PySem.W.KFB.if_not (by decide) ?_
  rw [listSliceParts_eq]
  refine wpAny_bind (wpAny_bind (wpAny_field hos hds (x := .none) rfl (wpAny_bind (wpAny_listPart .none ?_))))
  rw [if_neg hstep]
  refine wpAny_bind (wpAny_field hos hds (x := vl) rfl (wpAny_bind (wpAny_listPart pl ?_)))
  refine wpAny_bind (wpAny_field hos hds (x := vu) rfl (wpAny_bind (wpAny_listPart pu (wpAny_pure ?_))))
  first
    | simp only [hsame, Bool.false_eq_true, if_false]
    | refine PySem.W.KFB.if_not hsame ?_
    | (dsimp only
       rw [if_neg (by rw [hsame]; exact Bool.false_ne_true)])
  refine wpAny_bind (m := Builtin.List.listAllItems (.ref b) "must assign iterable to extended slice") ?_
  unfold Builtin.List.listAllItems
  refine wpAny_bind (wpAny_typeOf hb.typeIs ?_)
  first
    | refine PySem.W.KFB.if_so (by decide) ?_
    | rw [if_pos (by decide)]
    | simp only [beq_self_eq_true, Bool.true_or, if_true]
  unfold Builtin.List.listItems
  refine wpAny_bind (wpAny_seqItems e2 rfl (wpAny_pure ?_))
  refine wpAny_bind (wpAny_bind (wpAny_seqItems e rfl (wpAny_pure ?_)))
  refine wpAny_bind (wpAny_of_eq ((sliceIndices_raw (some (a : Int)) (some (c : Int)) none items.size (by simp)).trans (congrArg (pure : Int × Int × Int → Sem (Int × Int × Int)) (bounds_run hac hc))) ?_)
  show wpAny _ _ (if ((1 : Int) == 1) = true then _ else _) _ _ s
  rw [if_pos (by decide)]
  refine wpAny_bind (wpAny_rule ?_)
  first
    | simp only [notLongL hsz, Bool.false_eq_true, if_false]
    | refine PySem.W.KFB.if_not (notLongL hsz) ?_
  first | refine wpAny_bind (wpAny_pure ?_) | skip
  show wpAny _ _ (updateSeq l (fun xs => xs.extract 0 ((a : Int)).toNat ++ new ++ xs.extract (max (a : Int) (c : Int)).toNat xs.size) >>= _) _ _ s
  rw [hmax, Int.toNat_natCast]
  refine wpAny_bind (wpAny_updateSeq (hz := Nat.le_trans (Nat.le_add_right _ _) hsz) (_hz' := hz') e rfl ?_)
  refine wpAny_bind (wpAny_letGo ?_)
  first
    | exact wpAny_bind (wpAny_pure (wpAny_pure ⟨.none, rfl, wpAny_pure h⟩))
    | exact wpAny_pure ⟨.none, rfl, wpAny_pure h⟩
end

section
variable {X : Cx}
/-- xs[a:c] = ys of another list, at the value level: sl is the slice object that was just made -/
theorem set_slice {pins : List (Addr × Obj)} {s : Shared} {σ : St} {H : Hp} {l b sl : Addr} {xs ys : List V} {a c : Int} {vl vu : Value} {Q : Unit → Shared → Prop} (I : Inv X pins σ H s)
    (hH : H l = some (.lst xs)) (hB : H b = some (.lst ys)) (hne : l ≠ b) (hs : s.heap.IsSliceOf sl vl vu .none) (ra : RelV (.int a) vl) (rc : RelV (.int c) vu) (h0 : 0 ≤ a) (hac : a ≤ c) (hc : c ≤ xs.length)
    (hz : xs.length + ys.length ≤ sizeLine) (h : ∀ s', Inv X pins σ (upd H l (.lst (xs.take a.toNat ++ ys ++ xs.drop c.toNat))) s' → Q () s') :
    wpAny (model X.prog X.w) X.A (setItem (.ref l) (.ref sl) (.ref b)) Q X.xe s := by
  obtain ⟨ta, rfl⟩ := ra
  obtain ⟨tc, rfl⟩ := rc
  obtain ⟨z, its, n, r, hl, e⟩ := I.lstM hH
  obtain ⟨z2, its2, n2, r2, hl2, e2⟩ := I.lstM hB
  obtain ⟨a', rfl⟩ := Int.eq_ofNat_of_zero_le h0
  obtain ⟨c', rfl⟩ := Int.eq_ofNat_of_zero_le (Int.le_trans h0 hac)
  simp only [Int.toNat_natCast] at h
  refine setItem_slice (a := a') (c := c') e e2 hne hs (.int _ _) (.int _ _) (by omega) (by rw [List.size_toArray]; omega) (by rw [List.size_toArray, List.size_toArray]; omega) (h _ ?_)
  refine I.lset (its' := its.take a' ++ its2 ++ its.drop c') (t' := s.toks) hH e ?_ (Vals.append (Vals.append (r.take _) r2) (r.drop _)) ?_
  · exact splice_eq its its2 a' c'
  · rw [List.length_append, List.length_append, List.length_take, List.length_drop]
    omega
end
end L2

namespace Att
open PySem PySem.W PySem.Calls PyProof.Rows

/-! ### the script -/
theorem ints_of_wellAll {P : Params} {h : Heap} : ∀ (ns : List Int) (vs : List Value), WellAll P h vs (ns.map WData.int) → IntsAre vs ns := by
  intro ns
  induction ns with
  | nil =>
    intro vs w
    rw [List.map_nil] at w
    cases w
    exact .nil
  | cons n ns ih =>
    intro vs w
    rw [List.map_cons] at w
    cases w with
    | cons a b =>
      cases a
      exact .cons _ _ (ih _ b)

theorem script_of {l : OpenLaw} {n : Nat} (hn : l.most = some n) {P : Params} {h : Heap} {args : List WData} {vals : List Value}
    (hpre : l.row.toRowW.claim.pre args = true) (hwl : WellAll P h vals args) :
    ∃ a vs ns, vals = [Value.ref a] ∧ args = [WData.list (ns.map WData.int)] ∧ h.get? a = some { cls := .type "list", data := .seq vs.toArray } ∧ IntsAre vs ns ∧ ns.length ≤ n := by
  have hsh : WShape.hasAll [] args [.list .int] = true := (pre_splitW hpre).1
  have hc : l.pre.holds [] { args := args } = true := (pre_splitW hpre).2
  obtain ⟨d, r, rfl, h1, h2⟩ := hasAllW_cons hsh
  obtain rfl := hasAllW_nil h2
  obtain ⟨xs, rfl, h3⟩ := hasW_list h1
  obtain ⟨ns, rfl⟩ := items_int h3
  have hlen : ns.length ≤ n := by
    unfold OpenLaw.pre at hc
    have h4 : (WTm.not (.lt (.lit (.int (n : Int))) (.len (.arg 0)))).holds [] { args := [.list (ns.map .int)] } = true := by
      have h4 := (holds_andW hc).1
      rw [hn] at h4
      exact h4
    have h5 := condW_of h4 (w_not (w_lt w_lit (w_len_list (w_arg rfl))))
    rw [List.length_map] at h5
    refine Nat.le_of_not_lt fun q => ?_
    have q' : (n : Int) < ((ns.length : Nat) : Int) := by omega
    first
      | (rw [decide_eq_true q'] at h5; exact absurd h5 (by decide))
      | (simp at h5; omega)
  cases hwl with
  | cons w1 w2 =>
    cases w2
    cases w1 with
    | list ho hall => exact ⟨_, _, ns, rfl, rfl, ho, ints_of_wellAll ns _ hall, hlen⟩

theorem post_true (l : OpenLaw) (args : List WData) : l.row.toRowW.claim.post args (.bool true) args = true :=
  postW_of (r := l.row.toRowW) (X := (true == true))
    (show WShape.has [] (.bool true) .bool = true by first | rfl | decide | simp [WShape.has, WShape.arms, WShape.armsAll])
    (show (WTm.eq .res (.lit (.bool true))).value [] { args := args, res := some (.bool true), after := args } = some (.bool (true == true)) from w_eq_bool (w_res rfl) w_lit) rfl

/-! ### the attachment: holds_open's last premise (the goal 'hc' behind k_head) from a wpAny of the law's body -/
theorem attach {l : OpenLaw} {n : Nat} {q : Program} {loose : List Str} {XP : (Str → Option Value) → Heap → Prop} {YP : World → Heap → Prop} {d : DefRec} {x : Str}
    (hn : l.most = some n) (hdf : d.params.defaults = [])
    (hbind : ∀ pm cd doc v : Value, bindArgs (docDef d.name d.params d.body d.scope pm cd doc) ⟨[v], []⟩ = pure [(x, v)])
    (hx : d.scope.names.lookup x = some .local ∨ d.scope.names.lookup x = some .cell)
    (hk : d.scope.kind = .function) (hco : d.scope.isCoroutine = false) (hgen : d.scope.isGenerator = false)
    (body : ∀ (w : World) (s₀ s₁ s : Shared) (mg mb : Str → Option Value) (fa : Addr) (o : Obj) (pm cd doc : Value) (a : Addr) (vs : List Value) (ns : List Int),
      Ground q loose [] XP w s₀ mg mb s₁.heap → YP w s₁.heap →
      s₁.heap.get? fa = some o → o.data = .func (docDef d.name d.params d.body d.scope pm cd doc) → s₁.heap.CodeRec cd d.name → mg d.name = some (.ref fa) →
      s₁.heap.get? a = some { cls := .type "list", data := .seq vs.toArray } → IntsAre vs ns → ns.length ≤ n →
      s.gens = #[] → s.os = s₁.os →
      Fr s₁.heap s₁.heap.objs.size s.heap (bindL (envOfC d.name d.scope s₁.heap.objs.size fa cd).kindOf [(x, .ref a)] fun _ => none) →
      Cl s₁.heap.objs.size (cellsFrom (s₁.heap.objs.size + 1) d.scope.names []) s.heap (bindC (envOfC d.name d.scope s₁.heap.objs.size fa cd).kindOf [(x, .ref a)] fun _ => none) →
      wpAny (model l.prog w) (callerA.deeper (envOfC d.name d.scope s₁.heap.objs.size fa cd)) (execs d.body (envOfC d.name d.scope s₁.heap.objs.size fa cd))
        (fun f s' => f = .ret (.bool true) ∧ OldK s₁.heap s'.heap ∧ s'.os = s₁.os ∧ AllBare s'.gens) (fun _ _ => False) s) :
    WalkO q loose XP YP l.row.toRowW d [] (fun f vs => PySem.call f vs) := by
  intro w s₀ s₁ mg mb G Y fa o pm cd doc dV kV ho hd hcd hD hmg hg args vals as hpre hlay hrd hwl hlo
  obtain rfl : dV = .none := Dflts.none hD hdf
  obtain rfl : kV = .none := Dflts.noKw hD
  obtain ⟨a, vs, ns, rfl, rfl, hobj, hints, hlen⟩ := script_of hn hpre hwl
  refine enter_call ?_
  refine call_cells_ret (o := o) (by rw [depth_caller]; decide) ho (fd_plain hd) G.T.nolimit hcd (hbind pm cd doc (.ref a)) (fun y hy => ?_) (fun h₁ tk F X => ?_) hco hgen hk
  · obtain rfl : y = (x, Value.ref a) := List.mem_singleton.mp hy
    rcases hx with e | e
    · exact .inl e
    · exact .inr ⟨e, cellsFrom_some _ _ _ (.inl e)⟩
  · refine wpAny_mono (body w s₀ s₁ { s₁ with heap := h₁, toks := tk } mg mb fa o pm cd doc a vs ns G Y ho (fd_plain hd) hcd hmg hobj hints hlen hg rfl F X) (fun f s' hq => ?_) (fun _ _ hq => hq)
    obtain ⟨rfl, h2, h3, h4⟩ := hq
    exact ⟨.inl ⟨.bool true, .bool true, [], rfl, fun _ => rfl, .bool true, post_true l _, fun _ => ⟨List.Pairwise.nil, fun _ hm => (nomatch hm)⟩⟩, h2, h3, h4⟩

/-- the same from a codeAny of the CALL (for a layer whose function contracts speak of calls) -/
theorem attach_call {l : OpenLaw} {n : Nat} {q : Program} {loose : List Str} {XP : (Str → Option Value) → Heap → Prop} {YP : World → Heap → Prop} {d : DefRec}
    (hn : l.most = some n) (hdf : d.params.defaults = [])
    (call : ∀ (w : World) (s₀ s₁ : Shared) (mg mb : Str → Option Value) (fa : Addr) (o : Obj) (pm cd doc : Value) (a : Addr) (vs : List Value) (ns : List Int),
      Ground q loose [] XP w s₀ mg mb s₁.heap → YP w s₁.heap →
      s₁.heap.get? fa = some o → o.data = .func (docDef d.name d.params d.body d.scope pm cd doc) → s₁.heap.CodeRec cd d.name → mg d.name = some (.ref fa) →
      s₁.heap.get? a = some { cls := .type "list", data := .seq vs.toArray } → IntsAre vs ns → ns.length ≤ n → s₁.gens = #[] →
      codeAny (model l.prog w) callerA (.call (.ref fa) ⟨[.ref a], []⟩) (fun r s' => r = .ok (.ret (.bool true)) ∧ OldK s₁.heap s'.heap ∧ s'.os = s₁.os ∧ AllBare s'.gens) s₁) :
    WalkO q loose XP YP l.row.toRowW d [] (fun f vs => PySem.call f vs) := by
  intro w s₀ s₁ mg mb G Y fa o pm cd doc dV kV ho hd hcd hD hmg hg args vals as hpre hlay hrd hwl hlo
  obtain rfl : dV = .none := Dflts.none hD hdf
  obtain rfl : kV = .none := Dflts.noKw hD
  obtain ⟨a, vs, ns, rfl, rfl, hobj, hints, hlen⟩ := script_of hn hpre hwl
  refine enter_call (codeAny_mono (call w s₀ s₁ mg mb fa o pm cd doc a vs ns G Y ho (fd_plain hd) hcd hmg hobj hints hlen hg) fun r s' hq => ?_)
  obtain ⟨rfl, h2, h3, h4⟩ := hq
  exact ⟨.inl ⟨.bool true, .bool true, [], rfl, fun _ => rfl, .bool true, post_true l _, fun _ => ⟨List.Pairwise.nil, fun _ hm => (nomatch hm)⟩⟩, h2, h3, h4⟩

/-- the same where the top left finished generators (o_head chose holds_openN): nothing may have changed at all and no generator may be left -/
theorem attachN {l : OpenLaw} {n : Nat} {q : Program} {loose : List Str} {XP : (Str → Option Value) → Heap → Prop} {YP : World → Heap → Prop} {d : DefRec} {x : Str}
    (hn : l.most = some n) (hdf : d.params.defaults = [])
    (hbind : ∀ pm cd doc v : Value, bindArgs (docDef d.name d.params d.body d.scope pm cd doc) ⟨[v], []⟩ = pure [(x, v)])
    (hx : d.scope.names.lookup x = some .local ∨ d.scope.names.lookup x = some .cell)
    (hk : d.scope.kind = .function) (hco : d.scope.isCoroutine = false) (hgen : d.scope.isGenerator = false)
    (body : ∀ (w : World) (s₀ s₁ s : Shared) (mg mb : Str → Option Value) (fa : Addr) (o : Obj) (pm cd doc : Value) (a : Addr) (vs : List Value) (ns : List Int),
      Ground q loose [] XP w s₀ mg mb s₁.heap → YP w s₁.heap →
      s₁.heap.get? fa = some o → o.data = .func (docDef d.name d.params d.body d.scope pm cd doc) → s₁.heap.CodeRec cd d.name → mg d.name = some (.ref fa) →
      s₁.heap.get? a = some { cls := .type "list", data := .seq vs.toArray } → IntsAre vs ns → ns.length ≤ n →
      s.gens = #[] → s.os = s₁.os →
      Fr s₁.heap s₁.heap.objs.size s.heap (bindL (envOfC d.name d.scope s₁.heap.objs.size fa cd).kindOf [(x, .ref a)] fun _ => none) →
      Cl s₁.heap.objs.size (cellsFrom (s₁.heap.objs.size + 1) d.scope.names []) s.heap (bindC (envOfC d.name d.scope s₁.heap.objs.size fa cd).kindOf [(x, .ref a)] fun _ => none) →
      wpAny (model l.prog w) (callerA.deeper (envOfC d.name d.scope s₁.heap.objs.size fa cd)) (execs d.body (envOfC d.name d.scope s₁.heap.objs.size fa cd))
        (fun f s' => f = .ret (.bool true) ∧ (∀ b o, s₁.heap.get? b = some o → s'.heap.get? b = some o) ∧ s'.os = s₁.os ∧ s'.gens = #[]) (fun _ _ => False) s) :
    WalkN q loose XP YP l.row.toRowW d [] (fun f vs => PySem.call f vs) := by
  intro w s₀ s₁ mg mb G Y fa o pm cd doc dV kV ho hd hcd hD hmg hg args vals as hpre hlay hrd hwl hlo
  obtain rfl : dV = .none := Dflts.none hD hdf
  obtain rfl : kV = .none := Dflts.noKw hD
  obtain ⟨a, vs, ns, rfl, rfl, hobj, hints, hlen⟩ := script_of hn hpre hwl
  refine enter_callW ?_
  refine call_cells_ret (o := o) (by rw [depth_caller]; decide) ho (fd_plain hd) G.T.nolimit hcd (hbind pm cd doc (.ref a)) (fun y hy => ?_) (fun h₁ tk F X => ?_) hco hgen hk
  · obtain rfl : y = (x, Value.ref a) := List.mem_singleton.mp hy
    rcases hx with e | e
    · exact .inl e
    · exact .inr ⟨e, cellsFrom_some _ _ _ (.inl e)⟩
  · refine wpAny_mono (body w s₀ s₁ { s₁ with heap := h₁, toks := tk } mg mb fa o pm cd doc a vs ns G Y ho (fd_plain hd) hcd hmg hobj hints hlen hg rfl F X) (fun f s' hq => ?_) (fun _ _ hq => hq)
    obtain ⟨rfl, h2, h3, h4⟩ := hq
    exact ⟨.inl ⟨.bool true, .bool true, [], rfl, fun _ => rfl, .bool true, post_true l _, fun _ => ⟨List.Pairwise.nil, fun _ hm => (nomatch hm)⟩⟩, h2, h3, h4⟩

/-! ### rules over ANY heap (no ledger) from facts about the written part K: the library's own take a ledger (News) for what they write -/
section
variable {prog : Program} {w : World} {A : Around} {E : Value → Shared → Prop} {s : Shared} {K : Frag}

/-- a def of the module, or a method (qual 'C.m'), entered: the frame is the next address; cells behind it -/
theorem call_fn {R : Result → Shared → Prop} {name qual : Str} {params : Arguments} {body : List Stmt} {scope : Scope} {dV kV doc pm cdv ct oc : Value} {an od : Option Addr} {osl : Array (Option Value)} {f : Addr} {args : Args} {binds : List (Str × Value)}
    (X : K.In s.heap) (hlim : s.heap.NoLimit) (ho : K.lookup f = some ⟨oc, od, .func (fnOf name qual params body scope dV kV doc pm an cdv ct), osl⟩) (hcd : codeIn K cdv qual = true) (hroom : A.depth < recursionLimit)
    (hbind : BindsTo s (fnOf name qual params body scope dV kV doc pm an cdv ct) args binds)
    (hkind : (binds.all fun y => scope.names.lookup y.1 == some .local || scope.names.lookup y.1 == some .cell) = true)
    (h : ∀ s₁, InCallC s s.heap.objs.size (bindL (envOfC qual scope s.heap.objs.size f cdv).kindOf binds fun _ => none) (cellsFrom (s.heap.objs.size + 1) scope.names [])
        (bindC (envOfC qual scope s.heap.objs.size f cdv).kindOf binds fun _ => none) s₁ →
      wpAny (model prog w) (A.deeper (envOfC qual scope s.heap.objs.size f cdv)) (execs body (envOfC qual scope s.heap.objs.size f cdv))
        (fun fl s' => R (.ok (.ret (match fl with | .ret v => v | _ => .none))) s')
        (fun e s' => wpAny (model prog w) (A.deeper (envOfC qual scope s.heap.objs.size f cdv)) (leaving (envOfC qual scope s.heap.objs.size f cdv) e) (fun _ s'' => R (.error e) s'') (fun e' s'' => R (.error e') s'') s') s₁)
    (hco : scope.isCoroutine = false) (hgen : scope.isGenerator = false) (hk : scope.kind = .function) : codeAny (model prog w) A (.call (.ref f) args) R s := by
  refine codeAny_call_function hroom (X _ _ ho) rfl hco hgen rfl (codeRec_of X hcd) (hbind _ _ _ _ ?_)
  refine wpAny_newFunctionEnv_cells hk (kindsX hkind _) fun env he s₁ x => ?_
  subst he
  exact ⟨hlim.keeps x.toInCall.keep, codeAny_func (h s₁ x)⟩

/-- C(..): dict at size, instance at size + 1, then __init__ -/
theorem make_obj {R : Result → Shared → Prop} {C fI : Addr} {rest : List Value} {kw : List (Str × Value)}
    (X : K.In s.heap) (hm : makesIn K C = true) (hi : findIn K (.ref C) "__init__" = some (some (.ref fI))) (hf : isFn K (.ref fI) = true)
    (h : codeAny (model prog w) (A.under (.builtin "type.__call__" ⟨.ref C :: rest, kw⟩)) (.call (.ref fI) ⟨.ref (s.heap.objs.size + 1) :: rest, kw⟩) (InitBack (s.heap.objs.size + 1) R)
      { s with heap := (s.heap.push emptyDict).push (instObj C s.heap.objs.size) }) : codeAny (model prog w) A (.call (.ref C) ⟨rest, kw⟩) R s := by
  obtain ⟨hh, g, d, t, os⟩ := s
  exact make_core (makes_of X hm) (looks_findIn X hi) (fun self => bind_fn X self (beq_iff_eq.mp hf)) (.inl rfl) h

/-- x.name where the instance's dict holds the name and the class does not -/
theorem get_field {x C : Addr} {ox : Obj} {es : List DictEntry} {n : Nat} {name : Str} {expr : Bool} {v : Value} {Q : Value → Shared → Prop}
    (X : K.In s.heap) (I : PySem.W.InstAt s.heap x ox C (some (dictOf es n))) (hg : plainGet K C name = true) (hh : hasDictIn K C = true) (ha : findIn K (.ref C) name = some none)
    (hl : getL name es = some (some v)) (hv : handedIn v = true) (h : Q v { s with toks := s.toks + 1 }) : wpAny (model prog w) A (getAttr (.ref x) name expr) Q E s :=
  get_value X I (plainGet_of hg).1 (findObj_own hh ha rfl hl) hv h

/-- x.m(..): the method found in the class -/
theorem get_method {x C f : Addr} {ox : Obj} {es : List DictEntry} {n : Nat} {name : Str} {pl : Sem Bool} {Q : Value × List Value → Shared → Prop}
    (X : K.In s.heap) (I : PySem.W.InstAt s.heap x ox C (some (dictOf es n))) (hg : plainGet K C name = true) (hf : findIn K (.ref C) name = some (some (.ref f))) (ht : isFn K (.ref f) = true)
    (hl : getL name es = some none) (h : Q (.ref f, [.ref x]) s) : wpAny (model prog w) A (getMethod (.ref x) name pl) Q E s :=
  method_fn X I (plainGet_of hg).1 (plainGet_of hg).2 hf (beq_iff_eq.mp ht) (by show (lookIn name (dictOf es n)).map _ = _; rw [lookIn_dict, hl]; rfl) h

/-! the whole heap as the ledger: makes every rule that writes through a ledger a rule over any heap -/
def noObjs (h : Heap) : Heap := { h with objs := #[] }
theorem noObjs_get (h : Heap) (b : Addr) : (noObjs h).get? b = none := by
  cases e : (noObjs h).get? b with
  | none => rfl
  | some o => exact absurd (Heap.lt_size e) (Nat.not_lt_zero _)
def ledger (h : Heap) (L d : Addr) : List (Addr × Obj) := (List.range h.objs.size).filterMap fun a => if a = L ∨ a = d then none else (h.get? a).map fun o => (a, o)
theorem mem_ledger {h : Heap} {L d a : Addr} {o : Obj} : (a, o) ∈ ledger h L d ↔ a ≠ L ∧ a ≠ d ∧ h.get? a = some o := by
  unfold ledger
  rw [List.mem_filterMap]
  constructor
  · rintro ⟨b, _, e⟩
    split at e
    · cases e
    · rename_i hb
      obtain ⟨o', ho, e'⟩ := Option.map_eq_some_iff.mp e
      cases e'
      exact ⟨fun q => hb (.inl q), fun q => hb (.inr q), ho⟩
  · rintro ⟨n1, n2, ho⟩
    refine ⟨a, List.mem_range.mpr (Heap.lt_size ho), ?_⟩
    rw [if_neg (show ¬ (a = L ∨ a = d) from fun q => q.elim n1 n2), ho] <;> rfl
theorem news_ledger {h : Heap} {L d : Addr} {od : Obj} (hne : d ≠ L) (ho : h.get? d = some od) : News (noObjs h) L h ([] ++ (d, od) :: ledger h L d) := by
  rintro ⟨a, o⟩ hp
  rcases List.mem_cons.mp hp with e | hp
  · cases e
    exact ⟨ho, hne, noObjs_get _ _⟩
  · obtain ⟨n1, n2, e⟩ := mem_ledger.mp hp
    exact ⟨e, n1, noObjs_get _ _⟩
theorem fr_all {h : Heap} {L : Addr} {m : Str → Option Value} (n : h.Ns L m) : Fr (noObjs h) L h m :=
  ⟨n, fun b o e => (by rw [noObjs_get] at e; cases e), Nat.zero_le _⟩
/-- Upd of the head entry (for append_K, setItem_K ..) -/
theorem upd_ledger {h : Heap} {L d : Addr} {o o' : Obj} : Upd d o o' ((d, o) :: ledger h L d) ((d, o') :: ledger h L d) :=
  .head fun ⟨_, _⟩ hp => (mem_ledger.mp hp).2.1

/-- x.name = v over any heap: L is any namespace of the heap (the frame's, say): its map stays, its object is not told; all else but the dict stays -/
theorem set_field {x C dx L : Addr} {ox : Obj} {m : Str → Option Value} {es es' : List DictEntry} {n n' : Nat} {name : Str} {v : Value} {Q : Unit → Shared → Prop}
    (X : K.In s.heap) (I : PySem.W.InstAt s.heap x ox C (some (dictOf es n))) (hd : ox.dict = some dx) (hL : s.heap.Ns L m) (hne : dx ≠ L)
    (hs : findIn K (.ref C) "__setattr__" = some (some (.builtin "object.__setattr__"))) (hp : plainOver K C = true) (ht : takerIn K C name = some none) (hh : hasDictIn K C = true) (hl : (getL name es).isSome = true)
    (e : (putL name (PyData.keyHash w.params name) (.str name (s.toks + 1)) v es, putN name es n) = (es', n')) (hz : es'.length ≤ 1000)
    (h : ∀ h' : Heap, h'.Ns L m → h'.get? dx = some (dictOf es' n') → (∀ b o, b ≠ dx → b ≠ L → s.heap.get? b = some o → h'.get? b = some o) → Q () { s with heap := h', toks := s.toks + 2 }) :
    wpAny (model prog w) A (setAttr (.ref x) name v) Q E s := by
  obtain ⟨e1, e2⟩ := Prod.mk.inj e
  have hdx : s.heap.get? dx = some (dictOf es n) := by
    have := I.dict
    rw [hd] at this
    exact this
  refine set_plain X I hs (osa_dict (s := { s with toks := s.toks + 1 }) (h₀ := noObjs s.heap) (L := L) (m := m) (od := dictOf es n) (od' := dictOf es' n') (es := es') (n := n') (pre := []) (post := ledger s.heap L dx)
    (fr_all hL) (news_ledger hne hdx) X I hd hp ht hh hl (fun _ q => nomatch q) (fun ⟨_, _⟩ q => (mem_ledger.mp q).2.1) (by rw [putName_dict, e1, e2]) rfl hz fun h' F' N' => ?_)
  exact h h' F'.ns (N'.get (List.Mem.head _)) fun b o n1 n2 ho => N'.get (List.Mem.tail _ (mem_ledger.mpr ⟨n2, n1, ho⟩))
end
end Att

namespace L2
open PySem PySem.Spec PyProof.Rows

theorem vals_ints : ∀ {vs : List Value} {ns : List Int}, IntsAre vs ns → Vals (ns.map V.int) vs
  | _, _, .nil => .nil
  | _, _, .cons n t h => .cons ⟨t, rfl⟩ (vals_ints h)

/-- nothing is tracked but the script, known to the object (or it is an object of the module) -/
def Only (H : Hp) : Prop := ∀ b, H b = none ∨ ∃ o xs, H b = some (.frz o (.lst xs))

/-- THE HEAD: the law's promise, at the heap behind the top. F, the promise of the law's def, may use that base is part of the heap (so K.In base, base.Ns mainGlobals mg stand in Mod) -/
theorem law_call {P : Program} {w : World} {K : PySem.W.Frag} {mg mb : Str → Option Value} {CX : CXT} {k : Nat} {fa a : Addr} {fd : FuncData} {x : Str} {sp : Sp} {s₁ : Shared} {vs : List Value} {ns : List Int}
    (KX : K.In s₁.heap) (hns : s₁.heap.Ns mainGlobals mg) (hb : s₁.heap.Ns builtinsNs mb) (hbb : ∀ x : Str, x ≠ "__name__" → mb x = bootBuiltins x) (hlim : s₁.heap.NoLimit) (hg : s₁.gens = #[])
    (ha : s₁.heap.get? a = some { cls := .type "list", data := .seq vs.toArray }) (hi : IntsAre vs ns) (hl : ns.length ≤ sizeLine) (hr : Room k callerA)
    (F : ∀ base : Heap, K.In base → base.Ns mainGlobals mg → FnOk P w K mg base CX k fa fd [x] sp) (hbind : ∀ (s : Shared) (u : Value), BindsTo s fd ⟨[u], []⟩ [(x, u)])
    (hsp : ∀ H : Hp, Only H → SqL K H a (ns.map V.int) → sp [.ref a] H (fun v _ => v = .bl true) fun _ _ _ => False)
    (hCX : ∀ H e s', CX [] H s₁ (fun _ _ _ => False) e s' → False) :
    codeAny (model P w) callerA (.call (.ref fa) ⟨[.ref a], []⟩) (fun r s' => r = .ok (.ret (.bool true)) ∧ OldK s₁.heap s'.heap ∧ s'.os = s₁.os ∧ AllBare s'.gens) s₁ := by
  have rv := vals_ints hi
  have lenV := hi.length
  -- from an abstract heap in which nothing but the script may be tracked
  have core : ∀ H : Hp, Only H → SqL K H a (ns.map V.int) → HOk P w H s₁.heap → (∀ b, H b ≠ none → b = a) → (H a ≠ none → K.lookup a = none) →
      codeAny (model P w) callerA (.call (.ref fa) ⟨[.ref a], []⟩) (fun r s' => r = .ok (.ret (.bool true)) ∧ OldK s₁.heap s'.heap ∧ s'.os = s₁.os ∧ AllBare s'.gens) s₁ := by
    intro H hO hS hok hA hK
    have base_of : ∀ {b : Addr} {o : Obj}, s₁.heap.get? b = some o → H b = none → (hidT s₁.heap H).get? b = some o := fun e n => hidT_get e n
    have noA : ∀ {b : Addr} {o : Obj} {es : Array DictEntry} {ep : Nat}, s₁.heap.get? b = some o → o.data = .dict es ep → H b = none := fun {b o es ep} e d => by
      cases q : H b with
      | none => rfl
      | some u =>
        have e' : b = a := hA b (by rw [q]; simp)
        subst e'
        rw [ha] at e; cases e
        have d' : Data.seq vs.toArray _ = Data.dict es ep := d
        cases d'
    have nsK : ∀ {b : Addr} {m : Str → Option Value}, s₁.heap.Ns b m → (hidT s₁.heap H).Ns b m := fun {b m} ⟨o, es, ep, e, d, r⟩ => ⟨o, es, ep, base_of e (noA e d), d, r⟩
    have hKb : K.In (hidT s₁.heap H) := fun b o e => base_of (KX b o e) (by
      cases q : H b with
      | none => rfl
      | some u =>
        have e' : b = a := hA b (by rw [q]; simp)
        subst e'
        rw [hK (by rw [q]; simp)] at e; cases e)
    have hM : Mod K mg (hidT s₁.heap H) := ⟨hKb, nsK hns, ⟨mb, nsK hb, hbb⟩, let ⟨mc, h1, h2⟩ := hlim; ⟨mc, nsK h1, h2⟩⟩
    have e0 : Env0 P w K mg (hidT s₁.heap H) callerA [] s₁ H := ⟨rfl, hM, fun b o e => of_hidT e, Nat.le_of_eq (hidT_size _ _), trivial, fun b hb => absurd (show b ∈ ([] : List Addr) from hb) (by simp), hok, .of_eq hg⟩
    refine codeAny_mono ((F _ hKb (nsK hns)).run callerA [] s₁ H ⟨[.ref a], []⟩ [.ref a] [.ref a] _ _ hr e0 (hbind s₁ (.ref a)) (.cons rfl .nil) (hsp H hO hS)) fun r s' h => ?_
    cases r with
    | error e => exact (hCX H e s' h).elim
    | ok fl =>
      cases fl with
      | next => exact False.elim h
      | brk => exact False.elim h
      | cont => exact False.elim h
      | ret u =>
        obtain ⟨v, H', os, bare, un, hok', r', q⟩ := h
        have q' : v = .bl true := q
        subst q'
        obtain rfl : u = Value.bool true := r'
        refine ⟨rfl, OldK.of_keep fun b o e => ?_, os, bare⟩
        cases q : H b with
        | none => exact un.keep b o e q (by intro z; exact absurd (show b ∈ ([] : List Addr) from z) (by simp)) (by simp)
        | some u =>
          rcases hO b with z | ⟨ob, xs, z⟩
          · rw [q] at z; cases z
          · have z2 := un.frzs b ob _ z
            obtain ⟨e1, _⟩ := hok b _ z
            obtain ⟨e2, _⟩ := hok' b _ z2
            rw [e] at e1; cases e1
            exact e2
  cases hk : K.lookup a with
  | some o =>
    -- the script is one of the module's own objects
    have e := KX a o hk
    rw [ha] at e
    cases e
    refine core (fun _ => none) (fun _ => .inl rfl) (.inr ⟨_, vs.toArray, _, hk, rfl, rfl, rfl, by rw [List.size_toArray, lenV]; exact hl, by simpa using rv⟩) (fun b u z => by have z' : (none : Option HO) = some u := z; cases z') (fun b z => absurd rfl z) fun z => absurd rfl z
  | none =>
    refine core (fun b => if b = a then some (.frz { cls := .type "list", data := .seq vs.toArray } (.lst (ns.map V.int))) else none) (fun b => ?_) (.inl (.inr ⟨{ cls := .type "list", data := .seq vs.toArray }, if_pos rfl⟩)) (fun b u z => ?_) (fun b z => ?_) fun _ => hk
    · by_cases hb : b = a
      · exact .inr ⟨_, _, if_pos hb⟩
      · exact .inl (if_neg hb)
    · by_cases hb : b = a
      · have z' := (if_pos hb).symm.trans z
        cases z'
        subst hb
        exact ⟨ha, by rw [List.length_map]; exact hl, vs, _, rv, ha⟩
      · have z' := (if_neg hb).symm.trans z
        cases z'
    · by_cases hb : b = a
      · exact hb
      · exact absurd (if_neg hb) z
end L2

namespace L2
open PySem PySem.Spec PyProof.Rows

abbrev KOf {K : PySem.W.Frag} {h : Heap} (_ : K.In h) : PySem.W.Frag := K

/-- the goal that k_head leaves (case hc), from the law's promise. F gives the function object fd (K's own) once, then the promise over every base -/
theorem walk_of {l : PySem.W.OpenLaw} {n k : Nat} {q : Program} {loose : List Str} {XP : (Str → Option Value) → Heap → Prop} {YP : World → Heap → Prop} {d : DefRec} {K : Params → PySem.W.Frag} {CX : World → CXT} {sp : World → Sp} {x : Str}
    (hn : l.most = some n) (hn2 : n ≤ sizeLine) (hdf : d.params.defaults = []) (hr : Room k callerA)
    (hY : ∀ (w : World) (h : Heap), YP w h → (K w.params).In h)
    (F : ∀ (w : World) (mg : Str → Option Value) (fa : Addr) (h : Heap), (K w.params).In h → h.Ns mainGlobals mg → mg d.name = some (.ref fa) →
      ∃ fd : FuncData, (∀ (s : Shared) (u : Value), BindsTo s fd ⟨[u], []⟩ [(x, u)]) ∧
        ∀ base : Heap, (K w.params).In base → base.Ns mainGlobals mg → FnOk l.prog w (K w.params) mg base (CX w) k fa fd [x] (sp w))
    (hsp : ∀ (w : World) (H : Hp) (a : Addr) (ns : List Int), ns.length ≤ n → Only H → SqL (K w.params) H a (ns.map V.int) → sp w [.ref a] H (fun v _ => v = .bl true) fun _ _ _ => False)
    (hCX : ∀ (w : World) (H : Hp) (s : Shared) (e : Value) (s' : Shared), CX w [] H s (fun _ _ _ => False) e s' → False) :
    PySem.W.WalkO q loose XP YP l.row.toRowW d [] (fun f vs => PySem.call f vs) := by
  refine Att.attach_call hn hdf fun w s₀ s₁ mg mb fa o pm cd doc a vs ns G Y ho hd hcd hmg hobj hints hlen hg => ?_
  have KX := hY w _ Y
  obtain ⟨fd, hb, hF⟩ := F w mg fa _ KX G.T.g hmg
  exact law_call KX G.T.g G.T.b G.T.builtins G.T.nolimit hg hobj hints (Nat.le_trans hlen hn2) hr hF hb (fun H hO hS => hsp w H a ns hlen hO hS) fun H e s' => hCX w H s₁ e s'
/-- the same where the promise hangs on the written part alone: (sp := My.sp_law), no hole under a binder -/
theorem walk_ofK {l : PySem.W.OpenLaw} {n k : Nat} {q : Program} {loose : List Str} {XP : (Str → Option Value) → Heap → Prop} {YP : World → Heap → Prop} {d : DefRec} {K : Params → PySem.W.Frag} {CX : CXT} {sp : PySem.W.Frag → Sp} {x : Str}
    (hn : l.most = some n) (hn2 : n ≤ sizeLine) (hdf : d.params.defaults = []) (hr : Room k callerA)
    (hY : ∀ (w : World) (h : Heap), YP w h → (K w.params).In h)
    (F : ∀ (w : World) (mg : Str → Option Value) (fa : Addr) (h : Heap), (K w.params).In h → h.Ns mainGlobals mg → mg d.name = some (.ref fa) →
      ∃ fd : FuncData, (∀ (s : Shared) (u : Value), BindsTo s fd ⟨[u], []⟩ [(x, u)]) ∧
        ∀ base : Heap, (K w.params).In base → base.Ns mainGlobals mg → FnOk l.prog w (K w.params) mg base CX k fa fd [x] (sp (K w.params)))
    (hsp : ∀ (K : PySem.W.Frag) (H : Hp) (a : Addr) (ns : List Int), ns.length ≤ n → Only H → SqL K H a (ns.map V.int) → sp K [.ref a] H (fun v _ => v = .bl true) fun _ _ _ => False)
    (hCX : ∀ (H : Hp) (s : Shared) (e : Value) (s' : Shared), CX [] H s (fun _ _ _ => False) e s' → False) :
    PySem.W.WalkO q loose XP YP l.row.toRowW d [] (fun f vs => PySem.call f vs) :=
  walk_of (K := K) (CX := fun _ => CX) (sp := fun w => sp (K w.params)) hn hn2 hdf hr hY F (fun w H a ns h1 h2 h3 => hsp (K w.params) H a ns h1 h2 h3) fun _ H s e s' => hCX H s e s'
end L2

/- THE LAST THEOREM (shape; LID, My.* are yours):
   My.Adr: a structure of the addresses that your layer names (classes, functions); My.Txt K t: a structure (Prop) of the equations over K;
   My.txt_mk : {K} {implicit addresses ..} (e1 : nsIn K mainGlobals "law" = some (some (.ref f))) (e2 : K.lookup f = some ⟨oc, od, .func (fnOf "law" "law" params body scope dV kV doc pm an cdv ct), sl⟩) (e3 : codeIn K cdv "law" = true) .. : ∃ t, My.Txt K t

set_option maxRecDepth 100000 in
set_option maxHeartbeats 0 in
theorem PySem.Challenge.cw_LID_holds : PySem.Challenge.rw_LID.Holds := by
  w_on; o_law; k_head; (case hw => w_witness2)
  k_fill
  refine L2.walk_of (l := PySem.Challenge.rw_LID) (n := 63) (k := 40) (x := "script") (CX := fun w => ..) (sp := fun _ => My.sp_law) rfl (by decide) rfl ⟨rfl, by decide, by decide⟩ (fun w h Y => PySem.W.kIn_of Y) ?F ?S ?C
  case F =>
    intro w mg fa h KX G hmg
    have T : ∃ t, My.Txt (L2.KOf KX) t := by
      dsimp only [L2.KOf]                          -- K must stand as «<heap const> w.params» for k_is
      refine' My.txt_mk ?e1 ?e2 ?e3 ..
      (case e1 => PySem.W.k_is)                    -- in the order: a name -> its address -> its object -> its parts
      (case e2 => PySem.W.k_is)
      ..
    obtain ⟨t, T⟩ := T
    have e0 := hmg.symm.trans (PySem.W.mg_of KX G T.law)
    cases e0                                       -- fa is the law's own address
    exact ⟨_, fun s u => .of_eq rfl, fun base kb nb => My.law_fn T kb nb⟩     -- if «.of_eq rfl» comes too early: refine' ⟨_, ?b, fun base kb nb => My.law_fn T kb nb⟩; exact fun s u => .of_eq rfl
  case S => exact fun w H a ns hl hO hS => ..
  case C => exact ..
(the tactic k_is has no namespace: write k_is) -/

/-! SHORT WORDS over the layer: a def of the text, its body, what a loop and a test want. -/
namespace L2
open PySem PySem.Spec PyProof.Rows

/-! ### the text by places -/
/-- the j-th statement of a class's body -/
def inClass (s : Stmt) (j : Nat) : Stmt := match s with
  | .ClassDef _ _ _ body _ _ _ _ _ _ _ => body.getD j (.Pass ⟨0, 0, 0, 0⟩)
  | _ => .Pass ⟨0, 0, 0, 0⟩
def defArgs (s : Stmt) : Arguments := match s with
  | .FunctionDef _ a _ _ _ _ _ _ _ _ => a
  | _ => { posonlyargs := [], args := [], vararg := none, kwonlyargs := [], kw_defaults := [], kwarg := none, defaults := [] }
def defBody (s : Stmt) : List Stmt := match s with
  | .FunctionDef _ _ b _ _ _ _ _ _ _ => b
  | _ => []
def defScope (s : Stmt) : Scope := match s with
  | .FunctionDef _ _ _ _ _ _ sc _ _ _ => sc
  | _ => { kind := .function, names := [], isGenerator := false, isCoroutine := false }

/-! ### no exception leaves a def -/
abbrev CX0 : CXT := fun _ _ _ _ _ _ => False
abbrev E0 : XK := fun _ _ _ => False
theorem pass0 {X : Cx} : Passes CX0 X E0 := fun _ _ _ _ _ _ _ h => h.elim

/-! ### a def (or method) of the text as it stands behind the top -/
structure Fun (K : PySem.W.Frag) (x qual : Str) (st : Stmt) (f : Addr) (fd : FuncData) : Prop where
  ex : ∃ (oc : Value) (od : Option Addr) (kV doc pm : Value) (an : Option Addr) (cdv ct : Value) (osl : Array (Option Value)),
    fd = PySem.W.fnOf x qual (defArgs st) (defBody st) (defScope st) .none kV doc pm an cdv ct ∧ K.lookup f = some ⟨oc, od, .func fd, osl⟩ ∧ PySem.W.codeIn K cdv qual = true
  kp : PySem.W.keepIn K (.ref f) = true
section
variable {P : Program} {w : World} {K : PySem.W.Frag} {mg : Str → Option Value} {base : Heap}
/-- THE RULE for a def: its body as a term of rules, and the reading of that term -/
theorem Fun.ok {x qual : Str} {st : Stmt} {f : Addr} {fd : FuncData} {N ps : List Str} {k : Nat} {sp : Sp} (F : Fun K x qual st f fd) (S : FnScope N ps (defScope st)) (len : ∀ vs H Q E, sp vs H Q E → vs.length = ps.length)
    (hbody : ∀ (cdv : Value) (A : Around) (outer : List Env) (s : Shared) (H : Hp) (vs : List V) (Q : VK) (E : XK), Room k (A.deeper (envOfC qual (defScope st) s.heap.objs.size f cdv)) → sp vs H Q E →
      ∃ t, PSs (cxOf CX0 P w K mg base N qual (defScope st) f cdv A outer s H E).nox (defBody st) t ∧ t { nx := fun _ H' => Q .non H', rt := Q } (start N vs) H) : FnOk P w K mg base CX0 (k + 1) f fd ps sp := by
  obtain ⟨oc, od, kV, doc, pm, an, cdv, ct, osl, rfl, lk, hcd⟩ := F.ex
  refine fn_of lk hcd S len fun A outer s H vs Q E hr hsp => ?_
  obtain ⟨t, h, q⟩ := hbody cdv A outer s H vs Q E hr hsp
  exact ⟨t, h.nox, q⟩
/-- how its arguments bind (no defaults): h is «fun _ _ _ _ _ _ us hl => match us, hl with | [_, _], _ => rfl», one _ a parameter -/
theorem Fun.binds {x qual : Str} {st : Stmt} {f : Addr} {fd : FuncData} {ps : List Str} (F : Fun K x qual st f fd)
    (h : ∀ (kV doc pm : Value) (an : Option Addr) (cdv ct : Value) (us : List Value), us.length = ps.length → bindArgs (PySem.W.fnOf x qual (defArgs st) (defBody st) (defScope st) .none kV doc pm an cdv ct) ⟨us, []⟩ = pure (ps.zip us)) : Binds K fd ps [] := by
  obtain ⟨oc, od, kV, doc, pm, an, cdv, ct, osl, rfl, lk, hcd⟩ := F.ex
  exact .all (h kV doc pm an cdv ct)
theorem fun_mk {x qual : Str} {st : Stmt} {f : Addr} {oc : Value} {od an : Option Addr} {osl : Array (Option Value)} {kV doc pm cdv ct : Value} (l : K.lookup f = some ⟨oc, od, .func (PySem.W.fnOf x qual (defArgs st) (defBody st) (defScope st) .none kV doc pm an cdv ct), osl⟩)
    (c : PySem.W.codeIn K cdv qual = true) (k : PySem.W.keepIn K (.ref f) = true) : Fun K x qual st f (PySem.W.fnOf x qual (defArgs st) (defBody st) (defScope st) .none kV doc pm an cdv ct) := ⟨⟨oc, od, kV, doc, pm, an, cdv, ct, osl, rfl, l, c⟩, k⟩
end
theorem hu_of {A : Around} {k : Nat} (hr : Room k A) : A.units + 1 < cLine := Nat.lt_of_le_of_lt (Nat.add_le_add_left (by decide : 1 ≤ 64) _) hr.units
theorem small1000 {n : Nat} (h : n ≤ 1000) : n < sizeLine := Nat.lt_of_le_of_lt h (by decide)

/-! ### expressions in short: the name that stands in the i-th slot -/
section
variable {X : Cx}
theorem pv (i : Nat) {x : Str} {pos : Pos} (hN : X.N[i]? = some x := by rfl) (hv : Vis X.env.scope x := by first | exact Or.inl rfl | exact Or.inr (Or.inl rfl) | exact Or.inr (Or.inr rfl)) (hd : (x == ("__debug__" : Str)) = false := by decide)
    (hcd : (x == ("__classdict__" : Str)) = false := by decide) : PE X (.Name x pos) (tVar i) := pe_var hN hv hd hcd
end

/-! ### tests -/
theorem iteF {A B : Prop} (h : B) : if false = true then A else B := by
  rw [if_neg Bool.false_ne_true]
  exact h
theorem iteT {A B : Prop} (h : A) : if true = true then A else B := by
  rw [if_pos rfl]
  exact h
theorem ite2 {c A B : Prop} [Decidable c] (h1 : c → A) (h2 : ¬ c → B) : if c then A else B := by
  by_cases h : c
  · rw [if_pos h]
    exact h1 h
  · rw [if_neg h]
    exact h2 h
theorem iteNS {c A B : Prop} [Decidable c] (hc : c) (h : B) : if (!decide c) = true then A else B := by
  rw [decide_eq_true hc]
  exact iteF h

/-! ### heaps -/
/-- all that was tracked is as it was -/
def Same (H H' : Hp) : Prop := ∀ b o, H b = some o → H' b = some o
theorem Same.refl (H : Hp) : Same H H := fun _ _ h => h
theorem Same.trans {H H1 H2 : Hp} (a : Same H H1) (b : Same H1 H2) : Same H H2 := fun c o h => b c o (a c o h)
theorem Same.free {H H' : Hp} (e : Same H H') {l : Addr} (h : H' l = Option.none) : H l = Option.none := by
  cases q : H l with
  | none => rfl
  | some o =>
    rw [e l o q] at h
    cases h
theorem Same.seq {K : PySem.W.Frag} {H H' : Hp} {a : Addr} {xs : List V} (e : Same H H') (h : SqL K H a xs) : SqL K H' a xs := by
  rcases h with (h | ⟨o, h⟩) | h
  · exact .inl (.inl (e _ _ h))
  · exact .inl (.inr ⟨o, e _ _ h⟩)
  · exact .inr h

end L2

/-! A list comprehension over the hand layer: one clause, no test or one; its block as a context of its own. -/
namespace L2
open PySem PySem.Spec PyProof.Rows

/-! ### the loop of a comprehension, the target of any kind -/
section
variable {prog : Program} {w : World} {A : Around} {R : Result → Shared → Prop} {s : Shared}
abbrev F0 : Value → Shared → Prop := fun _ _ => False
theorem offF {α : Type} {t : Sem α} {Q : α → Shared → Prop} {M : Model} {A : Around} {E : Value → Shared → Prop} {s : Shared} (h : wpAny M A t Q F0 s) : wpAny M A t Q E s := wpAny_mono h (fun _ _ q => q) fun _ _ z => z.elim
theorem offF' {α : Type} {t : Sem α} {Q Q' : α → Shared → Prop} {M : Model} {A : Around} {E : Value → Shared → Prop} {s : Shared} (h : wpAny M A t Q F0 s) (hq : ∀ a s, Q a s → Q' a s) : wpAny M A t Q' E s := wpAny_mono h hq fun _ _ z => z.elim
theorem compLoop_turns {elt target iter : Expr} {ifs : List Expr} {scope : Scope} {pos : Pos} {it acc : Value} {env : Env} (I : Nat → Shared → Prop)
    (turn : ∀ n s, I n s → wpAny (model prog w) A (pyNext it) (fun r s₁ => match r with
      | none => R (.ok .next) s₁
      | some v => wpAny (model prog w) A (letOwnedTupleGo target it v) (fun _ s₁ => wpAny (model prog w) A (assign target env v) (fun _ s₂ =>
          wpAny (model prog w) A (forIn ifs true fun c r => if r = true then do let ok ← isTrue c env (eval c env); pure (ForInStep.yield ok) else pure (ForInStep.yield r)) (fun ok s₃ =>
            if ok = true then wpAny (model prog w) A (eval elt env) (fun x s₄ =>
              wpAny (model prog w) A (call (.builtin "list.append") [acc, x]) (fun _ s₅ => ∃ m, m < n ∧ I m s₅) F0 s₄) F0 s₃
            else ∃ m, m < n ∧ I m s₃) F0 s₂) F0 s₁) F0 s₁) F0 s)
    (n : Nat) (h : I n s) :
    codeAny (model prog w) A (.compLoop (.ListComp elt [⟨target, iter, ifs, 0⟩] scope pos) 0 it acc env) R s := by
  refine codeAny_loop rfl I (fun n s hI => ?_) n h
  show wpAny _ A ((compTurn (.ListComp elt [⟨target, iter, ifs, 0⟩] scope pos) 0 it acc env).onRaise (fun x => do noteFrame x env; theTreesLotGoes x)) _ _ s
  refine wpAny_noted ?_
  rw [compTurn_list]
  refine wpAny_bind (wpAny_standAt (wpAny_bind (offF' (turn n s hI) (fun r s₁ h₁ => ?_))))
  cases r with
  | none => exact wpAny_pure h₁
  | some v =>
    refine wpAny_bind (offF' h₁ fun _ s₁' h₁' => ?_)
    refine wpAny_bind (offF' h₁' fun _ s₂ h₂ => wpAny_bind (offF' h₂ fun ok s₃ h₃ => ?_))
    cases ok with
    | false => exact wpAny_pure ⟨rfl, h₃⟩
    | true =>
      exact wpAny_bind (wpAny_bind (offF' h₃ fun x s₄ h₄ => wpAny_bind (offF' h₄ fun _ s₅ h₅ => wpAny_pure (wpAny_pure ⟨rfl, h₅⟩))))
end

/-! ### scopes -/
theorem lookup_relabel {env : Env} (x : Str) : ∀ (names : List (Str × NameKind)),
    (names.map fun (n, k) => if (k == NameKind.free && env.scope.kind == .function && env.kindOf n == some .cell) then (n, NameKind.cell) else (n, k)).lookup x
      = (names.lookup x).map fun k => if (k == NameKind.free && env.scope.kind == .function && env.kindOf x == some .cell) = true then NameKind.cell else k
  | [] => rfl
  | (n, k) :: r => by
    have ih := lookup_relabel (env := env) x r
    rw [List.map_cons]
    cases hx : x == n with
    | true =>
      have e : x = n := eq_of_beq hx
      subst e
      by_cases hc : (k == NameKind.free && env.scope.kind == .function && env.kindOf x == some .cell) = true
      · simp only [hc, if_true, List.lookup_cons, beq_self_eq_true, Option.map_some]
      · simp only [hc, if_false, List.lookup_cons, beq_self_eq_true, Option.map_some, Bool.false_eq_true]
    | false =>
      by_cases hc : (k == NameKind.free && env.scope.kind == .function && env.kindOf n == some .cell) = true
      · simp only [hc, if_true, List.lookup_cons, hx]; exact ih
      · simp only [hc, if_false, List.lookup_cons, hx, Bool.false_eq_true]; exact ih

/-- the cells that a block takes with it -/
def clOf (env : Env) : List (Str × NameKind) → List (Str × Addr) → List (Str × Addr)
  | [], acc => acc
  | (n, k) :: r, acc => clOf env r (if k = .free then (match env.cells.lookup n with | some c => (n, c) :: acc | none => acc) else acc)

theorem closure_eq {env : Env} {scope : Scope} (h : ∀ p ∈ scope.names, p.2 = .free → ∃ c, env.cells.lookup p.1 = some c) : closureFor scope env = pure (clOf env scope.names []) := by
  have gen : ∀ (l : List (Str × NameKind)) (acc : List (Str × Addr)), (∀ p ∈ l, p.2 = .free → ∃ c, env.cells.lookup p.1 = some c) →
      (forIn l acc fun x r => if (x.2 == NameKind.free) = true then (do let a ← cellOf env x.1; pure (ForInStep.yield ((x.1, a) :: r))) else pure (ForInStep.yield r) : Sem (List (Str × Addr))) = pure (clOf env l acc) := by
    intro l
    induction l with
    | nil => intro acc _; rfl
    | cons p r ih =>
      intro acc hp
      obtain ⟨n, k⟩ := p
      rw [List.forIn_cons]
      have hr : ∀ p ∈ r, p.2 = .free → ∃ c, env.cells.lookup p.1 = some c := fun p hm => hp p (List.mem_cons_of_mem _ hm)
      by_cases hk : k = .free
      · subst hk
        obtain ⟨c, hc⟩ := hp (n, .free) List.mem_cons_self rfl
        have e : cellOf env n = pure c := by unfold cellOf; rw [hc]
        simp only [beq_self_eq_true, if_true, e]
        show (forIn r ((n, c) :: acc) _ : Sem _) = _
        rw [ih _ hr]
        show _ = (pure (clOf env r (if NameKind.free = NameKind.free then (match env.cells.lookup n with | some c => (n, c) :: acc | none => acc) else acc)) : Sem _)
        rw [if_pos rfl, hc]
      · have hb : (k == NameKind.free) = false := by simpa using hk
        simp only [hb, Bool.false_eq_true, if_false]
        show (forIn r acc _ : Sem _) = _
        rw [ih _ hr]
        show _ = (pure (clOf env r (if k = NameKind.free then (match env.cells.lookup n with | some c => (n, c) :: acc | none => acc) else acc)) : Sem _)
        rw [if_neg hk]
  have q := gen scope.names [] h
  simp only [closureFor]
  rw [q]
  rfl

theorem clOf_mem {env : Env} : ∀ (l : List (Str × NameKind)) (acc : List (Str × Addr)), (∀ x c, acc.lookup x = some c → env.cells.lookup x = some c) → ∀ x c, (clOf env l acc).lookup x = some c → env.cells.lookup x = some c
  | [], _, h => h
  | (n, k) :: r, acc, h => by
    refine clOf_mem r _ ?_
    by_cases hk : k = .free
    · rw [if_pos hk]
      cases e : env.cells.lookup n with
      | none => exact h
      | some c =>
        intro x c' hx
        rw [List.lookup_cons] at hx
        cases q : x == n with
        | true => rw [q] at hx; cases hx; rw [eq_of_beq q]; exact e
        | false => rw [q] at hx; exact h x c' hx
    · rw [if_neg hk]; exact h
theorem clOf_old {env : Env} : ∀ (l : List (Str × NameKind)) (acc : List (Str × Addr)) (x : Str), (acc.lookup x).isSome = true → ((clOf env l acc).lookup x).isSome = true
  | [], _, _, h => h
  | (n, k) :: r, acc, x, h => by
    refine clOf_old r _ x ?_
    by_cases hk : k = .free
    · rw [if_pos hk]
      cases e : env.cells.lookup n with
      | none => exact h
      | some c =>
        show (List.lookup x ((n, c) :: acc)).isSome = true
        rw [List.lookup_cons]
        cases q : x == n with
        | true => rfl
        | false => exact h
    · rw [if_neg hk]; exact h
theorem clOf_has {env : Env} : ∀ (l : List (Str × NameKind)) (acc : List (Str × Addr)), (∀ p ∈ l, p.2 = .free → ∃ c, env.cells.lookup p.1 = some c) → ∀ x, (x, NameKind.free) ∈ l → ((clOf env l acc).lookup x).isSome = true
  | [], _, _, _, h => nomatch h
  | (n, k) :: r, acc, hp, x, h => by
    rcases List.mem_cons.mp h with e | h
    · cases e
      obtain ⟨c, hc⟩ := hp (n, .free) List.mem_cons_self rfl
      show ((clOf env r (if NameKind.free = NameKind.free then (match env.cells.lookup n with | some c => (n, c) :: acc | none => acc) else acc)).lookup n).isSome = true
      rw [if_pos rfl, hc]
      exact clOf_old r _ n (by simp [List.lookup_cons])
    · exact clOf_has r _ (fun p hm => hp p (List.mem_cons_of_mem _ hm)) x h

/-- what of the two scopes a comprehension asks: sc the enclosing one, scope its own; tgs its own names, frees the names that it takes from without, at the places js of N -/
def compOk (sc scope : Scope) (N tgs frees : List Str) (js : List Nat) : Bool :=
  scope.kind == .function && scope.names.all (fun p => p.2 != .cell && (p.2 != .free || sc.names.lookup p.1 == some .cell || sc.names.lookup p.1 == some .free) && (p.2 != .local || scope.names.lookup p.1 == some .local))
    && tgs.all (fun x => scope.names.lookup x == some .local) && frees.all (fun x => scope.names.lookup x == some .free) && (js.map fun j => N[j]?) == frees.map some

/-- the names' values at the block's entry -/
def upC (m : Nat) (js : List Nat) (σ : St) : St := List.replicate m none ++ js.map fun j => (σ[j]?).join

/-- the block of a comprehension -/
def compCx (X : Cx) (Nc : List Str) (scope : Scope) (C : Addr) (s₀ : Shared) (H₀ : Hp) (fp : List Addr) : Cx where
  prog := X.prog
  w := X.w
  K := X.K
  mg := X.mg
  base := X.base
  A := X.A
  N := Nc
  s₀ := s₀
  H₀ := H₀
  env := compEnvC scope (clOf X.env scope.names []) C X.env
  outer := X.stack
  stack := X.stack
  ex := fp
  fn := fun _ => false
  calm := X.calm
  pn := []
  xe := F0

/-- the tests of a clause -/
def PIfs (X : Cx) (ifs : List Expr) (t : TT) : Prop :=
  ∀ (pins : List (Addr × Obj)) (s : Shared) (σ : St) (H : Hp) (Q : Bool → Hp → Prop), Inv X pins σ H s → t σ H Q →
    wpAny (model X.prog X.w) X.A (forIn ifs true fun c r => if r = true then do let ok ← isTrue c X.env (eval c X.env); pure (ForInStep.yield ok) else pure (ForInStep.yield r)) (TP X pins σ Q) X.xe s
def tYes : TT := fun _ H Q => Q true H
theorem pifs_nil {X : Cx} : PIfs X [] tYes := fun _ _ _ H _ I h => wpAny_tests_nil ⟨H, I, h⟩
theorem pifs_one {X : Cx} {c : Expr} {t : TT} (h : PT X c t) : PIfs X [c] t := fun pins s σ H Q I hq => wpAny_tests_one (h pins s σ H Q I hq)

/-- the reading of a block -/
def tBlk (J : It) (m : Nat) (js : List Nat) (g : TG) (tc : TT) (te : TE) (σ : St) (H1 : Hp) (Q : VK) : Prop := ∀ D, H1 D = none →
  ∃ W : Nat → Nat → St → Hp → Prop, (∃ k, W 0 k (upC m js σ) (upd H1 D (.lst []))) ∧ ∀ i k σ' H', W i k σ' H' →
    (J.stop i H' ∧ Q (.ref D) H') ∨ (J.go i H' ∧ ∀ x H2, J.yld i H' x H2 → g x σ' H2 fun σ2 H3 => tc σ2 H3 fun b H4 => if b = true then te σ2 H4 fun y H5 => ∃ ys k', H5 D = some (.lst ys) ∧ ys.length < sizeLine ∧ k' < k ∧ W (i + 1) k' σ2 (upd H5 D (.lst (ys ++ [y])))
      else ∃ k', k' < k ∧ W (i + 1) k' σ2 H4)

section
variable {X : Cx} {pins : List (Addr × Obj)} {σ : St} {H2 : Hp} {s2 : Shared} {tg elt iter : Expr} {ifs : List Expr} {scope sc : Scope} {pos : Pos} {tgs frees : List Str} {js : List Nat} {g : TG} {te : TE} {tc : TT}

theorem compOk_parts {N : List Str} (h : compOk sc scope N tgs frees js = true) : scope.kind = .function ∧ (∀ p ∈ scope.names, p.2 ≠ .cell) ∧ (∀ p ∈ scope.names, p.2 = .free → sc.names.lookup p.1 = some .cell ∨ sc.names.lookup p.1 = some .free) ∧
    (∀ p ∈ scope.names, p.2 = .local → scope.names.lookup p.1 = some .local) ∧ (∀ x ∈ tgs, scope.names.lookup x = some .local) ∧ (∀ x ∈ frees, scope.names.lookup x = some .free) ∧ (js.map fun j => N[j]?) = frees.map some := by
  unfold compOk at h
  simp only [Bool.and_eq_true, List.all_eq_true, bne_iff_ne, ne_eq, Bool.or_eq_true, beq_iff_eq] at h
  obtain ⟨⟨⟨⟨h1, h2⟩, h3⟩, h4⟩, h5⟩ := h
  refine ⟨h1, fun p hp => (h2 p hp).1.1, fun p hp e => ?_, fun p hp e => ?_, h3, h4, h5⟩
  · rcases (h2 p hp).1.2 with (q | q) | q
    · exact absurd e q
    · exact .inl q
    · exact .inr q
  · rcases (h2 p hp).2 with q | q
    · exact absurd e q
    · exact q

theorem comp_start {C : Addr} {s3 : Shared} {H3 : Hp} {h4 : Heap} {tk : Nat} {fp : List Addr} {m0 : Str → Option Value} (I : Inv X pins σ H3 s3) (f3 : ∀ b ∈ fp, FpOk X pins H3 b) (ofp : ∀ b ∈ fp, b < s3.heap.objs.size)
    (hsc : X.env.scope = sc) (hok : compOk sc scope X.N tgs frees js = true) (hC : C = s3.heap.objs.size) (hk : ∀ b o, s3.heap.get? b = some o → h4.get? b = some o) (hn : h4.Ns C m0) :
    Inv (compCx X (tgs ++ frees) scope C s3 H3 fp) [] (upC tgs.length js σ) H3 { s3 with heap := h4, toks := tk } := by
  obtain ⟨k1, k2, k3, k4, k5, k6, k7⟩ := compOk_parts hok
  have hcl : ∀ x c, (clOf X.env scope.names []).lookup x = some c → X.env.cells.lookup x = some c := clOf_mem scope.names [] (fun _ _ z => nomatch z)
  have hfr : ∀ p ∈ scope.names, p.2 = .free → ∃ c, X.env.cells.lookup p.1 = some c := fun p hp e => I.ok.has p.1 (by
    show X.env.scope.names.lookup p.1 = _ ∨ X.env.scope.names.lookup p.1 = _
    rw [hsc]; exact k3 p hp e)
  have rl : ∀ x, (relabel scope X.env).names.lookup x = (scope.names.lookup x).map fun k => if (k == NameKind.free && X.env.scope.kind == .function && X.env.kindOf x == some .cell) = true then NameKind.cell else k := fun x => lookup_relabel x scope.names
  have hasc : ∀ x, ((relabel scope X.env).names.lookup x = some .cell ∨ (relabel scope X.env).names.lookup x = some .free) → ∃ c, (clOf X.env scope.names []).lookup x = some c := fun x hx => by
    rw [rl x] at hx
    cases e : scope.names.lookup x with
    | none => rw [e] at hx; simp at hx
    | some k =>
      have hm := PySem.mem_of_lookup e
      have hkf : k = .free := by
        rw [e] at hx
        simp only [Option.map_some, Option.some.injEq] at hx
        by_cases q : k = .free
        · exact q
        · have hb : (k == NameKind.free) = false := by simpa using q
          rw [hb] at hx
          simp only [Bool.false_and, Bool.false_eq_true, if_false] at hx
          rcases hx with z | z
          · exact absurd z (k2 _ hm)
          · exact z
      subst hkf
      exact Option.isSome_iff_exists.mp (clOf_has scope.names [] hfr x hm)
  have cfr : ∀ x c, X.env.cells.lookup x = some c → c ≠ C := fun x c e z => by
    obtain ⟨v, q⟩ := I.cell x c e
    exact absurd (z ▸ q.lt) (by rw [hC]; exact Nat.lt_irrefl _)
  have base0 : ∀ b o, X.base.get? b = some o → b ∉ fp := fun b o e hb => by
    obtain ⟨_, _, _, q, _⟩ := f3 b hb
    rcases q with q | q
    · exact I.ok.noex b o e q
    · exact absurd (Nat.lt_of_lt_of_le (Heap.lt_size (I.ok.bs b o e).1) q) (Nat.lt_irrefl _)
  have stk : ∀ b ∈ fp, b ∉ frs X.stack := fun b hb z => by
    obtain ⟨_, q1, q2, _⟩ := f3 b hb
    rcases List.mem_cons.mp (I.stkSub b z) with e | e
    · exact q1 e
    · exact q2 e
  refine ⟨⟨I.ok.mod, k1, I.ok.glob, I.ok.blt, by rw [hC]; exact Nat.le_refl _, fun x y c e1 e2 => I.ok.inj x y c (hcl x c e1) (hcl y c e2), hasc, (fun x c z _ => nomatch z), I.ok.hd, I.ok.frames, .inl rfl,
      fun b hb => ⟨fun z => absurd (ofp b hb) (by rw [show b = C from z, hC]; exact Nat.lt_irrefl _), fun x c e => (f3 b hb).2.2.2.2.1 x c (hcl x c e)⟩,
      fun b o e => I.bs b o e, Nat.le_trans I.ok.bsz I.sz, base0, stk, I.stack, I.stkFree⟩,
    rfl, I.bare, Un.kept hk, ⟨m0, hn, fun i x v e1 e2 e3 => ?_⟩, fun x c e => ?_, I.hok.fresh (by rw [show (compCx X (tgs ++ frees) scope C s3 H3 fp).env.locals = C from rfl, hC]; exact Nat.le_refl _), fun x c e => I.freeC x c (hcl x c e),
    fun p hp => absurd (show p ∈ ([] : List (Addr × Obj)) from hp) (by simp), I.hok.kept hk, ?_⟩
  · -- a name's value
    have hi : tgs.length ≤ i := by
      refine Nat.le_of_not_lt fun hlt => ?_
      have e2 : (upC tgs.length js σ)[i]? = some (some v) := e2
      unfold upC at e2
      rw [List.getElem?_append_left (by simpa using hlt), List.getElem?_replicate] at e2
      split at e2 <;> cases e2
    have e2 : (upC tgs.length js σ)[i]? = some (some v) := e2
    unfold upC at e2
    rw [List.getElem?_append_right (by simpa using hi), List.length_replicate, List.getElem?_map] at e2
    have e1 : (tgs ++ frees)[i]? = some x := e1
    rw [List.getElem?_append_right hi] at e1
    obtain ⟨j, ej, e2⟩ := Option.map_eq_some_iff.mp e2
    have hj : X.N[j]? = some x := by
      have q := congrArg (fun l => l[i - tgs.length]?) k7
      simp only [List.getElem?_map, ej, e1, Option.map_some] at q
      exact Option.some.inj q
    have hσ : σ[j]? = some (some v) := by
      cases q : σ[j]? with
      | none => rw [q] at e2; cases e2
      | some o => rw [q] at e2; exact congrArg some e2
    have hf : scope.names.lookup x = some .free := k6 x (List.mem_of_getElem? e1)
    have hX : X.env.kindOf x = some .cell ∨ X.env.kindOf x = some .free := by
      show X.env.scope.names.lookup x = _ ∨ X.env.scope.names.lookup x = _
      rw [hsc]; exact k3 _ (PySem.mem_of_lookup hf) rfl
    obtain ⟨m, _, hl⟩ := I.loc
    obtain ⟨u, r, l⟩ := hl j x v hj hσ (by
      rcases hX with q | q
      · exact .inr (.inl q)
      · exact .inr (.inr q))
    refine ⟨u, r, .inr ⟨?_, ?_⟩⟩
    · show (relabel scope X.env).names.lookup x = _ ∨ (relabel scope X.env).names.lookup x = _
      rw [rl x, hf]
      by_cases q : (NameKind.free == NameKind.free && X.env.scope.kind == .function && X.env.kindOf x == some .cell) = true
      · exact .inl (by rw [Option.map_some, if_pos q])
      · exact .inr (by rw [Option.map_some, if_neg q])
    · rcases l with ⟨q, _⟩ | ⟨_, c, ec, hcell⟩
      · rcases hX with z | z <;> (rw [z] at q; cases q)
      · obtain ⟨c', ec'⟩ := Option.isSome_iff_exists.mp (clOf_has scope.names [] hfr x (PySem.mem_of_lookup hf))
        have e : c' = c := Option.some.inj ((hcl x c' ec').symm.trans ec)
        subst e
        obtain ⟨o, ho, hd⟩ := hcell
        exact ⟨c', ec', o, hk _ _ ho, hd⟩
  · obtain ⟨v, o, ho, hd⟩ := I.cell x c (hcl x c e)
    exact ⟨v, o, hk _ _ ho, hd⟩
  · show (upC tgs.length js σ).length = (tgs ++ frees).length
    have q := congrArg List.length k7
    rw [List.length_map, List.length_map] at q
    unfold upC
    rw [List.length_append, List.length_replicate, List.length_map, List.length_append, q]

theorem comp_block {J : It} {fp : List Addr} {it : Addr} {tn : Nat → Heap → Prop} {RR : Value → Addr → Result → Shared → Prop} {E : Value → Shared → Prop} {Q : VK}
    (I2 : Inv X pins σ H2 s2) (T : Turn X.prog X.w X.K tg J fp it tn) (st2 : tn 0 s2.heap) (f2 : ∀ b ∈ fp, FpOk X pins H2 b) (hc : X.calm = true)
    (hsc : X.env.scope = sc) (hok : compOk sc scope X.N tgs frees js = true)
    (hg : ∀ C s₀ H₀ fp, PG (compCx X (tgs ++ frees) scope C s₀ H₀ fp) tg g) (hi : ∀ C s₀ H₀ fp, PIfs (compCx X (tgs ++ frees) scope C s₀ H₀ fp) ifs tc) (he : ∀ C s₀ H₀ fp, PE (compCx X (tgs ++ frees) scope C s₀ H₀ fp) elt te)
    (hw : tBlk J tgs.length js g tc te σ H2 Q)
    (hRR : ∀ D C s' H' m, Inv X pins σ H' s' → Q (.ref D) H' → FpOk X pins H' C → s'.heap.Ns C m → RR (.ref D) C (.ok .next) s') :
    wpAny (model X.prog X.w) X.A (newList []) (fun acc s₃ => wpAny (model X.prog X.w) X.A (newFunctionEnv scope X.env.globals (clOf X.env scope.names []) [] X.env.qual none .none (some X.env)) (fun cenv s₄ =>
      codeAny (model X.prog X.w) X.A (.compStart (.ListComp elt [⟨tg, iter, ifs, 0⟩] scope pos) 0 (.ref it) acc { cenv with scope := relabel scope X.env }) (RR acc cenv.locals) s₄) E s₃) E s2 := by
  obtain ⟨k1, k2, k3, k4, k5, k6, k7⟩ := compOk_parts hok
  refine wpAny_newObj_type (wpAny_newFunctionEnv k2 (by intro y hy; simp at hy) (fun h4 hn4 hs4 => ?_) k1)
  dsimp only at hn4 hs4 ⊢
  generalize hh3 : s2.heap.push { cls := .type "list", dict := none, data := .seq ([] : List Value).toArray } = h3 at hn4 hs4 ⊢
  generalize hD : s2.heap.objs.size = D
  have hDn : H2 D = none := by rw [← hD]; exact I2.fresh
  have hsz3 : h3.objs.size = D + 1 := by rw [← hh3, Heap.size_push, hD]
  have keep23 : ∀ b o, s2.heap.get? b = some o → h3.get? b = some o := fun b o e => by rw [← hh3]; exact Heap.get?_push_of_some _ e
  have keep34 : ∀ b o, h3.get? b = some o → h4.get? b = some o := fun b o e => hs4.extBut b o (Nat.ne_of_lt (Heap.lt_size e)) (Heap.get?_push_of_some _ e)
  have I3 : Inv X pins σ (upd H2 D (.lst [])) { s2 with heap := h3 } := by
    have q := I2.lnew (its := []) (ys := []) (t' := s2.toks) .nil (Nat.zero_le _)
    rw [hD] at q
    rw [← hh3]
    exact q
  have nfp : ∀ b ∈ fp, b ≠ D := fun b hb z => by
    obtain ⟨o, e, _⟩ := T.obj 0 _ st2 b hb
    exact absurd (Heap.lt_size e) (by rw [z, hD]; exact Nat.lt_irrefl _)
  have f3 : ∀ b ∈ fp, FpOk X pins (upd H2 D (.lst [])) b := fun b hb => by
    obtain ⟨q0, q⟩ := f2 b hb
    exact ⟨by rw [upd_ne (nfp b hb)]; exact q0, q⟩
  have ofp : ∀ b ∈ fp, b < h3.objs.size := fun b hb => by
    obtain ⟨o, e, _⟩ := T.obj 0 _ st2 b hb
    exact Heap.lt_size (keep23 b o e)
  obtain ⟨W, ⟨n0, w0⟩, turn⟩ := hw D hDn
  have loop : ∀ s4 : Shared, s4 = { s2 with heap := h4, toks := s2.toks + ([] : List (Str × Value)).length } →
      codeAny (model X.prog X.w) X.A (.compLoop (.ListComp elt [⟨tg, iter, ifs, 0⟩] scope pos) 0 (.ref it) (.ref D) (compEnvC scope (clOf X.env scope.names []) h3.objs.size X.env)) (RR (.ref D) h3.objs.size) s4 := by
    rintro s4 rfl
    generalize hX' : compCx X (tgs ++ frees) scope h3.objs.size { s2 with heap := h3 } (upd H2 D (.lst [])) fp = X'
    have I4 : Inv X' [] (upC tgs.length js σ) (upd H2 D (.lst [])) { s2 with heap := h4, toks := s2.toks + ([] : List (Str × Value)).length } := by
      rw [← hX']
      exact comp_start (s3 := { s2 with heap := h3 }) I3 f3 ofp hsc hok rfl keep34 hn4
    have eP : X'.prog = X.prog := by rw [← hX']; rfl
    have eW : X'.w = X.w := by rw [← hX']; rfl
    have eK : X'.K = X.K := by rw [← hX']; rfl
    have eA : X'.A = X.A := by rw [← hX']; rfl
    have eC : X'.calm = true := by rw [← hX']; exact hc
    have T' : Turn X'.prog X'.w X'.K tg J fp it tn := by rw [eP, eW, eK]; exact T
    have eE : X'.env = compEnvC scope (clOf X.env scope.names []) h3.objs.size X.env := by rw [← hX']; rfl
    have eX : X'.xe = F0 := by rw [← hX']; rfl
    have stat : ∀ {H' : Hp}, (∀ b ∈ fp, H' b = none) → ∀ b ∈ fp, FpOk X' [] H' b := fun {H'} hn b hb => by
      obtain ⟨_, q1, q2, q3, q4, q5⟩ := f3 b hb
      rw [← hX']
      refine ⟨hn b hb, ?_, ?_, .inl hb, fun x c e => ?_, fun p hp => absurd (show p ∈ ([] : List (Addr × Obj)) from hp) (by simp)⟩
      · exact fun z => absurd (ofp b hb) (by rw [show b = h3.objs.size from z]; exact Nat.lt_irrefl _)
      · intro z
        rcases List.mem_cons.mp (I3.stkSub b z) with e | e
        · exact q1 e
        · exact q2 e
      · exact q4 x c (clOf_mem scope.names [] (fun _ _ z => nomatch z) x c e)
    have hgX : PG X' tg g := by rw [← hX']; exact hg _ _ _ _
    have hiX : PIfs X' ifs tc := by rw [← hX']; exact hi _ _ _ _
    have heX : PE X' elt te := by rw [← hX']; exact he _ _ _ _
    refine compLoop_turns (fun n s' => ∃ i σ' H', Inv X' [] σ' H' s' ∧ tn i s'.heap ∧ (∀ b ∈ fp, H' b = none) ∧ W i n σ' H') ?_ n0 ⟨0, _, _, I4, T.keep 0 _ _ st2 (fun b _ o e => keep34 b o (keep23 b o e)), fun b hb => (f3 b hb).1, w0⟩
    rintro n s5 ⟨i, σ5, H5, I5, st5, fr5, w5⟩
    rw [← eP, ← eW, ← eE, ← eA]
    rcases turn i n σ5 H5 w5 with ⟨stop, qn⟩ | ⟨go, step⟩
    · refine thn (T'.done X' rfl rfl rfl eC i [] s5 σ5 H5 F0 I5 (stat fr5) st5 stop) fun r s6 ⟨hr, I6⟩ => ?_
      subst hr
      have un : Un (frs X.stack) fp H2 H5 s2.heap s6.heap := by
        have u1 : Un (frs X.stack) fp H2 (upd H2 D (.lst [])) s2.heap h3 := Un.laid keep23 (Nat.le_of_eq hD) hDn
        have u2 := I6.base
        rw [← hX'] at u2
        exact u1.trans u2
      have hpx : HOk X.prog X.w H5 s6.heap := by have q := I6.hok; rw [eP, eW] at q; exact q
      have hos : s6.os = s2.os := by have q := I6.os; rw [← hX'] at q; exact q
      have IX : Inv X pins σ H5 s6 := I2.call' (ch := fp) hos un hpx I6.bare fun b hb => ⟨(f2 b hb).2.2.2.1, (f2 b hb).2.1, (f2 b hb).2.2.2.2.1, (f2 b hb).2.2.2.2.2⟩
      obtain ⟨m, hm, _⟩ := I6.loc
      have hloc : X'.env.locals = h3.objs.size := by rw [eE]; rfl
      rw [hloc] at hm
      have hle : s2.heap.objs.size ≤ h3.objs.size := by rw [hD, hsz3]; exact Nat.le_succ _
      refine hRR D h3.objs.size s6 H5 m IX qn (I2.fpOk hle ?_) hm
      have q := I6.free
      rw [hloc] at q
      exact q
    · refine thn (T'.item X' rfl rfl rfl eC i [] s5 σ5 H5 F0 I5 (stat fr5) st5 go) fun r s6 ⟨u, hr, h6⟩ => ?_
      subst hr
      refine thn h6 fun _ s7 ⟨x, H7, I7, r7, y7, st7, fr7⟩ => ?_
      have I7' := I7.pinned (stat fr7) (T.obj _ _ st7)
      have xe0 : X'.xe = F0 := eX
      have conv : ∀ {α : Type} {t : Sem α} {Q : α → Shared → Prop} {s : Shared}, wpAny (model X'.prog X'.w) X'.A t Q X'.xe s → wpAny (model X'.prog X'.w) X'.A t Q F0 s := fun h => by rw [xe0] at h; exact h
      refine thn (conv (hgX _ s7 σ5 H7 x u _ I7' r7 (step x H7 y7))) fun _ s8 ⟨σ8, H8, I8, q8⟩ => ?_
      refine thn (conv (hiX _ s8 σ8 H8 _ I8 q8)) fun ok s9 ⟨H9, I9, q9⟩ => ?_
      have again : ∀ {σz : St} {Hz : Hp} {sz : Shared} {k' : Nat}, Inv X' ([] ++ pinsAt fp s7.heap) σz Hz sz → k' < n → W (i + 1) k' σz Hz → ∃ m, m < n ∧ ∃ i σ' H', Inv X' [] σ' H' sz ∧ tn i sz.heap ∧ (∀ b ∈ fp, H' b = none) ∧ W i m σ' H' := fun {σz Hz sz k'} Iz hk wz => by
        refine ⟨k', hk, i + 1, σz, Hz, Iz.unpinned, T.keep _ _ _ st7 fun b hb o e => (Iz.pin (b, o) (List.mem_append_right _ (List.mem_append_right _ (mem_pinsAt hb e)))).1, fun b hb => ?_, wz⟩
        obtain ⟨o, e, d⟩ := T.obj _ _ st7 b hb
        exact (Iz.pin (b, o) (List.mem_append_right _ (List.mem_append_right _ (mem_pinsAt hb e)))).2.1
      cases ok with
      | false =>
        rw [if_neg (by decide)] at q9
        rw [if_neg (by decide)]
        obtain ⟨k', hk, wz⟩ := q9
        exact again I9 hk wz
      | true =>
        rw [if_pos rfl] at q9
        rw [if_pos rfl]
        refine thn (conv (heX _ s9 σ8 H9 _ I9 q9)) fun v s10 ⟨y, H10, I10, r10, ys, k', hys, hl, hk, wz⟩ => ?_
        refine thn (conv (mt_append (X := X') _ s10 σ8 H10 (.ref D) [y] (.ref D) [v] (fun z Hz => W (i + 1) k' σ8 Hz) I10 rfl (.cons r10 .nil) ⟨D, ys, y, rfl, rfl, hys, hl, wz⟩)) fun _ s11 ⟨_, H11, I11, _, q11⟩ => ?_
        exact again I11 hk q11
  rw [show s2.heap.objs.size = D from hD] at *
  exact codeAny_compStart_list (loop _ rfl) (T.self _ 0 _ _ _ (T.keep 0 _ _ st2 fun b _ o e => keep34 b o (keep23 b o e)) (loop _ rfl))

/-- [elt for tg in iter if ..] -/
def tComp (wi : TI) (m : Nat) (js : List Nat) (g : TG) (tc : TT) (te : TE) : TE := fun σ H Q => wi σ H fun J H1 => tBlk J m js g tc te σ H1 Q

theorem comp_hfree (ok : X.Ok) (hsc : X.env.scope = sc) (hok : compOk sc scope X.N tgs frees js = true) : closureFor scope X.env = pure (clOf X.env scope.names []) :=
  closure_eq fun p hp e => ok.has p.1 (by
    show X.env.scope.names.lookup p.1 = _ ∨ X.env.scope.names.lookup p.1 = _
    rw [hsc]; exact (compOk_parts hok).2.2.1 p hp e)

theorem pe_comp (sc : Scope) (tgs frees : List Str) (js : List Nat) {wi : TI} (hp : PI X tg iter wi) (hc : X.calm = true) (hsc : X.env.scope = sc) (hok : compOk sc scope X.N tgs frees js = true)
    (hg : ∀ C s₀ H₀ fp, PG (compCx X (tgs ++ frees) scope C s₀ H₀ fp) tg g) (hi : ∀ C s₀ H₀ fp, PIfs (compCx X (tgs ++ frees) scope C s₀ H₀ fp) ifs tc) (he : ∀ C s₀ H₀ fp, PE (compCx X (tgs ++ frees) scope C s₀ H₀ fp) elt te)
    (hs : ∀ x, foldedSetIterable iter X.env x = pure x := by intro _; rfl) :
    PE X (.ListComp elt [⟨tg, iter, ifs, 0⟩] scope pos) (tComp wi tgs.length js g tc te) := by
  intro pins s σ H Q I h
  obtain ⟨k1, k2, k3, k4, k5, k6, k7⟩ := compOk_parts hok
  rw [eval_ListComp]
  refine wpAny_comprehension_free (use := none) rfl hs (comp_hfree I.ok hsc hok) k1 k4 (thn (hp pins s σ H _ I h) fun v s1 h1 => thn h1 fun itv s2 h2 => ?_)
  obtain ⟨it, fp, tn, J, H2, e, I2, T, st2, f2, hw⟩ := h2
  subst e
  refine comp_block (RR := fun acc C => compPost (model X.prog X.w) X.A X.xe none (EP X pins σ Q) acc C) I2 T st2 f2 hc hsc hok hg hi he hw ?_
  intro D C s' H' m I' q fC hn
  refine ⟨m, hn, fun h' hs' => ⟨.ref D, H', ?_, rfl, q⟩⟩
  obtain ⟨c0, c1, c2, c3, c4, c5⟩ := fC
  exact I'.turned (t' := s'.toks) (fun b o hb e => hs'.extBut b o hb e) c0 c1 c3 c4 c5

/-- name = [elt for ..]: the store ahead of the block's end -/
theorem ps_setComp (sc : Scope) (tgs frees : List Str) (js : List Nat) {wi : TI} {i : Nat} {x : Str} {pos' spos : Pos} (hN : X.N.Nodup) (hx : X.N[i]? = some x) (hl : X.env.scope.names.lookup x = some .local)
    (hp : PI X tg iter wi) (hc : X.calm = true) (hsc : X.env.scope = sc) (hok : compOk sc scope X.N tgs frees js = true)
    (hg : ∀ C s₀ H₀ fp, PG (compCx X (tgs ++ frees) scope C s₀ H₀ fp) tg g) (hi : ∀ C s₀ H₀ fp, PIfs (compCx X (tgs ++ frees) scope C s₀ H₀ fp) ifs tc) (he : ∀ C s₀ H₀ fp, PE (compCx X (tgs ++ frees) scope C s₀ H₀ fp) elt te)
    (hsw : swapsWith (.ListComp elt [⟨tg, iter, ifs, 0⟩] scope pos) (some (.Name x pos')) spos.line X.env = pure true := by with_unfolding_all rfl) (hs : ∀ x, foldedSetIterable iter X.env x = pure x := by intro _; rfl) :
    PS X (.Assign [.Name x pos'] (.ListComp elt [⟨tg, iter, ifs, 0⟩] scope pos) spos) (tAsg (tComp wi tgs.length js g tc te) (gName i)) := by
  intro pins s σ H D I h
  obtain ⟨k1, k2, k3, k4, k5, k6, k7⟩ := compOk_parts hok
  rw [exec_Assign_Name_used _ _ _ _ hsw]
  refine wpAny_bind (wpAny_standAt (wpAny_bind ?_))
  show wpAny _ X.A (do let _ ← comprehension (.ListComp elt [⟨tg, iter, ifs, 0⟩] scope pos) scope X.env _ (newList []) false (eval iter X.env) (some (assign (.Name x pos') X.env))) _ _ s
  refine wpAny_bind (wpAny_mono (wpAny_comprehension_free (use := some (assign (.Name x pos') X.env)) (Q := fun _ s' => SP X pins D .next s') rfl hs (comp_hfree I.ok hsc hok) k1 k4
    (thn (hp pins s σ H _ I h) fun v s1 h1 => thn h1 fun itv s2 h2 => ?_)) (fun _ s' hq => wpAny_pure (wpAny_pure hq)) fun _ _ e => e)
  obtain ⟨it, fp, tn, J, H2, e, I2, T, st2, f2, hw⟩ := h2
  subst e
  refine comp_block (RR := fun acc C => compPost (model X.prog X.w) X.A X.xe (some (assign (.Name x pos') X.env)) (fun _ s' => SP X pins D .next s') acc C) I2 T st2 f2 hc hsc hok hg hi he hw ?_
  intro D' C s' H' m I' q fC hn
  obtain ⟨c0, c1, c2, c3, c4, c5⟩ := fC
  show wpAny _ X.A (assign (.Name x pos') X.env (.ref D')) _ _ _
  refine wpAny_assign_Name (store_ok2 (v := V.ref D') I' hN hx (.inl hl) rfl (fun s3 I3 hb => ?_) (.inr hl))
  obtain ⟨a, sb, ha⟩ := hb
  have hCa : C ≠ a := by
    rcases ha with z | z
    · rw [z]; exact c1
    · exact (c4 x a z).symm
  refine ⟨m, hn.sameBut sb hCa, fun h' hs' => ⟨_, H', I3.turned (t' := s3.toks) (fun b o hb e => hs'.extBut b o hb e) c0 c1 c3 c4 c5, q⟩⟩
end
end L2

/-! Data as trees over the hand layer: what an expression is worth, as a function of the frame's trees. -/
namespace L2
open PySem PySem.Spec PyProof.Rows

/-- a value as a tree -/
inductive D where
  | non | bl (b : Bool) | int (i : Int) | str (x : Str) | tup (ds : List D) | lst (ds : List D) | obj (c : Str) (ns : List Str) (ds : List D)
  /-- an exception of an own class -/
  | exc (c : Str) (ns : List Str) (ds : List D)
  deriving Inhabited

theorem Same.tup {K : PySem.W.Frag} {H H' : Hp} {a : Addr} {xs : List V} (e : Same H H') (h : SqT K H a xs) : SqT K H' a xs := by
  rcases h with (h | ⟨o, h⟩) | h
  · exact .inl (.inl (e _ _ h))
  · exact .inl (.inr ⟨o, e _ _ h⟩)
  · exact .inr h

/-- the text's class of that name -/
def ClsAt (K : PySem.W.Frag) (c : Str) (C : Addr) : Prop := PySem.W.nsIn K mainGlobals c = some (some (.ref C))
theorem ClsAt.one {K : PySem.W.Frag} {c : Str} {C C' : Addr} (h : ClsAt K c C) (h' : ClsAt K c C') : C' = C := by
  have := h.symm.trans h'
  cases this; rfl
/-- an exception's one object: of the class at C, its dict at od -/
def Xe (C a : Addr) (od : Option Addr) : Heap → Prop := fun h => ∃ fs, h.get? a = some { cls := .ref C, dict := od, data := .fields fs }
/-- an exception's dict -/
def Xd (dx : Addr) (fs : List (Str × V)) : Heap → Prop := fun h => ∃ mA, h.Ns1 dx mA ∧ ∀ f, RelO (fs.lookup f) (mA f)
def XD (G : Hp) : Option Addr → List (Str × V) → Prop
  | none, fs => fs = []
  | some dx, fs => G dx = some (.ext (Xd dx fs))
theorem XD.mono {G G' : Hp} (e : Same G G') : ∀ {od : Option Addr} {fs : List (Str × V)}, XD G od fs → XD G' od fs
  | none, _, h => h
  | some _, _, h => e _ _ h
mutual
def Rep (K : PySem.W.Frag) (G : Hp) : D → V → Prop
  | .non, v => v = .non
  | .bl b, v => v = .bl b
  | .int i, v => v = .int i
  | .str x, v => v = .str x
  | .tup ds, v => ∃ a vs, v = .ref a ∧ SqT K G a vs ∧ Reps K G ds vs
  | .lst ds, v => ∃ a vs, v = .ref a ∧ SqL K G a vs ∧ Reps K G ds vs
  | .obj c ns ds, v => ∃ C a dx vs, ClsAt K c C ∧ v = .ref a ∧ G a = some (.ins C dx (ns.zip vs)) ∧ ns.length = ds.length ∧ Reps K G ds vs
  | .exc c ns ds, v => ∃ C a od vs, ClsAt K c C ∧ v = .ref a ∧ G a = some (.ext (Xe C a od)) ∧ XD G od (ns.zip vs) ∧ ns.length = ds.length ∧ Reps K G ds vs
def Reps (K : PySem.W.Frag) (G : Hp) : List D → List V → Prop
  | [], vs => vs = []
  | d :: r, vs => ∃ v vr, vs = v :: vr ∧ Rep K G d v ∧ Reps K G r vr
end
section
variable {K : PySem.W.Frag} {G G' : Hp}
mutual
theorem Rep.mono (e : Same G G') : ∀ (d : D) (v : V), Rep K G d v → Rep K G' d v
  | .non, _, h => by unfold Rep at h ⊢; exact h
  | .bl _, _, h => by unfold Rep at h ⊢; exact h
  | .int _, _, h => by unfold Rep at h ⊢; exact h
  | .str _, _, h => by unfold Rep at h ⊢; exact h
  | .tup ds, _, h => by
    unfold Rep at h ⊢
    obtain ⟨a, vs, h1, h2, h3⟩ := h
    exact ⟨a, vs, h1, e.tup h2, Reps.mono e ds vs h3⟩
  | .lst ds, _, h => by
    unfold Rep at h ⊢
    obtain ⟨a, vs, h1, h2, h3⟩ := h
    exact ⟨a, vs, h1, e.seq h2, Reps.mono e ds vs h3⟩
  | .obj C ns ds, _, h => by
    unfold Rep at h ⊢
    obtain ⟨C, a, dx, vs, h0, h1, h2, h4, h3⟩ := h
    exact ⟨C, a, dx, vs, h0, h1, e _ _ h2, h4, Reps.mono e ds vs h3⟩
  | .exc C ns ds, _, h => by
    unfold Rep at h ⊢
    obtain ⟨C, a, od, vs, h0, h1, h2, h5, h4, h3⟩ := h
    exact ⟨C, a, od, vs, h0, h1, e _ _ h2, h5.mono e, h4, Reps.mono e ds vs h3⟩
theorem Reps.mono (e : Same G G') : ∀ (ds : List D) (vs : List V), Reps K G ds vs → Reps K G' ds vs
  | [], _, h => by unfold Reps at h ⊢; exact h
  | d :: r, _, h => by
    unfold Reps at h ⊢
    obtain ⟨v, vr, h1, h2, h3⟩ := h
    exact ⟨v, vr, h1, Rep.mono e d v h2, Reps.mono e r vr h3⟩
end
theorem rep_non {v : V} : Rep K G .non v ↔ v = .non := by unfold Rep; exact Iff.rfl
theorem rep_bl {b : Bool} {v : V} : Rep K G (.bl b) v ↔ v = .bl b := by unfold Rep; exact Iff.rfl
theorem rep_int {i : Int} {v : V} : Rep K G (.int i) v ↔ v = .int i := by unfold Rep; exact Iff.rfl
theorem rep_str {x : Str} {v : V} : Rep K G (.str x) v ↔ v = .str x := by unfold Rep; exact Iff.rfl
theorem rep_tup {ds : List D} {v : V} : Rep K G (.tup ds) v ↔ ∃ a vs, v = .ref a ∧ SqT K G a vs ∧ Reps K G ds vs := by
  constructor <;> (intro h; unfold Rep at *; exact h)
theorem rep_lst {ds : List D} {v : V} : Rep K G (.lst ds) v ↔ ∃ a vs, v = .ref a ∧ SqL K G a vs ∧ Reps K G ds vs := by
  constructor <;> (intro h; unfold Rep at *; exact h)
theorem rep_obj {c : Str} {ns : List Str} {ds : List D} {v : V} : Rep K G (.obj c ns ds) v ↔ ∃ C a dx vs, ClsAt K c C ∧ v = .ref a ∧ G a = some (.ins C dx (ns.zip vs)) ∧ ns.length = ds.length ∧ Reps K G ds vs := by
  constructor <;> (intro h; unfold Rep at *; exact h)
theorem rep_exc {c : Str} {ns : List Str} {ds : List D} {v : V} : Rep K G (.exc c ns ds) v ↔ ∃ C a od vs, ClsAt K c C ∧ v = .ref a ∧ G a = some (.ext (Xe C a od)) ∧ XD G od (ns.zip vs) ∧ ns.length = ds.length ∧ Reps K G ds vs := by
  constructor <;> (intro h; unfold Rep at *; exact h)
theorem reps_nil {vs : List V} : Reps K G [] vs ↔ vs = [] := by unfold Reps; exact Iff.rfl
theorem reps_cons {d : D} {r : List D} {vs : List V} : Reps K G (d :: r) vs ↔ ∃ v vr, vs = v :: vr ∧ Rep K G d v ∧ Reps K G r vr := by
  rw [Reps]
theorem Reps.length : ∀ {ds : List D} {vs : List V}, Reps K G ds vs → ds.length = vs.length
  | [], _, h => by rw [reps_nil] at h; rw [h]; rfl
  | d :: r, _, h => by
    rw [reps_cons] at h
    obtain ⟨v, vr, rfl, _, h3⟩ := h
    rw [List.length_cons, List.length_cons, Reps.length h3]
theorem Reps.get : ∀ {ds : List D} {vs : List V} {i : Nat} {d : D}, Reps K G ds vs → ds[i]? = some d → ∃ v, vs[i]? = some v ∧ Rep K G d v
  | [], _, _, _, _, e => by simp at e
  | d :: r, _, 0, _, h, e => by
    rw [reps_cons] at h
    obtain ⟨v, vr, rfl, h2, h3⟩ := h
    simp at e; subst e
    exact ⟨v, rfl, h2⟩
  | d :: r, _, i + 1, _, h, e => by
    rw [reps_cons] at h
    obtain ⟨v, vr, rfl, h2, h3⟩ := h
    obtain ⟨u, e1, e2⟩ := Reps.get h3 (by simpa using e)
    exact ⟨u, by simpa using e1, e2⟩
theorem Reps.getV {ds : List D} {vs : List V} {i : Nat} {v : V} (h : Reps K G ds vs) (e : vs[i]? = some v) : ∃ d, ds[i]? = some d ∧ Rep K G d v := by
  have hi : i < ds.length := by rw [h.length]; exact (List.getElem?_eq_some_iff.mp e).1
  obtain ⟨v', e1, r⟩ := h.get (List.getElem?_eq_getElem hi)
  rw [e] at e1; cases e1
  exact ⟨_, List.getElem?_eq_getElem hi, r⟩
theorem Reps.snoc : ∀ {ds : List D} {vs : List V} {d : D} {v : V}, Reps K G ds vs → Rep K G d v → Reps K G (ds ++ [d]) (vs ++ [v])
  | [], _, d, v, h, r => by
    rw [reps_nil] at h; subst h
    exact reps_cons.mpr ⟨v, [], rfl, r, reps_nil.mpr rfl⟩
  | e :: t, _, d, v, h, r => by
    rw [reps_cons] at h
    obtain ⟨u, vr, rfl, h2, h3⟩ := h
    exact reps_cons.mpr ⟨u, vr ++ [v], rfl, h2, h3.snoc r⟩
theorem Reps.append : ∀ {ds es : List D} {vs us : List V}, Reps K G ds vs → Reps K G es us → Reps K G (ds ++ es) (vs ++ us)
  | [], _, _, _, h, r => by rw [reps_nil] at h; subst h; exact r
  | e :: t, _, _, us, h, r => by
    rw [reps_cons] at h
    obtain ⟨u, vr, rfl, h2, h3⟩ := h
    exact reps_cons.mpr ⟨u, vr ++ us, rfl, h2, h3.append r⟩
theorem Reps.take : ∀ {ds : List D} {vs : List V} (n : Nat), Reps K G ds vs → Reps K G (ds.take n) (vs.take n)
  | _, _, 0, _ => by rw [List.take_zero, List.take_zero]; exact reps_nil.mpr rfl
  | [], _, _ + 1, h => by rw [reps_nil] at h; subst h; exact reps_nil.mpr rfl
  | e :: t, _, n + 1, h => by
    rw [reps_cons] at h
    obtain ⟨u, vr, rfl, h2, h3⟩ := h
    exact reps_cons.mpr ⟨u, vr.take n, rfl, h2, h3.take n⟩
theorem Reps.drop : ∀ {ds : List D} {vs : List V} (n : Nat), Reps K G ds vs → Reps K G (ds.drop n) (vs.drop n)
  | _, _, 0, h => h
  | [], _, _ + 1, h => by rw [reps_nil] at h; subst h; exact reps_nil.mpr rfl
  | e :: t, _, n + 1, h => by
    rw [reps_cons] at h
    obtain ⟨u, vr, rfl, h2, h3⟩ := h
    exact h3.drop n
theorem Reps.set : ∀ {ds : List D} {vs : List V} {d : D} {v : V} (i : Nat), Reps K G ds vs → Rep K G d v → Reps K G (ds.set i d) (vs.set i v)
  | [], _, _, _, _, h, _ => by rw [reps_nil] at h; subst h; exact reps_nil.mpr rfl
  | e :: t, _, d, v, 0, h, r => by
    rw [reps_cons] at h
    obtain ⟨u, vr, rfl, h2, h3⟩ := h
    exact reps_cons.mpr ⟨v, vr, rfl, r, h3⟩
  | e :: t, _, d, v, i + 1, h, r => by
    rw [reps_cons] at h
    obtain ⟨u, vr, rfl, h2, h3⟩ := h
    exact reps_cons.mpr ⟨u, vr.set i v, rfl, h2, h3.set i r⟩
theorem Reps.erase : ∀ {ds : List D} {vs : List V} (i : Nat), Reps K G ds vs → Reps K G (ds.eraseIdx i) (vs.eraseIdx i)
  | [], _, _, h => by rw [reps_nil] at h; subst h; exact reps_nil.mpr rfl
  | e :: t, _, 0, h => by
    rw [reps_cons] at h
    obtain ⟨u, vr, rfl, h2, h3⟩ := h
    exact h3
  | e :: t, _, i + 1, h => by
    rw [reps_cons] at h
    obtain ⟨u, vr, rfl, h2, h3⟩ := h
    exact reps_cons.mpr ⟨u, vr.eraseIdx i, rfl, h2, h3.erase i⟩
end

/-- what a step leaves: G the frozen part of the abstract heap H -/
structure Step (G H G' H' : Hp) : Prop where
  hh : Same H H'
  gg : Same G G'
  sub : Same G' H'
  new : ∀ a, H a ≠ none → G' a = G a
theorem Step.refl {G H : Hp} (h : Same G H) : Step G H G H := ⟨Same.refl _, Same.refl _, h, fun _ _ => rfl⟩
theorem Step.trans {G H G1 H1 G2 H2 : Hp} (a : Step G H G1 H1) (b : Step G1 H1 G2 H2) : Step G H G2 H2 :=
  ⟨a.hh.trans b.hh, a.gg.trans b.gg, b.sub, fun c hc => (b.new c (fun z => hc (a.hh.free z))).trans (a.new c hc)⟩
theorem Same.new {H : Hp} {p : Addr} {o : HO} (hp : H p = none) : Same H (upd H p o) := fun b u e => by rw [upd_ne (ne_of_none e hp)]; exact e
/-- a new thing, frozen -/
theorem Step.laid {G H : Hp} {p : Addr} {o : HO} (s : Same G H) (hp : H p = none) : Step G H (upd G p o) (upd H p o) := by
  refine ⟨Same.new hp, Same.new (s.free hp), fun b u e => ?_, fun a ha => ?_⟩
  · by_cases hb : b = p
    · subst hb; rw [upd_same] at e ⊢; exact e
    · rw [upd_ne hb] at e ⊢; exact s b u e
  · exact upd_ne (fun z : a = p => ha (by rw [z]; exact hp))
/-- a new thing, one's own -/
theorem Step.own {G H : Hp} {p : Addr} {o : HO} (s : Same G H) (hp : H p = none) : Step G H G (upd H p o) :=
  ⟨Same.new hp, Same.refl _, s.trans (Same.new hp), fun _ _ => rfl⟩
/-- one's own thing, frozen -/
theorem Step.frz {G H G' H' : Hp} {p : Addr} {o : HO} (s : Step G H G' H') (hp : H p = none) (h' : H' p = some o) (g' : G' p = none) : Step G H (upd G' p o) H' := by
  refine ⟨s.hh, s.gg.trans (Same.new g'), fun b u e => ?_, fun a ha => ?_⟩
  · by_cases hb : b = p
    · subst hb; rw [upd_same] at e; rw [h']; exact e
    · rw [upd_ne hb] at e; exact s.sub b u e
  · rw [upd_ne (fun z : a = p => ha (by rw [z]; exact hp))]; exact s.new a ha

/-- a name of the frame: nothing known; a tree; a list of its own -/
inductive B where
  | no | fz (d : D) | ow (ds : List D)
  deriving Inhabited
inductive RB (K : PySem.W.Frag) (H0 G H : Hp) : Option V → B → Prop where
  | no {o : Option V} : RB K H0 G H o .no
  | fz {v : V} {d : D} : Rep K G d v → RB K H0 G H (some v) (.fz d)
  | ow {a : Addr} {vs : List V} {ds : List D} : H a = some (.lst vs) → G a = none → H0 a = none → Reps K G ds vs → RB K H0 G H (some (.ref a)) (.ow ds)
structure Good (K : PySem.W.Frag) (G0 H0 G H : Hp) (σ : St) (ρ : List B) : Prop where
  st : Step G0 H0 G H
  vals : Paired (RB K H0 G H) σ ρ
  apart : ∀ (i j : Nat) (a : Addr) (ds es : List D), ρ[i]? = some (.ow ds) → ρ[j]? = some (.ow es) → σ[i]? = some (some (.ref a)) → σ[j]? = some (some (.ref a)) → i = j
theorem Paired.get {α β : Type} {F : α → β → Prop} : ∀ {l : List α} {r : List β} {i : Nat} {b : β}, Paired F l r → r[i]? = some b → ∃ a, l[i]? = some a ∧ F a b
  | _, _, _, _, .nil, e => by simp at e
  | _, _, 0, _, .cons h _, e => by simp at e; subst e; exact ⟨_, rfl, h⟩
  | _, _, i + 1, b, .cons _ t, e => by
    obtain ⟨a, h1, h2⟩ := Paired.get (i := i) (b := b) t (by simpa using e)
    exact ⟨a, by simpa using h1, h2⟩
theorem Paired.set {α β : Type} {F : α → β → Prop} {a : α} {b : β} (h : F a b) : ∀ {l : List α} {r : List β} (i : Nat), Paired F l r → Paired F (l.set i a) (r.set i b)
  | _, _, _, .nil => .nil
  | _, _, 0, .cons _ t => .cons h t
  | _, _, i + 1, .cons q t => .cons q (Paired.set h i t)
theorem RB.step {K : PySem.W.Frag} {H0 G H G' H' : Hp} {o : Option V} {b : B} (r : RB K H0 G H o b) (s : Step G H G' H') : RB K H0 G' H' o b := by
  cases r with
  | no => exact .no
  | fz q => exact .fz (q.mono s.gg)
  | ow h1 h2 h3 h4 => exact .ow (s.hh _ _ h1) ((s.new _ (by rw [h1]; exact fun z => nomatch z)).trans h2) h3 (h4.mono s.gg)
theorem Good.step {K : PySem.W.Frag} {G0 H0 G H G' H' : Hp} {σ : St} {ρ : List B} (g : Good K G0 H0 G H σ ρ) (s : Step G H G' H') : Good K G0 H0 G' H' σ ρ :=
  ⟨g.st.trans s, Paired.mapP g.vals fun _ _ r => r.step s, g.apart⟩
theorem Good.sub {K : PySem.W.Frag} {G0 H0 G H : Hp} {σ : St} {ρ : List B} (g : Good K G0 H0 G H σ ρ) : Same G H := g.st.sub

/-! ### what an expression is worth -/
abbrev Ef := List B → Option D
def tF (K : PySem.W.Frag) (f : Ef) : TE := fun σ H Q => ∃ G0 H0 G ρ d, Good K G0 H0 G H σ ρ ∧ f ρ = some d ∧ ∀ v H' G', Step G H G' H' → Rep K G' d v → Q v H'
def PF (X : Cx) (e : Expr) (f : Ef) : Prop := PE X e (tF X.K f)
theorem PE.to {X : Cx} {e : Expr} {t : TE} {f : Ef} (h : PE X e t) (imp : ∀ σ H Q, tF X.K f σ H Q → t σ H Q) : PF X e f := fun pins s σ H Q I q => h pins s σ H Q I (imp σ H Q q)
/-- a new list -/
abbrev Lf := List B → Option (List D)
def tFr (K : PySem.W.Frag) (f : Lf) : TE := fun σ H Q => ∃ G0 H0 G ρ ds, Good K G0 H0 G H σ ρ ∧ f ρ = some ds ∧ ∀ a vs H' G', Step G H G' H' → H a = none → H' a = some (.lst vs) → G' a = none → Reps K G' ds vs → Q (.ref a) H'
def PFr (X : Cx) (e : Expr) (f : Lf) : Prop := PE X e (tFr X.K f)
theorem PE.toR {X : Cx} {e : Expr} {t : TE} {f : Lf} (h : PE X e t) (imp : ∀ σ H Q, tFr X.K f σ H Q → t σ H Q) : PFr X e f := fun pins s σ H Q I q => h pins s σ H Q I (imp σ H Q q)
def eL (f : Lf) : Ef := fun ρ => (f ρ).map .lst
theorem pf_l {X : Cx} {e : Expr} {f : Lf} (h : PFr X e f) : PF X e (eL f) := by
  refine PE.to h ?_
  rintro σ H Q ⟨G0, H0, G, ρ, d, good, hf, k⟩
  unfold eL at hf
  obtain ⟨ds, h1, rfl⟩ := Option.map_eq_some_iff.mp hf
  refine ⟨G0, H0, G, ρ, ds, good, h1, fun a vs H' G' s hn ha ga rs => ?_⟩
  exact k _ _ (upd G' a (.lst vs)) (s.frz hn ha ga) (rep_lst.mpr ⟨a, vs, rfl, .of upd_same, rs.mono (Same.new ga)⟩)
/-- a test -/
abbrev Tf := List B → Option Bool
def tFT (K : PySem.W.Frag) (f : Tf) : TT := fun σ H Q => ∃ G0 H0 G ρ b, Good K G0 H0 G H σ ρ ∧ f ρ = some b ∧ ∀ H' G', Step G H G' H' → Q b H'
def PFT (X : Cx) (e : Expr) (f : Tf) : Prop := PT X e (tFT X.K f)
theorem PT.to {X : Cx} {e : Expr} {t : TT} {f : Tf} (h : PT X e t) (imp : ∀ σ H Q, tFT X.K f σ H Q → t σ H Q) : PFT X e f := fun pins s σ H Q I q => h pins s σ H Q I (imp σ H Q q)
def PFW (X : Cx) (e : Expr) (f : Tf) : Prop := PW X e (tFT X.K f)
/-- argument lists -/
def tFA (K : PySem.W.Frag) (f : Lf) : TA := fun σ H Q => ∃ G0 H0 G ρ ds, Good K G0 H0 G H σ ρ ∧ f ρ = some ds ∧ ∀ vs H' G', Step G H G' H' → Reps K G' ds vs → Q vs H'
def PFA (X : Cx) (es : List Expr) (f : Lf) : Prop := PA X es (tFA X.K f)
theorem PA.to {X : Cx} {es : List Expr} {t : TA} {f : Lf} (h : PA X es t) (imp : ∀ σ H Q, tFA X.K f σ H Q → t σ H Q) : PFA X es f := fun pos pins s σ H Q I q => h pos pins s σ H Q I (imp σ H Q q)

section
variable {X : Cx} {a b c e : Expr} {es : List Expr} {fa fb fc : Ef} {ga gb : Lf} {ta tb : Tf} {pos : Pos}
/-! names and constants -/
def getB (ρ : List B) (i : Nat) : Option D := match ρ[i]? with | some (.fz d) => some d | _ => none
def eV (i : Nat) : Ef := fun ρ => getB ρ i
theorem getB_good {K : PySem.W.Frag} {G0 H0 G H : Hp} {σ : St} {ρ : List B} {i : Nat} {d : D} (g : Good K G0 H0 G H σ ρ) (h : getB ρ i = some d) : ∃ v, σ[i]? = some (some v) ∧ Rep K G d v := by
  unfold getB at h
  split at h
  · rename_i d' e
    cases h
    obtain ⟨o, h1, r⟩ := Paired.get g.vals e
    cases r with
    | fz r => exact ⟨_, h1, r⟩
  · cases h
theorem pf_v (i : Nat) {x : Str} (hN : X.N[i]? = some x := by rfl) (hv : Vis X.env.scope x := by first | exact Or.inl rfl | exact Or.inr (Or.inl rfl) | exact Or.inr (Or.inr rfl)) (hd : (x == ("__debug__" : Str)) = false := by decide) (hcd : (x == ("__classdict__" : Str)) = false := by decide) : PF X (.Name x pos) (eV i) := by
  refine PE.to (pe_var hN hv hd hcd) ?_
  rintro σ H Q ⟨G0, H0, G, ρ, d, good, hf, k⟩
  obtain ⟨v, h1, r⟩ := getB_good good hf
  exact ⟨v, h1, k v H G (.refl good.sub) r⟩
def eC (d : D) : Ef := fun _ => some d
theorem pf_cst {v : V} {d : D} (h : PE X e (tC v)) (r : ∀ G, Rep X.K G d v) : PF X e (eC d) := by
  refine PE.to h ?_
  rintro σ H Q ⟨G0, H0, G, ρ, d', good, hf, k⟩
  cases hf
  exact k v H G (.refl good.sub) (r G)
theorem pf_int {i : Int} {j : Nat} : PF X (.Constant (.int i) j pos) (eC (.int i)) := pf_cst pe_int fun _ => rep_int.mpr rfl
theorem pf_bl {i : Bool} {j : Nat} : PF X (.Constant (.bool i) j pos) (eC (.bl i)) := pf_cst pe_bl fun _ => rep_bl.mpr rfl
theorem pf_non {j : Nat} : PF X (.Constant .none j pos) (eC .non) := pf_cst pe_non fun _ => rep_non.mpr rfl
theorem pf_str {x : Str} {j : Nat} : PF X (.Constant (.str x) j pos) (eC (.str x)) := pf_cst pe_str fun _ => rep_str.mpr rfl
theorem pf_gstr {x y : Str} {t : Tok} (hg : Gl X x) (hm : X.mg x = some (.str y t)) (hd : (x == ("__debug__" : Str)) = false := by decide) : PF X (.Name x pos) (eC (.str y)) := pf_cst (pe_glob (v := .str y) hg hm ⟨t, rfl⟩ hd) fun _ => rep_str.mpr rfl
theorem pf_gint {x : Str} {i : Int} {t : Tok} (hg : Gl X x) (hm : X.mg x = some (.int i t)) (hd : (x == ("__debug__" : Str)) = false := by decide) : PF X (.Name x pos) (eC (.int i)) := pf_cst (pe_glob (v := .int i) hg hm ⟨t, rfl⟩ hd) fun _ => rep_int.mpr rfl

/-! ints -/
def eI (C : Int → Int → Bool) (g : Int → Int → Int) (fa fb : Ef) : Ef := fun ρ => (fa ρ).bind fun x => (fb ρ).bind fun y => match x, y with | .int i, .int j => if C i j then some (.int (g i j)) else none | _, _ => none
theorem eI_inv {C : Int → Int → Bool} {g : Int → Int → Int} {ρ : List B} {d : D} (h : eI C g fa fb ρ = some d) : ∃ i j, fa ρ = some (.int i) ∧ fb ρ = some (.int j) ∧ C i j = true ∧ d = .int (g i j) := by
  unfold eI at h
  obtain ⟨x, h1, h⟩ := Option.bind_eq_some_iff.mp h
  obtain ⟨y, h2, h⟩ := Option.bind_eq_some_iff.mp h
  cases x with
  | int i =>
    cases y with
    | int j =>
      dsimp only at h
      split at h
      · rename_i hc; cases h; exact ⟨i, j, h1, h2, hc, rfl⟩
      · cases h
    | _ => cases h
  | _ => cases h
theorem pf_i {op : Operator} {C : Int → Int → Bool} {P : Int → Int → Prop} {g : Int → Int → Int} (ho : OpR X (binaryOp op) (rI P fun i j => .int (g i j))) (hP : ∀ i j, C i j = true → P i j) (ha : PF X a fa) (hb : PF X b fb) : PF X (.BinOp a op b pos) (eI C g fa fb) := by
  refine PE.to (pe_op ho ha hb) ?_
  rintro σ H Q ⟨G0, H0, G, ρ, d, good, hf, k⟩
  obtain ⟨i, j, h1, h2, hc, rfl⟩ := eI_inv hf
  refine ⟨G0, H0, G, ρ, _, good, h1, fun x H1 G1 s1 r1 => ⟨G0, H0, G1, ρ, _, good.step s1, h2, fun y H2 G2 s2 r2 => ?_⟩⟩
  exact ⟨i, j, rep_int.mp r1, rep_int.mp r2, hP i j hc, k _ _ G2 (s1.trans s2) (rep_int.mpr rfl)⟩
theorem pf_i0 {op : Operator} {g : Int → Int → Int} (ho : OpR X (binaryOp op) (rI0 fun i j => .int (g i j))) (ha : PF X a fa) (hb : PF X b fb) : PF X (.BinOp a op b pos) (eI (fun _ _ => true) g fa fb) := by
  refine PE.to (pe_op ho ha hb) ?_
  rintro σ H Q ⟨G0, H0, G, ρ, d, good, hf, k⟩
  obtain ⟨i, j, h1, h2, hc, rfl⟩ := eI_inv hf
  refine ⟨G0, H0, G, ρ, _, good, h1, fun x H1 G1 s1 r1 => ⟨G0, H0, G1, ρ, _, good.step s1, h2, fun y H2 G2 s2 r2 => ?_⟩⟩
  exact ⟨i, j, rep_int.mp r1, rep_int.mp r2, k _ _ G2 (s1.trans s2) (rep_int.mpr rfl)⟩
abbrev eAdd := eI (fun _ _ => true) (fun i j => i + j)
abbrev eSub := eI (fun _ _ => true) (fun i j => i - j)
def cMul (i j : Int) : Bool := (decide (-(2 ^ 64) < i) && decide (i < 2 ^ 64)) || (decide (-(2 ^ 64) < j) && decide (j < 2 ^ 64))
abbrev eMul := eI cMul (fun i j => i * j)
def cDiv (_ j : Int) : Bool := decide (0 < j) && decide (j < 1073741824)
abbrev eDiv := eI cDiv (fun i j => i / j)
abbrev eMod := eI (fun _ j => decide (0 < j)) (fun i j => i % j)
def cPow (i j : Int) : Bool := decide (0 ≤ j) && decide (j ≤ 1000000) && decide (i.natAbs < 2 ^ 64)
abbrev ePow := eI cPow (fun i j => i ^ j.toNat)
abbrev eShl := eI cPow (fun i j => i * 2 ^ j.toNat)
abbrev eShr := eI (fun _ j => decide (0 ≤ j)) (fun i j => i / 2 ^ j.toNat)
abbrev eAnd := eI (fun _ _ => true) (fun i j => Builtin.bitAnd i j)
abbrev eXor := eI (fun _ _ => true) (fun i j => Builtin.bitXor i j)
theorem pf_add (ha : PF X a fa) (hb : PF X b fb) : PF X (.BinOp a .Add b pos) (eAdd fa fb) := pf_i0 op_add ha hb
theorem pf_sub (ha : PF X a fa) (hb : PF X b fb) : PF X (.BinOp a .Sub b pos) (eSub fa fb) := pf_i0 op_sub ha hb
theorem pf_mul (ha : PF X a fa) (hb : PF X b fb) : PF X (.BinOp a .Mult b pos) (eMul fa fb) := pf_i op_mul (fun i j h => by
  unfold cMul at h
  simp only [Bool.or_eq_true, Bool.and_eq_true, decide_eq_true_eq] at h
  exact h) ha hb
theorem pf_div (ha : PF X a fa) (hb : PF X b fb) : PF X (.BinOp a .FloorDiv b pos) (eDiv fa fb) := pf_i op_fdiv (fun i j h => by
  unfold cDiv at h
  simp only [Bool.and_eq_true, decide_eq_true_eq] at h
  exact h) ha hb
theorem pf_mod (ha : PF X a fa) (hb : PF X b fb) : PF X (.BinOp a .Mod b pos) (eMod fa fb) := pf_i op_mod (fun i j h => of_decide_eq_true h) ha hb
theorem cPow_ok {i j : Int} (h : cPow i j = true) : CPow i j := by
  unfold cPow at h
  simp only [Bool.and_eq_true, decide_eq_true_eq] at h
  exact ⟨h.1.1, h.1.2, h.2⟩
theorem pf_pow (ha : PF X a fa) (hb : PF X b fb) : PF X (.BinOp a .Pow b pos) (ePow fa fb) := pf_i op_pow (fun i j h => cPow_ok h) ha hb
theorem pf_shl (ha : PF X a fa) (hb : PF X b fb) : PF X (.BinOp a .LShift b pos) (eShl fa fb) := pf_i op_shl (fun i j h => cPow_ok h) ha hb
theorem pf_shr (ha : PF X a fa) (hb : PF X b fb) : PF X (.BinOp a .RShift b pos) (eShr fa fb) := pf_i op_shr (fun i j h => of_decide_eq_true h) ha hb
theorem pf_band (ha : PF X a fa) (hb : PF X b fb) : PF X (.BinOp a .BitAnd b pos) (eAnd fa fb) := pf_i0 op_and ha hb
theorem pf_xor (ha : PF X a fa) (hb : PF X b fb) : PF X (.BinOp a .BitXor b pos) (eXor fa fb) := pf_i0 op_xor ha hb
def eNeg (fa : Ef) : Ef := fun ρ => (fa ρ).bind fun x => match x with | .int i => some (.int (-i)) | _ => none
theorem pf_neg (ha : PF X a fa) : PF X (.UnaryOp .USub a pos) (eNeg fa) := by
  refine PE.to (pe_un un_neg ha) ?_
  rintro σ H Q ⟨G0, H0, G, ρ, d, good, hf, k⟩
  unfold eNeg at hf
  obtain ⟨x, h1, hf⟩ := Option.bind_eq_some_iff.mp hf
  split at hf
  · rename_i i
    cases hf
    exact ⟨G0, H0, G, ρ, _, good, h1, fun x H1 G1 s1 r1 => ⟨i, rep_int.mp r1, k _ _ G1 s1 (rep_int.mpr rfl)⟩⟩
  · cases hf
/-! comparisons of ints; == of scalars -/
def eB2 (g : D → D → Option Bool) (fa fb : Ef) : Tf := fun ρ => (fa ρ).bind fun x => (fb ρ).bind fun y => g x y
def eOfT (t : Tf) : Ef := fun ρ => (t ρ).map .bl
def gLt : D → D → Option Bool | .int i, .int j => some (decide (i < j)) | _, _ => none
def gLe : D → D → Option Bool | .int i, .int j => some (decide (i ≤ j)) | _, _ => none
def gGt : D → D → Option Bool | .int i, .int j => some (decide (j < i)) | _, _ => none
def gGe : D → D → Option Bool | .int i, .int j => some (decide (j ≤ i)) | _, _ => none
def gEq : D → D → Option Bool
  | .int i, .int j => some (decide (i = j))
  | .bl i, .bl j => some (decide (i = j))
  | .str i, .str j => some (decide (i = j))
  | _, _ => none
def gNe (x y : D) : Option Bool := (gEq x y).map (!·)
/-- a comparison by values -/
def CmR (X : Cx) (op : CmpOp) (g : D → D → Option Bool) : Prop := ∃ r : R2, OpR X (compareOp op) r ∧ ∀ (d d' : D) (k : Bool) (G H : Hp) (x y : V) (Q : VK), g d d' = some k → Same G H → Rep X.K G d x → Rep X.K G d' y → (∀ H' G', Step G H G' H' → Q (.bl k) H') → r x y H Q
theorem cm_int {op : CmpOp} {p : Int → Int → Bool} {g : D → D → Option Bool} (ho : OpR X (compareOp op) (rI0 fun i j => .bl (p i j))) (hg : ∀ d d' k, g d d' = some k → ∃ i j, d = .int i ∧ d' = .int j ∧ k = p i j) : CmR X op g := by
  refine ⟨_, ho, fun d d' k G H x y Q h s rx ry q => ?_⟩
  obtain ⟨i, j, rfl, rfl, rfl⟩ := hg d d' k h
  exact ⟨i, j, rep_int.mp rx, rep_int.mp ry, q H G (.refl s)⟩
theorem cm_lt : CmR X .Lt gLt := cm_int op_lt fun d d' k h => by unfold gLt at h; split at h <;> cases h; exact ⟨_, _, rfl, rfl, rfl⟩
theorem cm_le : CmR X .LtE gLe := cm_int op_le fun d d' k h => by unfold gLe at h; split at h <;> cases h; exact ⟨_, _, rfl, rfl, rfl⟩
theorem cm_gt : CmR X .Gt gGt := cm_int op_gt fun d d' k h => by unfold gGt at h; split at h <;> cases h; exact ⟨_, _, rfl, rfl, rfl⟩
theorem cm_ge : CmR X .GtE gGe := cm_int op_ge fun d d' k h => by unfold gGe at h; split at h <;> cases h; exact ⟨_, _, rfl, rfl, rfl⟩
theorem gEq_sc {d d' : D} {k : Bool} {K : PySem.W.Frag} {G : Hp} {x y : V} (h : gEq d d' = some k) (rx : Rep K G d x) (ry : Rep K G d' y) : scal x y = true ∧ decide (x = y) = k := by
  unfold gEq at h
  split at h
  · cases h; rw [rep_int] at rx ry; subst rx; subst ry; exact ⟨rfl, by simp⟩
  · cases h; rw [rep_bl] at rx ry; subst rx; subst ry; exact ⟨rfl, by simp⟩
  · cases h; rw [rep_str] at rx ry; subst rx; subst ry; exact ⟨rfl, by simp⟩
  · cases h
theorem cm_eq : CmR X .Eq gEq := ⟨_, op_eq, fun d d' k G H x y Q h s rx ry q => by
  obtain ⟨h1, h2⟩ := gEq_sc h rx ry
  exact ⟨h1, by rw [h2]; exact q H G (.refl s)⟩⟩
theorem cm_ne : CmR X .NotEq gNe := ⟨_, op_ne, fun d d' k G H x y Q h s rx ry q => by
  unfold gNe at h
  obtain ⟨k', h', rfl⟩ := Option.map_eq_some_iff.mp h
  obtain ⟨h1, h2⟩ := gEq_sc h' rx ry
  exact ⟨h1, by rw [h2]; exact q H G (.refl s)⟩⟩
theorem eB2_inv {g : D → D → Option Bool} {ρ : List B} {k : Bool} (h : eB2 g fa fb ρ = some k) : ∃ x y, fa ρ = some x ∧ fb ρ = some y ∧ g x y = some k := by
  unfold eB2 at h
  obtain ⟨x, h1, h⟩ := Option.bind_eq_some_iff.mp h
  obtain ⟨y, h2, h⟩ := Option.bind_eq_some_iff.mp h
  exact ⟨x, y, h1, h2, h⟩
theorem eOfT_inv {t : Tf} {ρ : List B} {d : D} (h : eOfT t ρ = some d) : ∃ k, t ρ = some k ∧ d = .bl k := by
  unfold eOfT at h
  obtain ⟨k, h1, rfl⟩ := Option.map_eq_some_iff.mp h
  exact ⟨k, h1, rfl⟩
theorem pf_cmp {op : CmpOp} {g : D → D → Option Bool} (hc : CmR X op g) (ha : PF X a fa) (hb : PF X b fb) (hm : behindInMarks op b = false := by first | exact nomark _ | (with_unfolding_all rfl)) : PF X (.Compare a [op] [b] pos) (eOfT (eB2 g fa fb)) := by
  obtain ⟨r, ho, hr⟩ := hc
  refine PE.to (pe_cmpR ho ha hb hm) ?_
  rintro σ H Q ⟨G0, H0, G, ρ, d, good, hf, k⟩
  obtain ⟨c, hf2, rfl⟩ := eOfT_inv hf
  obtain ⟨x, y, h1, h2, h3⟩ := eB2_inv hf2
  refine ⟨G0, H0, G, ρ, _, good, h1, fun u H1 G1 s1 r1 => ⟨G0, H0, G1, ρ, _, good.step s1, h2, fun v H2 G2 s2 r2 => ?_⟩⟩
  exact hr x y c G2 H2 u v Q h3 s2.sub (r1.mono s2.gg) r2 fun H' G' s3 => k _ _ G' ((s1.trans s2).trans s3) (rep_bl.mpr rfl)
theorem pt_cmpF {op : CmpOp} {g : D → D → Option Bool} (hc : CmR X op g) (ha : PF X a fa) (hb : PF X b fb) (hm : behindInMarks op b = false := by first | exact nomark _ | (with_unfolding_all rfl)) : PFT X (.Compare a [op] [b] pos) (eB2 g fa fb) := by
  obtain ⟨r, ho, hr⟩ := hc
  refine PT.to (pt_cmpR ho ha hb hm) ?_
  rintro σ H Q ⟨G0, H0, G, ρ, c, good, hf, k⟩
  obtain ⟨x, y, h1, h2, h3⟩ := eB2_inv hf
  refine ⟨G0, H0, G, ρ, _, good, h1, fun u H1 G1 s1 r1 => ⟨G0, H0, G1, ρ, _, good.step s1, h2, fun v H2 G2 s2 r2 => ?_⟩⟩
  exact hr x y c G2 H2 u v _ h3 s2.sub (r1.mono s2.gg) r2 fun H' G' s3 => ⟨c, rfl, k _ G' ((s1.trans s2).trans s3)⟩
/-! is None -/
def isNon : D → Bool | .non => true | _ => false
theorem rep_isNon {K : PySem.W.Frag} {G : Hp} {d : D} {v : V} (r : Rep K G d v) : decide (v = .non) = isNon d := by
  cases d with
  | non => rw [rep_non] at r; subst r; rfl
  | bl b => rw [rep_bl] at r; subst r; simp [isNon]
  | int b => rw [rep_int] at r; subst r; simp [isNon]
  | str b => rw [rep_str] at r; subst r; simp [isNon]
  | tup ds => obtain ⟨p, _, rfl, _⟩ := rep_tup.mp r; simp [isNon]
  | lst ds => obtain ⟨p, _, rfl, _⟩ := rep_lst.mp r; simp [isNon]
  | obj C ns ds => obtain ⟨_, p, _, _, _, rfl, _⟩ := rep_obj.mp r; simp [isNon]
  | exc C ns ds => obtain ⟨_, p, _, _, _, rfl, _⟩ := rep_exc.mp r; simp [isNon]
def gIs : D → D → Option Bool | d, .non => some (isNon d) | _, _ => none
def gIsNot : D → D → Option Bool | d, .non => some (!isNon d) | _, _ => none
theorem cm_is : CmR X .Is gIs := ⟨_, op_isN, fun d d' k G H x y Q h s rx ry q => by
  unfold gIs at h
  split at h
  · cases h
    refine ⟨rep_non.mp ry, ?_⟩
    rw [rep_isNon rx]; exact q H G (.refl s)
  · cases h⟩
theorem cm_isNot : CmR X .IsNot gIsNot := ⟨_, op_notN, fun d d' k G H x y Q h s rx ry q => by
  unfold gIsNot at h
  split at h
  · cases h
    refine ⟨rep_non.mp ry, ?_⟩
    rw [rep_isNon rx]; exact q H G (.refl s)
  · cases h⟩

/-! tests -/
def tB1 (f : Ef) : Tf := fun ρ => (f ρ).bind fun x => match x with | .bl k => some k | _ => none
theorem tB1_inv {f : Ef} {ρ : List B} {k : Bool} (h : tB1 f ρ = some k) : f ρ = some (.bl k) := by
  unfold tB1 at h
  obtain ⟨x, h1, h⟩ := Option.bind_eq_some_iff.mp h
  split at h
  · cases h; exact h1
  · cases h
theorem pt_valF (ha : PF X a fa) (he : ∀ whole, isTrue a X.env whole = (do let v ← whole; standAt a.pos; holding [v] (truthy v)) := by intro _; rfl) : PFT X a (tB1 fa) := by
  refine PT.to (pt_val ha he) ?_
  rintro σ H Q ⟨G0, H0, G, ρ, c, good, hf, k⟩
  exact ⟨G0, H0, G, ρ, _, good, tB1_inv hf, fun u H1 G1 s1 r1 => ⟨c, rep_bl.mp r1, k _ G1 s1⟩⟩
def tNotF (t : Tf) : Tf := fun ρ => (t ρ).map (!·)
def tAndF (t u : Tf) : Tf := fun ρ => (t ρ).bind fun c => if c = true then u ρ else some false
def tOrF (t u : Tf) : Tf := fun ρ => (t ρ).bind fun c => if c = true then some true else u ρ
theorem pt_notF (ha : PFT X a ta) : PFT X (.UnaryOp .Not a pos) (tNotF ta) := by
  refine PT.to (pt_not ha) ?_
  rintro σ H Q ⟨G0, H0, G, ρ, c, good, hf, k⟩
  unfold tNotF at hf
  obtain ⟨c', h1, rfl⟩ := Option.map_eq_some_iff.mp hf
  exact ⟨G0, H0, G, ρ, _, good, h1, fun H1 G1 s1 => k _ G1 s1⟩
theorem PW.to {t : TT} {f : Tf} (h : PW X e t) (imp : ∀ σ H Q, tFT X.K f σ H Q → t σ H Q) : PFW X e f := fun whole pins s σ H Q I q => h whole pins s σ H Q I (imp σ H Q q)
theorem pw_and1F (ha : PFT X a ta) : PFW X (.BoolOp .And [a] pos) ta := pw_and1 ha
theorem pw_or1F (ha : PFT X a ta) : PFW X (.BoolOp .Or [a] pos) ta := pw_or1 ha
theorem pw_andF {rest : List Expr} (ha : PFT X a ta) (hb : PFW X (.BoolOp .And (b :: rest) pos) tb) : PFW X (.BoolOp .And (a :: b :: rest) pos) (tAndF ta tb) := by
  refine PW.to (pw_and ha hb) ?_
  rintro σ H Q ⟨G0, H0, G, ρ, c, good, hf, k⟩
  unfold tAndF at hf
  obtain ⟨c', h1, hf⟩ := Option.bind_eq_some_iff.mp hf
  refine ⟨G0, H0, G, ρ, _, good, h1, fun H1 G1 s1 => ?_⟩
  split at hf
  · rename_i h; rw [if_pos h]; exact ⟨G0, H0, G1, ρ, c, good.step s1, hf, fun H2 G2 s2 => k _ G2 (s1.trans s2)⟩
  · rename_i h; rw [if_neg h]; cases hf; exact k _ G1 s1
theorem pw_orF {rest : List Expr} (ha : PFT X a ta) (hb : PFW X (.BoolOp .Or (b :: rest) pos) tb) : PFW X (.BoolOp .Or (a :: b :: rest) pos) (tOrF ta tb) := by
  refine PW.to (pw_or ha hb) ?_
  rintro σ H Q ⟨G0, H0, G, ρ, c, good, hf, k⟩
  unfold tOrF at hf
  obtain ⟨c', h1, hf⟩ := Option.bind_eq_some_iff.mp hf
  refine ⟨G0, H0, G, ρ, _, good, h1, fun H1 G1 s1 => ?_⟩
  split at hf
  · rename_i h; rw [if_pos h]; cases hf; exact k _ G1 s1
  · rename_i h; rw [if_neg h]; exact ⟨G0, H0, G1, ρ, c, good.step s1, hf, fun H2 G2 s2 => k _ G2 (s1.trans s2)⟩
theorem pt_w (h : PFW X e ta) : PFT X e ta := h.pt
/-! and, or, not as values (bools) -/
theorem pf_one {op : BoolOp} (h : PF X a fa) : PF X (.BoolOp op [a] pos) fa := pe_one h
def eAndV (fa fb : Ef) : Ef := fun ρ => (tB1 fa ρ).bind fun c => if c = true then fb ρ else some (.bl false)
def eOrV (fa fb : Ef) : Ef := fun ρ => (tB1 fa ρ).bind fun c => if c = true then some (.bl true) else fb ρ
theorem pf_and {rest : List Expr} (ha : PF X a fa) (hb : PF X (.BoolOp .And (b :: rest) pos) fb) : PF X (.BoolOp .And (a :: b :: rest) pos) (eAndV fa fb) := by
  refine PE.to (pe_and ha hb) ?_
  rintro σ H Q ⟨G0, H0, G, ρ, d, good, hf, k⟩
  obtain ⟨c, h1, hf⟩ := Option.bind_eq_some_iff.mp hf
  refine ⟨G0, H0, G, ρ, _, good, tB1_inv h1, fun u H1 G1 s1 r1 => ⟨c, rep_bl.mp r1, ?_⟩⟩
  split at hf
  · rename_i h; rw [if_pos h]; exact ⟨G0, H0, G1, ρ, d, good.step s1, hf, fun v H2 G2 s2 r2 => k _ _ G2 (s1.trans s2) r2⟩
  · rename_i h; rw [if_neg h]; cases hf; exact k _ _ G1 s1 (rep_bl.mpr rfl)
theorem pf_or {rest : List Expr} (ha : PF X a fa) (hb : PF X (.BoolOp .Or (b :: rest) pos) fb) : PF X (.BoolOp .Or (a :: b :: rest) pos) (eOrV fa fb) := by
  refine PE.to (pe_or ha hb) ?_
  rintro σ H Q ⟨G0, H0, G, ρ, d, good, hf, k⟩
  obtain ⟨c, h1, hf⟩ := Option.bind_eq_some_iff.mp hf
  refine ⟨G0, H0, G, ρ, _, good, tB1_inv h1, fun u H1 G1 s1 r1 => ⟨c, rep_bl.mp r1, ?_⟩⟩
  split at hf
  · rename_i h; rw [if_pos h]; cases hf; exact k _ _ G1 s1 (rep_bl.mpr rfl)
  · rename_i h; rw [if_neg h]; exact ⟨G0, H0, G1, ρ, d, good.step s1, hf, fun v H2 G2 s2 r2 => k _ _ G2 (s1.trans s2) r2⟩
theorem pf_not (ha : PF X a fa) : PF X (.UnaryOp .Not a pos) (eOfT (tNotF (tB1 fa))) := by
  refine PE.to (pe_not ha) ?_
  rintro σ H Q ⟨G0, H0, G, ρ, d, good, hf, k⟩
  obtain ⟨c, hf2, rfl⟩ := eOfT_inv hf
  unfold tNotF at hf2
  obtain ⟨c', h1, rfl⟩ := Option.map_eq_some_iff.mp hf2
  exact ⟨G0, H0, G, ρ, _, good, tB1_inv h1, fun u H1 G1 s1 r1 => ⟨c', rep_bl.mp r1, k _ _ G1 s1 (rep_bl.mpr rfl)⟩⟩
def eIf (t : Tf) (fa fb : Ef) : Ef := fun ρ => (t ρ).bind fun c => if c = true then fa ρ else fb ρ
theorem pf_if (ht : PFT X c ta) (ha : PF X a fa) (hb : PF X b fb) : PF X (.IfExp c a b pos) (eIf ta fa fb) := by
  refine PE.to (pe_ifExp ht ha hb) ?_
  rintro σ H Q ⟨G0, H0, G, ρ, d, good, hf, k⟩
  unfold eIf at hf
  obtain ⟨c', h1, hf⟩ := Option.bind_eq_some_iff.mp hf
  refine ⟨G0, H0, G, ρ, _, good, h1, fun H1 G1 s1 => ?_⟩
  split at hf
  · rename_i h; rw [if_pos h]; exact ⟨G0, H0, G1, ρ, d, good.step s1, hf, fun v H2 G2 s2 r2 => k _ _ G2 (s1.trans s2) r2⟩
  · rename_i h; rw [if_neg h]; exact ⟨G0, H0, G1, ρ, d, good.step s1, hf, fun v H2 G2 s2 r2 => k _ _ G2 (s1.trans s2) r2⟩

/-! argument lists, displays -/
def aNil : Lf := fun _ => some []
def aCons (f : Ef) (r : Lf) : Lf := fun ρ => (f ρ).bind fun d => (r ρ).map fun ds => d :: ds
theorem pa_nilF : PFA X [] aNil := by
  refine PA.to pa_nil ?_
  rintro σ H Q ⟨G0, H0, G, ρ, d, good, hf, k⟩
  cases hf
  exact k [] H G (.refl good.sub) (reps_nil.mpr rfl)
theorem aCons_inv {f : Ef} {r : Lf} {ρ : List B} {ds : List D} (h : aCons f r ρ = some ds) : ∃ d dr, f ρ = some d ∧ r ρ = some dr ∧ ds = d :: dr := by
  unfold aCons at h
  obtain ⟨d, h1, h⟩ := Option.bind_eq_some_iff.mp h
  obtain ⟨dr, h2, rfl⟩ := Option.map_eq_some_iff.mp h
  exact ⟨d, dr, h1, h2, rfl⟩
theorem pa_consF (ha : PF X e fa) (hr : PFA X es ga) (hs : starEach (e :: es) X.env = (false, eval e X.env) :: starEach es X.env := by rfl) : PFA X (e :: es) (aCons fa ga) := by
  refine PA.to (pa_cons ha hr hs) ?_
  rintro σ H Q ⟨G0, H0, G, ρ, ds, good, hf, k⟩
  obtain ⟨d, dr, h1, h2, rfl⟩ := aCons_inv hf
  refine ⟨G0, H0, G, ρ, _, good, h1, fun u H1 G1 s1 r1 => ⟨G0, H0, G1, ρ, _, good.step s1, h2, fun v H2 G2 s2 r2 => ?_⟩⟩
  exact k _ _ G2 (s1.trans s2) (reps_cons.mpr ⟨u, v, rfl, r1.mono s2.gg, r2⟩)
abbrev lim : Nat := 100000
theorem lim_ok {n : Nat} (h : n ≤ lim) : n < sizeLine := Nat.lt_of_le_of_lt h (by decide)
def okL (ds : List D) : Option (List D) := if ds.length ≤ lim then some ds else none
theorem okL_inv {ds es : List D} (h : okL ds = some es) : es = ds ∧ ds.length ≤ lim := by
  unfold okL at h
  split at h
  · rename_i q; cases h; exact ⟨rfl, q⟩
  · cases h
def eTup (g : Lf) : Ef := fun ρ => ((g ρ).bind okL).map .tup
theorem pf_tup {k : Nat} (h : PFA X es ga) : PF X (.Tuple es k pos) (eTup ga) := by
  refine PE.to (pe_tup h) ?_
  rintro σ H Q ⟨G0, H0, G, ρ, d, good, hf, k⟩
  unfold eTup at hf
  obtain ⟨ds, h1, rfl⟩ := Option.map_eq_some_iff.mp hf
  obtain ⟨es, h1, h2⟩ := Option.bind_eq_some_iff.mp h1
  obtain ⟨rfl, h3⟩ := okL_inv h2
  refine ⟨G0, H0, G, ρ, _, good, h1, fun vs H1 G1 s1 r1 => ⟨by rw [← r1.length]; exact Nat.le_of_lt (lim_ok h3), fun p hp => ?_⟩⟩
  have s2 := Step.laid (o := .tup vs) s1.sub hp
  exact k _ _ _ (s1.trans s2) (rep_tup.mpr ⟨p, vs, rfl, .of upd_same, r1.mono s2.gg⟩)
def lDisp (g : Lf) : Lf := fun ρ => (g ρ).bind okL
theorem pl_disp (h : PFA X es ga) : PFr X (.List es pos) (lDisp ga) := by
  refine PE.toR (pe_lst h) ?_
  rintro σ H Q ⟨G0, H0, G, ρ, d, good, hf, k⟩
  unfold lDisp at hf
  obtain ⟨es, h1, h2⟩ := Option.bind_eq_some_iff.mp hf
  obtain ⟨rfl, h3⟩ := okL_inv h2
  refine ⟨G0, H0, G, ρ, _, good, h1, fun vs H1 G1 s1 r1 => ⟨by rw [← r1.length]; exact Nat.le_of_lt (lim_ok h3), fun p hp => ?_⟩⟩
  exact k p vs _ G1 (s1.trans (Step.own s1.sub hp)) (s1.hh.free hp) upd_same (s1.sub.free hp) r1

/-! a[b] -/
def atD (x y : D) : Option D := match x, y with
  | .tup ds, .int i => atI ds i
  | .lst ds, .int i => atI ds i
  | .str z, .int i => if z.length ≤ lim then (atI z.cps.toList i).map fun c => .str ⟨#[c]⟩ else none
  | _, _ => none
def eIx (fa fb : Ef) : Ef := fun ρ => (fa ρ).bind fun x => (fb ρ).bind fun y => atD x y
theorem atI_reps {K : PySem.W.Frag} {G : Hp} {ds : List D} {vs : List V} {i : Int} {d : D} (r : Reps K G ds vs) (h : atI ds i = some d) : ∃ v, atI vs i = some v ∧ Rep K G d v := by
  unfold atI at h ⊢
  rw [r.length] at h
  obtain ⟨j, h1, h2⟩ := Option.bind_eq_some_iff.mp h
  obtain ⟨v, h3, h4⟩ := r.get h2
  exact ⟨v, by rw [h1]; exact h3, h4⟩
theorem pf_ix (ha : PF X a fa) (hb : PF X b fb) (hs : PlainIx b := by exact fun _ _ => rfl) : PF X (.Subscript a b pos) (eIx fa fb) := by
  refine PE.to (pe_ix ix_seq ha hb hs) ?_
  rintro σ H Q ⟨G0, H0, G, ρ, d, good, hf, k⟩
  unfold eIx at hf
  obtain ⟨x, h1, hf⟩ := Option.bind_eq_some_iff.mp hf
  obtain ⟨y, h2, hf⟩ := Option.bind_eq_some_iff.mp hf
  refine ⟨G0, H0, G, ρ, _, good, h1, fun u H1 G1 s1 r1 => ⟨G0, H0, G1, ρ, _, good.step s1, h2, fun v H2 G2 s2 r2 => ?_⟩⟩
  have r1 := r1.mono s2.gg
  have s3 := s1.trans s2
  unfold atD at hf
  split at hf
  · obtain ⟨p, vs, rfl, q, rs⟩ := rep_tup.mp r1
    obtain ⟨w, e, rw'⟩ := atI_reps rs hf
    exact .inr (.inl ⟨p, vs, _, w, rfl, rep_int.mp r2, s2.sub.tup q, e, k _ _ G2 s3 rw'⟩)
  · obtain ⟨p, vs, rfl, q, rs⟩ := rep_lst.mp r1
    obtain ⟨w, e, rw'⟩ := atI_reps rs hf
    exact .inl ⟨p, vs, _, w, rfl, rep_int.mp r2, s2.sub.seq q, e, k _ _ G2 s3 rw'⟩
  · split at hf
    · rename_i hz
      obtain ⟨c, e, rfl⟩ := Option.map_eq_some_iff.mp hf
      exact .inr (.inr ⟨_, _, c, rep_str.mp r1, rep_int.mp r2, Nat.le_of_lt (lim_ok hz), e, k _ _ G2 s3 (rep_str.mpr rfl)⟩)
    · cases hf
  · cases hf
end
end L2

namespace L2
open PySem PySem.Spec PyProof.Rows

/-! ### what a statement does -/
inductive Out where
  | nx (ρ : List B) | rt (d : D) | rl (ds : List D) | bk (ρ : List B) | ct (ρ : List B)
  deriving Inhabited
abbrev Sf := List B → Option Out
/-- what is wanted of an outcome -/
def Wants (K : PySem.W.Frag) (G0 H0 G : Hp) (D : Ends) : Out → Prop
  | .nx ρ' => ∀ σ' H' G', Same G G' → Good K G0 H0 G' H' σ' ρ' → D.nx σ' H'
  | .bk ρ' => ∀ σ' H' G', Same G G' → Good K G0 H0 G' H' σ' ρ' → D.bk σ' H'
  | .ct ρ' => ∀ σ' H' G', Same G G' → Good K G0 H0 G' H' σ' ρ' → D.ct σ' H'
  | .rt d => ∀ v H' G', Step G0 H0 G' H' → Rep K G' d v → D.rt v H'
  | .rl ds => ∀ a vs H' G', Step G0 H0 G' H' → H0 a = none → H' a = some (.lst vs) → G' a = none → Reps K G' ds vs → D.rt (.ref a) H'
def tFS (K : PySem.W.Frag) (f : Sf) : TS := fun D σ H => ∃ G0 H0 G ρ o, Good K G0 H0 G H σ ρ ∧ f ρ = some o ∧ Wants K G0 H0 G D o
def PFS (X : Cx) (st : Stmt) (f : Sf) : Prop := PS X st (tFS X.K f)
def PFSs (X : Cx) (sts : List Stmt) (f : Sf) : Prop := PSs X sts (tFS X.K f)
theorem PS.to {X : Cx} {st : Stmt} {t : TS} {f : Sf} (h : PS X st t) (imp : ∀ D σ H, tFS X.K f D σ H → t D σ H) : PFS X st f := fun pins s σ H D I q => h pins s σ H D I (imp D σ H q)
theorem PSs.to {X : Cx} {st : List Stmt} {t : TS} {f : Sf} (h : PSs X st t) (imp : ∀ D σ H, tFS X.K f D σ H → t D σ H) : PFSs X st f := fun pins s σ H D I q => h pins s σ H D I (imp D σ H q)
theorem Wants.mono {K : PySem.W.Frag} {G0 H0 G G' : Hp} {D : Ends} {o : Out} (h : Wants K G0 H0 G D o) (s : Same G G') : Wants K G0 H0 G' D o := by
  cases o with
  | nx ρ => exact fun σ' H' G2 s2 g => h σ' H' G2 (s.trans s2) g
  | bk ρ => exact fun σ' H' G2 s2 g => h σ' H' G2 (s.trans s2) g
  | ct ρ => exact fun σ' H' G2 s2 g => h σ' H' G2 (s.trans s2) g
  | rt d => exact h
  | rl ds => exact h

theorem getElem?_set_fz {ρ : List B} {i j : Nat} {d : D} {ds : List D} (h : (ρ.set i (.fz d))[j]? = some (.ow ds)) : j ≠ i ∧ ρ[j]? = some (.ow ds) := by
  by_cases e : j = i
  · subst e
    rw [List.getElem?_set] at h
    split at h
    · split at h <;> cases h
    · rename_i z; exact absurd rfl z
  · rw [List.getElem?_set_ne (Ne.symm e)] at h
    exact ⟨e, h⟩
theorem Good.setF {K : PySem.W.Frag} {G0 H0 G H : Hp} {σ : St} {ρ : List B} {v : V} {d : D} (g : Good K G0 H0 G H σ ρ) (i : Nat) (r : Rep K G d v) : Good K G0 H0 G H (σ.set i (some v)) (ρ.set i (.fz d)) := by
  refine ⟨g.st, Paired.set (.fz r) i g.vals, fun j k a ds es h1 h2 h3 h4 => ?_⟩
  obtain ⟨n1, e1⟩ := getElem?_set_fz h1
  obtain ⟨n2, e2⟩ := getElem?_set_fz h2
  rw [List.getElem?_set_ne (Ne.symm n1)] at h3
  rw [List.getElem?_set_ne (Ne.symm n2)] at h4
  exact g.apart j k a ds es e1 e2 h3 h4
theorem Good.addr {K : PySem.W.Frag} {G0 H0 G H : Hp} {σ : St} {ρ : List B} {i : Nat} {ds : List D} (g : Good K G0 H0 G H σ ρ) (h : ρ[i]? = some (.ow ds)) : ∃ a vs, σ[i]? = some (some (.ref a)) ∧ H a = some (.lst vs) ∧ G a = none ∧ H0 a = none ∧ Reps K G ds vs := by
  obtain ⟨o, e, r⟩ := Paired.get g.vals h
  cases r with
  | ow h1 h2 h3 h4 => exact ⟨_, _, e, h1, h2, h3, h4⟩
/-- a new list at a name -/
theorem Good.setO {K : PySem.W.Frag} {G0 H0 G H : Hp} {σ : St} {ρ : List B} {a : Addr} {vs : List V} {ds : List D} (g : Good K G0 H0 G H σ ρ) (i : Nat) (ha : H a = some (.lst vs)) (ga : G a = none) (h0 : H0 a = none) (rs : Reps K G ds vs)
    (fr : ∀ (j : Nat) (es : List D), ρ[j]? = some (B.ow es) → σ[j]? ≠ some (some (V.ref a))) : Good K G0 H0 G H (σ.set i (some (.ref a))) (ρ.set i (.ow ds)) := by
  have hl : σ.length = ρ.length := Paired.length g.vals
  refine ⟨g.st, Paired.set (.ow ha ga h0 rs) i g.vals, fun j k b d1 d2 h1 h2 h3 h4 => ?_⟩
  by_cases hj : j = i
  · by_cases hk : k = i
    · rw [hj, hk]
    · subst hj
      rw [List.getElem?_set_ne (Ne.symm hk)] at h2 h4
      have hlt : j < σ.length := by
        have := (List.getElem?_eq_some_iff.mp h3).1
        rwa [List.length_set] at this
      rw [List.getElem?_set_self hlt] at h3
      cases h3
      exact absurd h4 (fr k d2 h2)
  · rw [List.getElem?_set_ne (Ne.symm hj)] at h1 h3
    by_cases hk : k = i
    · subst hk
      have hlt : k < σ.length := by
        have := (List.getElem?_eq_some_iff.mp h4).1
        rwa [List.length_set] at this
      rw [List.getElem?_set_self hlt] at h4
      cases h4
      exact absurd h3 (fr j d1 h1)
    · rw [List.getElem?_set_ne (Ne.symm hk)] at h2 h4
      exact g.apart j k b d1 d2 h1 h2 h3 h4
/-- one's own list is written -/
theorem Good.wr {K : PySem.W.Frag} {G0 H0 G H : Hp} {σ : St} {ρ : List B} {a : Addr} {us : List V} {ds es : List D} {i : Nat} (g : Good K G0 H0 G H σ ρ) (hi : ρ[i]? = some (.ow ds)) (hs : σ[i]? = some (some (.ref a))) (rs : Reps K G es us) :
    Good K G0 H0 G (upd H a (.lst us)) σ (ρ.set i (.ow es)) := by
  obtain ⟨a', vs, h1, h2, h3, h4, _⟩ := g.addr hi
  rw [hs] at h1; cases h1
  have st : Step G0 H0 G (upd H a (.lst us)) := by
    refine ⟨fun b o e => ?_, g.st.gg, fun b o e => ?_, g.st.new⟩
    · rw [upd_ne (ne_of_none e h4)]; exact g.st.hh b o e
    · rw [upd_ne (ne_of_none e h3)]; exact g.st.sub b o e
  have hl : σ.length = ρ.length := Paired.length g.vals
  have hil : i < ρ.length := (List.getElem?_eq_some_iff.mp hi).1
  have key : ∀ (l : List (Option V)) (r : List B) (n : Nat), Paired (RB K H0 G H) l r → (∀ j es, n + j ≠ i → r[j]? = some (.ow es) → l[j]? ≠ some (some (.ref a))) → (∀ j, n + j = i → l[j]? = some (some (.ref a))) →
      Paired (RB K H0 G (upd H a (.lst us))) l (if i < n then r else r.set (i - n) (.ow es)) := by
    intro l r n p
    induction p generalizing n with
    | nil => intro _ _; split <;> exact .nil
    | @cons o b l' r' q t ih =>
      intro hne hat
      have tl := ih (n + 1) (fun j es z e => by have := hne (j + 1) es (by omega) (by simpa using e); simpa using this) (fun j z => by have := hat (j + 1) (by omega); simpa using this)
      have keepq : (∀ es, b = .ow es → o ≠ some (.ref a)) → RB K H0 G (upd H a (.lst us)) o b := fun hb => by
        cases q with
        | no => exact .no
        | fz r => exact .fz r
        | @ow c vs ds' c1 c2 c3 c4 =>
          have : c ≠ a := fun z => hb _ rfl (by rw [z])
          exact .ow (by rw [upd_ne this]; exact c1) c2 c3 c4
      by_cases h1 : i < n
      · rw [if_pos h1]
        rw [if_pos (by omega)] at tl
        refine .cons (keepq fun es e z => ?_) tl
        exact hne 0 es (by omega) (by simp [e]) (by simp [z])
      · rw [if_neg h1]
        by_cases h2 : i = n
        · subst h2
          rw [if_pos (by omega)] at tl
          have := hat 0 (by omega)
          simp at this
          subst this
          rw [Nat.sub_self]
          exact .cons (.ow upd_same h3 h4 rs) tl
        · rw [if_neg (by omega)] at tl
          have e : i - n = (i - (n + 1)) + 1 := by omega
          rw [e]
          refine .cons (keepq fun es e z => ?_) tl
          exact hne 0 es (by omega) (by simp [e]) (by simp [z])
  have vals := key σ ρ 0 g.vals (fun j es' z e w => by
    have := g.apart j i a es' ds e hi w hs
    omega) (fun j z => by rw [show j = i by omega]; exact hs)
  rw [if_neg (Nat.not_lt_zero _), Nat.sub_zero] at vals
  refine ⟨st, vals, fun j k b d1 d2 e1 e2 e3 e4 => ?_⟩
  have un : ∀ (j : Nat) (d1 : List D), (ρ.set i (B.ow es))[j]? = some (B.ow d1) → ∃ d, ρ[j]? = some (B.ow d) := fun j d1 e => by
    by_cases hj : j = i
    · subst hj; exact ⟨ds, hi⟩
    · rw [List.getElem?_set_ne (Ne.symm hj)] at e; exact ⟨d1, e⟩
  obtain ⟨c1, f1⟩ := un j d1 e1
  obtain ⟨c2, f2⟩ := un k d2 e2
  exact g.apart j k b c1 c2 f1 f2 e3 e4

section
variable {X : Cx} {a b c e tg : Expr} {es : List Expr} {fa fb : Ef} {ga : Lf} {ta : Tf} {pos : Pos} {st : Stmt} {sts rest : List Stmt} {f g : Sf}
def sSeq (f g : Sf) : Sf := fun ρ => (f ρ).bind fun o => match o with | .nx ρ' => g ρ' | o => some o
def sNil : Sf := fun ρ => some (.nx ρ)
theorem pss_nilF : PFSs X [] sNil := by
  refine PSs.to pss_nil ?_
  rintro D σ H ⟨G0, H0, G, ρ, o, good, hf, k⟩
  cases hf
  exact k σ H G (Same.refl _) good
theorem pss_oneF (h : PFS X st f) : PFSs X [st] f := pss_one h
theorem pss_consF (h1 : PFS X st f) (h2 : PFSs X rest g) : PFSs X (st :: rest) (sSeq f g) := by
  refine PSs.to (pss_cons h1 h2) ?_
  rintro D σ H ⟨G0, H0, G, ρ, o, good, hf, k⟩
  unfold sSeq at hf
  obtain ⟨o1, h1, hf⟩ := Option.bind_eq_some_iff.mp hf
  refine ⟨G0, H0, G, ρ, o1, good, h1, ?_⟩
  cases o1 with
  | nx ρ' => exact fun σ' H' G' s g' => ⟨G0, H0, G', ρ', o, g', hf, k.mono s⟩
  | rt d => cases hf; exact k
  | rl d => cases hf; exact k
  | bk d => cases hf; exact k
  | ct d => cases hf; exact k
def sPass : Sf := sNil
theorem ps_passF : PFS X (.Pass pos) sNil := by
  refine PS.to ps_pass ?_
  rintro D σ H ⟨G0, H0, G, ρ, o, good, hf, k⟩
  cases hf
  exact k σ H G (Same.refl _) good
theorem ps_docF {x : Str} {j : Nat} {pos' : Pos} : PFS X (.Expr (.Constant (.str x) j pos) pos') sNil := by
  refine PS.to ps_doc ?_
  rintro D σ H ⟨G0, H0, G, ρ, o, good, hf, k⟩
  cases hf
  exact k σ H G (Same.refl _) good
theorem ps_breakF : PFS X (.Break pos) (fun ρ => some (.bk ρ)) := by
  refine PS.to ps_break ?_
  rintro D σ H ⟨G0, H0, G, ρ, o, good, hf, k⟩
  cases hf
  exact k σ H G (Same.refl _) good
theorem ps_continueF : PFS X (.Continue pos) (fun ρ => some (.ct ρ)) := by
  refine PS.to ps_continue ?_
  rintro D σ H ⟨G0, H0, G, ρ, o, good, hf, k⟩
  cases hf
  exact k σ H G (Same.refl _) good
def sRet (f : Ef) : Sf := fun ρ => (f ρ).map .rt
theorem ps_retF (h : PF X e fa) : PFS X (.Return (some e) pos) (sRet fa) := by
  refine PS.to (ps_ret h) ?_
  rintro D σ H ⟨G0, H0, G, ρ, o, good, hf, k⟩
  unfold sRet at hf
  obtain ⟨d, h1, rfl⟩ := Option.map_eq_some_iff.mp hf
  exact ⟨G0, H0, G, ρ, d, good, h1, fun v H' G' s r => k v H' G' (good.st.trans s) r⟩
def sRetL (f : Lf) : Sf := fun ρ => (f ρ).map .rl
theorem ps_retL (h : PFr X e ga) : PFS X (.Return (some e) pos) (sRetL ga) := by
  refine PS.to (ps_ret h) ?_
  rintro D σ H ⟨G0, H0, G, ρ, o, good, hf, k⟩
  unfold sRetL at hf
  obtain ⟨d, h1, rfl⟩ := Option.map_eq_some_iff.mp hf
  exact ⟨G0, H0, G, ρ, d, good, h1, fun p vs H' G' s hn hp gp rs => k p vs H' G' (good.st.trans s) (good.st.hh.free hn) hp gp rs⟩
theorem ps_retNF : PFS X (.Return none pos) (fun _ => some (.rt .non)) := by
  refine PS.to ps_retN ?_
  rintro D σ H ⟨G0, H0, G, ρ, o, good, hf, k⟩
  cases hf
  exact k .non H G good.st (rep_non.mpr rfl)
/-- return x, x one's own list -/
def sRetO (i : Nat) : Sf := fun ρ => match ρ[i]? with | some (.ow ds) => some (.rl ds) | _ => none
theorem ps_retO (i : Nat) {x : Str} {pos' : Pos} (hN : X.N[i]? = some x := by rfl) (hv : Vis X.env.scope x := by first | exact Or.inl rfl | exact Or.inr (Or.inl rfl) | exact Or.inr (Or.inr rfl)) (hd : (x == ("__debug__" : Str)) = false := by decide) (hcd : (x == ("__classdict__" : Str)) = false := by decide) :
    PFS X (.Return (some (.Name x pos')) pos) (sRetO i) := by
  refine PS.to (ps_ret (pe_var hN hv hd hcd)) ?_
  rintro D σ H ⟨G0, H0, G, ρ, o, good, hf, k⟩
  unfold sRetO at hf
  split at hf
  · rename_i ds e
    cases hf
    obtain ⟨p, vs, h1, h2, h3, h4, h5⟩ := good.addr e
    exact ⟨.ref p, h1, k p vs H G good.st h4 h2 h3 h5⟩
  · cases hf
def sIf (t : Tf) (f g : Sf) : Sf := fun ρ => (t ρ).bind fun c => if c = true then f ρ else g ρ
theorem ps_ifF {sa sb : List Stmt} (ht : PFT X c ta) (ha : PFSs X sa f) (hb : PFSs X sb g) : PFS X (.If c sa sb pos) (sIf ta f g) := by
  refine PS.to (ps_if ht ha hb) ?_
  rintro D σ H ⟨G0, H0, G, ρ, o, good, hf, k⟩
  unfold sIf at hf
  obtain ⟨c', h1, hf⟩ := Option.bind_eq_some_iff.mp hf
  refine ⟨G0, H0, G, ρ, _, good, h1, fun H1 G1 s1 => ?_⟩
  split at hf
  · rename_i h; rw [if_pos h]; exact ⟨G0, H0, G1, ρ, o, good.step s1, hf, k.mono s1.gg⟩
  · rename_i h; rw [if_neg h]; exact ⟨G0, H0, G1, ρ, o, good.step s1, hf, k.mono s1.gg⟩
def sDrop (f : Ef) : Sf := fun ρ => (f ρ).map fun _ => .nx ρ
theorem ps_exprF (h : PF X e fa) (hs : swapsWith e none pos.line X.env = pure false := by rfl) : PFS X (.Expr e pos) (sDrop fa) := by
  refine PS.to (ps_expr h hs) ?_
  rintro D σ H ⟨G0, H0, G, ρ, o, good, hf, k⟩
  unfold sDrop at hf
  obtain ⟨d, h1, rfl⟩ := Option.map_eq_some_iff.mp hf
  exact ⟨G0, H0, G, ρ, d, good, h1, fun v H' G' s r => k σ H' G' s.gg (good.step s)⟩
/-! targets -/
abbrev Gf := D → List B → Option (List B)
def tFG (K : PySem.W.Frag) (g : Gf) : TG := fun v σ H Q => ∃ G0 H0 G ρ d ρ', Good K G0 H0 G H σ ρ ∧ Rep K G d v ∧ g d ρ = some ρ' ∧ ∀ σ' H' G', Step G H G' H' → Good K G0 H0 G' H' σ' ρ' → Q σ' H'
def PFG (X : Cx) (tg : Expr) (g : Gf) : Prop := PG X tg (tFG X.K g)
abbrev Gfs := List D → List B → Option (List B)
def tFGs (K : PySem.W.Frag) (g : Gfs) : TGs := fun vs σ H Q => ∃ G0 H0 G ρ ds ρ', Good K G0 H0 G H σ ρ ∧ Reps K G ds vs ∧ g ds ρ = some ρ' ∧ ∀ σ' H' G', Step G H G' H' → Good K G0 H0 G' H' σ' ρ' → Q σ' H'
def PFGs (X : Cx) (tgs : List Expr) (g : Gfs) : Prop := PGs X tgs (tFGs X.K g)
def gN (i : Nat) : Gf := fun d ρ => some (ρ.set i (.fz d))
theorem pg_n (i : Nat) {x : Str} (hN : X.N.Nodup) (hi : X.N[i]? = some x := by rfl) (hx : Loc X.env.scope x := by first | exact .inl rfl | exact .inr rfl) (hf : X.fn x = true ∨ X.env.scope.names.lookup x = some .local := by first | exact .inl rfl | exact .inr rfl) : PFG X (.Name x pos) (gN i) := by
  have h := pg_name (pos := pos) hN hi hx hf
  intro pins s σ H v u Q I r q
  refine h pins s σ H v u Q I r ?_
  obtain ⟨G0, H0, G, ρ, d, ρ', good, rd, hf, k⟩ := q
  cases hf
  exact k _ H G (.refl good.sub) (good.setF i rd)
def gsNil : Gfs := fun ds ρ => match ds with | [] => some ρ | _ => none
def gsCons (g : Gf) (r : Gfs) : Gfs := fun ds ρ => match ds with | d :: dr => (g d ρ).bind fun ρ' => r dr ρ' | _ => none
theorem pgs_nilF : PFGs X [] gsNil := by
  intro pins s σ H vs us Q I r q
  refine pgs_nil pins s σ H vs us Q I r ?_
  obtain ⟨G0, H0, G, ρ, ds, ρ', good, rd, hf, k⟩ := q
  unfold gsNil at hf
  split at hf
  · cases hf
    rw [reps_nil] at rd
    exact ⟨rd, k _ H G (.refl good.sub) good⟩
  · cases hf
theorem pgs_consF {g : Gf} {r : Gfs} (h1 : PFG X e g) (h2 : PFGs X es r) (hs : (assignEach (e :: es) X.env).map (·.2) = assign e X.env :: (assignEach es X.env).map (·.2) := by rfl) : PFGs X (e :: es) (gsCons g r) := by
  intro pins s σ H vs us Q I rv q
  refine pgs_cons h1 h2 hs pins s σ H vs us Q I rv ?_
  obtain ⟨G0, H0, G, ρ, ds, ρ', good, rd, hf, k⟩ := q
  unfold gsCons at hf
  split at hf
  · rename_i d dr
    obtain ⟨ρ1, e1, e2⟩ := Option.bind_eq_some_iff.mp hf
    obtain ⟨v, vr, rfl, r1, r2⟩ := reps_cons.mp rd
    exact ⟨v, vr, rfl, G0, H0, G, ρ, d, ρ1, good, r1, e1, fun σ' H' G' s' g' => ⟨G0, H0, G', ρ1, dr, ρ', g', r2.mono s'.gg, e2, fun σ2 H2 G2 s2 g2 => k σ2 H2 G2 (s'.trans s2) g2⟩⟩
  · cases hf
def gT (r : Gfs) : Gf := fun d ρ => match d with | .tup ds => r ds ρ | _ => none
theorem pg_t {r : Gfs} {k : Nat} (n : Nat) (hc : X.calm = true) (h : PFGs X es r) (hr : ∀ ds ρ ρ', r ds ρ = some ρ' → ds.length = n) (hn : (assignEach es X.env).length = n := by rfl) (hst : (assignEach es X.env).findIdx? (·.1) = none := by rfl) : PFG X (.Tuple es k pos) (gT r) := by
  have h := pg_tup (pos := pos) (k := k) hc h hn hst
  intro pins s σ H v u Q I rv q
  refine h pins s σ H v u Q I rv ?_
  obtain ⟨G0, H0, G, ρ, d, ρ', good, rd, hf, k⟩ := q
  unfold gT at hf
  split at hf
  · obtain ⟨p, vs, rfl, h1, h2⟩ := rep_tup.mp rd
    exact ⟨p, vs, rfl, good.sub.tup h1, by rw [← h2.length]; exact hr _ _ _ hf, G0, H0, G, ρ, _, ρ', good, h2, hf, k⟩
  · cases hf
theorem gs_len1 {g : Gf} {r : Gfs} {n : Nat} (h : ∀ ds ρ ρ', r ds ρ = some ρ' → ds.length = n) : ∀ ds ρ ρ', gsCons g r ds ρ = some ρ' → ds.length = n + 1 := by
  intro ds ρ ρ' q
  unfold gsCons at q
  split at q
  · obtain ⟨ρ1, e1, e2⟩ := Option.bind_eq_some_iff.mp q
    rw [List.length_cons, h _ _ _ e2]
  · cases q
theorem gs_len0 : ∀ ds ρ ρ', gsNil ds ρ = some ρ' → ds.length = 0 := by
  intro ds ρ ρ' q
  unfold gsNil at q
  split at q
  · rfl
  · cases q
/-- no list of one's own -/
def NoOw (ρ : List B) : Prop := ∀ (j : Nat) (es : List D), ρ[j]? ≠ some (B.ow es)
def GfOk (g : Gf) : Prop := ∀ d ρ ρ', g d ρ = some ρ' → NoOw ρ → NoOw ρ'
def GfsOk (g : Gfs) : Prop := ∀ d ρ ρ', g d ρ = some ρ' → NoOw ρ → NoOw ρ'
theorem go_n (i : Nat) : GfOk (gN i) := fun d ρ ρ' h n j es e => by
  cases h
  obtain ⟨_, e'⟩ := getElem?_set_fz e
  exact n j es e'
theorem gso_nil : GfsOk gsNil := fun d ρ ρ' h n => by
  unfold gsNil at h
  split at h
  · cases h; exact n
  · cases h
theorem gso_cons {g : Gf} {r : Gfs} (h1 : GfOk g) (h2 : GfsOk r) : GfsOk (gsCons g r) := fun d ρ ρ' h n => by
  unfold gsCons at h
  split at h
  · obtain ⟨ρ1, e1, e2⟩ := Option.bind_eq_some_iff.mp h
    exact h2 _ _ _ e2 (h1 _ _ _ e1 n)
  · cases h
theorem go_t {r : Gfs} (h : GfsOk r) : GfOk (gT r) := fun d ρ ρ' q n => by
  unfold gT at q
  split at q
  · exact h _ _ _ q n
  · cases q
def sAsg (f : Ef) (g : Gf) : Sf := fun ρ => (f ρ).bind fun d => (g d ρ).map .nx
theorem sAsg_imp {K : PySem.W.Frag} {t : TE} {f : Ef} {g : Gf} (imp : ∀ σ H Q, tF K f σ H Q → t σ H Q) {D : Ends} {σ : St} {H : Hp} (h : tFS K (sAsg f g) D σ H) : tAsg t (tFG K g) D σ H := by
  obtain ⟨G0, H0, G, ρ, o, good, hf, k⟩ := h
  unfold sAsg at hf
  obtain ⟨d, h1, hf⟩ := Option.bind_eq_some_iff.mp hf
  obtain ⟨ρ', h2, rfl⟩ := Option.map_eq_some_iff.mp hf
  exact imp _ _ _ ⟨G0, H0, G, ρ, d, good, h1, fun v H' G' s r => ⟨G0, H0, G', ρ, d, ρ', good.step s, r, h2, fun σ2 H2 G2 s2 g2 => k σ2 H2 G2 (s.gg.trans s2.gg) g2⟩⟩
theorem ps_asgF {g : Gf} (he : PF X e fa) (hg : PFG X tg g) (hs : swapsWithSole [tg] e pos.line X.env = pure false := by rfl) (hw : swappedStores [tg] e X.env = pure none := by rfl) (h1 : (assignEach [tg] X.env).map (·.2) = [assign tg X.env] := by rfl) :
    PFS X (.Assign [tg] e pos) (sAsg fa g) := PS.to (ps_asg he hg hs hw h1) fun D σ H h => sAsg_imp (fun _ _ _ q => q) h
def sSet (i : Nat) (f : Ef) : Sf := fun ρ => (f ρ).map fun d => .nx (ρ.set i (.fz d))
theorem sSet_imp {K : PySem.W.Frag} {t : TE} {f : Ef} {i : Nat} (imp : ∀ σ H Q, tF K f σ H Q → t σ H Q) {D : Ends} {σ : St} {H : Hp} (h : tFS K (sSet i f) D σ H) : tAsg t (gName i) D σ H := by
  obtain ⟨G0, H0, G, ρ, o, good, hf, k⟩ := h
  unfold sSet at hf
  obtain ⟨d, h1, rfl⟩ := Option.map_eq_some_iff.mp hf
  exact imp _ _ _ ⟨G0, H0, G, ρ, d, good, h1, fun v H' G' s r => k _ H' G' s.gg ((good.step s).setF i r)⟩
theorem ps_setF (i : Nat) {x : Str} {pos' : Pos} (hN : X.N.Nodup) (he : PF X e fa) (hi : X.N[i]? = some x := by rfl) (hx : Loc X.env.scope x := by first | exact .inl rfl | exact .inr rfl) (hs : swapsWith e (some (.Name x pos')) pos.line X.env = pure false := by rfl)
    (hf : X.fn x = true ∨ X.env.scope.names.lookup x = some .local := by first | exact .inl rfl | exact .inr rfl) : PFS X (.Assign [.Name x pos'] e pos) (sSet i fa) :=
  PS.to (ps_set hN hi hx he hs hf) fun D σ H h => sSet_imp (fun _ _ _ q => q) h
/-- x = a new list, x's own -/
def sOwn (i : Nat) (f : Lf) : Sf := fun ρ => (f ρ).map fun ds => .nx (ρ.set i (.ow ds))
theorem sOwn_imp {K : PySem.W.Frag} {t : TE} {f : Lf} {i : Nat} (imp : ∀ σ H Q, tFr K f σ H Q → t σ H Q) {D : Ends} {σ : St} {H : Hp} (h : tFS K (sOwn i f) D σ H) : tAsg t (gName i) D σ H := by
  obtain ⟨G0, H0, G, ρ, o, good, hf, k⟩ := h
  unfold sOwn at hf
  obtain ⟨ds, h1, rfl⟩ := Option.map_eq_some_iff.mp hf
  refine imp _ _ _ ⟨G0, H0, G, ρ, ds, good, h1, fun p vs H' G' s hn hp gp rs => ?_⟩
  refine k _ H' G' s.gg ((good.step s).setO i hp gp (good.st.hh.free hn) rs fun j es e z => ?_)
  obtain ⟨q, us, e1, e2, _⟩ := good.addr e
  rw [e1] at z; cases z
  rw [hn] at e2; cases e2
theorem ps_own (i : Nat) {x : Str} {pos' : Pos} (hN : X.N.Nodup) (he : PFr X e ga) (hi : X.N[i]? = some x := by rfl) (hx : Loc X.env.scope x := by first | exact .inl rfl | exact .inr rfl) (hs : swapsWith e (some (.Name x pos')) pos.line X.env = pure false := by rfl)
    (hf : X.fn x = true ∨ X.env.scope.names.lookup x = some .local := by first | exact .inl rfl | exact .inr rfl) : PFS X (.Assign [.Name x pos'] e pos) (sOwn i ga) :=
  PS.to (ps_set hN hi hx he hs hf) fun D σ H h => sOwn_imp (fun _ _ _ q => q) h
/-- one's own list is let go: from here on a tree -/
def frzB (i : Nat) (ρ : List B) : List B := match ρ[i]? with | some (.ow ds) => ρ.set i (.fz (.lst ds)) | _ => ρ
def sFrz (i : Nat) (f : Sf) : Sf := fun ρ => f (frzB i ρ)
theorem Good.frz {K : PySem.W.Frag} {G0 H0 G H : Hp} {σ : St} {ρ : List B} (g : Good K G0 H0 G H σ ρ) (i : Nat) : ∃ G', Same G G' ∧ Good K G0 H0 G' H σ (frzB i ρ) := by
  unfold frzB
  split
  · rename_i ds e
    obtain ⟨p, vs, h1, h2, h3, h4, h5⟩ := g.addr e
    have sG : Same G (upd G p (.lst vs)) := Same.new h3
    have st : Step G0 H0 (upd G p (.lst vs)) H := by
      refine ⟨g.st.hh, g.st.gg.trans sG, fun b o q => ?_, fun b hb => ?_⟩
      · by_cases z : b = p
        · subst z; rw [upd_same] at q; rw [h2]; exact q
        · rw [upd_ne z] at q; exact g.st.sub b o q
      · rw [upd_ne (fun z : b = p => hb (by rw [z]; exact h4))]; exact g.st.new b hb
    have vals : Paired (RB K H0 (upd G p (.lst vs)) H) σ (ρ.set i (.fz (.lst ds))) := by
      have key : ∀ (l : List (Option V)) (r : List B) (n : Nat), Paired (RB K H0 G H) l r → (∀ j es, n + j ≠ i → r[j]? = some (.ow es) → l[j]? ≠ some (some (.ref p))) → (∀ j, n + j = i → l[j]? = some (some (.ref p))) →
          Paired (RB K H0 (upd G p (.lst vs)) H) l (if i < n then r else r.set (i - n) (.fz (.lst ds))) := by
        intro l r n q
        induction q generalizing n with
        | nil => intro _ _; split <;> exact .nil
        | @cons o b l' r' q t ih =>
          intro hne hat
          have tl := ih (n + 1) (fun j es z e => by have := hne (j + 1) es (by omega) (by simpa using e); simpa using this) (fun j z => by have := hat (j + 1) (by omega); simpa using this)
          have keepq : (∀ es, b = .ow es → o ≠ some (.ref p)) → RB K H0 (upd G p (.lst vs)) H o b := fun hb => by
            cases q with
            | no => exact .no
            | fz r => exact .fz (r.mono sG)
            | @ow c vs' ds' c1 c2 c3 c4 =>
              have : c ≠ p := fun z => hb _ rfl (by rw [z])
              exact .ow c1 (by rw [upd_ne this]; exact c2) c3 (c4.mono sG)
          by_cases h1 : i < n
          · rw [if_pos h1]
            rw [if_pos (by omega)] at tl
            exact .cons (keepq fun es e z => hne 0 es (by omega) (by simp [e]) (by simp [z])) tl
          · rw [if_neg h1]
            by_cases h2 : i = n
            · subst h2
              rw [if_pos (by omega)] at tl
              have := hat 0 (by omega)
              simp at this
              subst this
              rw [Nat.sub_self]
              exact .cons (.fz (rep_lst.mpr ⟨p, vs, rfl, .of upd_same, h5.mono sG⟩)) tl
            · rw [if_neg (by omega)] at tl
              have e : i - n = (i - (n + 1)) + 1 := by omega
              rw [e]
              exact .cons (keepq fun es e z => hne 0 es (by omega) (by simp [e]) (by simp [z])) tl
      have v := key σ ρ 0 g.vals (fun j es' z e' w => by have := g.apart j i p es' ds e' e w h1; omega) (fun j z => by rw [show j = i by omega]; exact h1)
      rw [if_neg (Nat.not_lt_zero _), Nat.sub_zero] at v
      exact v
    refine ⟨_, sG, st, vals, fun j k b d1 d2 e1 e2 e3 e4 => ?_⟩
    obtain ⟨_, f1⟩ := getElem?_set_fz e1
    obtain ⟨_, f2⟩ := getElem?_set_fz e2
    exact g.apart j k b d1 d2 f1 f2 e3 e4
  · exact ⟨G, Same.refl _, g⟩
theorem ps_frz (i : Nat) (h : PFS X st f) : PFS X st (sFrz i f) := by
  refine PS.to h ?_
  rintro D σ H ⟨G0, H0, G, ρ, o, good, hf, k⟩
  obtain ⟨G', s, g'⟩ := good.frz i
  exact ⟨G0, H0, G', _, o, g', hf, k.mono s⟩
end
end L2

namespace L2
open PySem PySem.Spec PyProof.Rows

/-! ### what a loop walks: an iterator that yields trees -/
def Yields (K : PySem.W.Frag) (J : It) (G : Hp) (ds : List D) : Prop := ∀ (i : Nat) (G2 H2 : Hp), Same G G2 → Same G2 H2 →
  (∀ d, ds[i]? = some d → J.go i H2 ∧ ∀ x H3, J.yld i H2 x H3 → ∃ G3, Step G2 H2 G3 H3 ∧ Rep K G3 d x) ∧ (ds.length ≤ i → J.stop i H2)
def tFI (K : PySem.W.Frag) (f : Lf) : TI := fun σ H R => ∃ G0 H0 G ρ ds, Good K G0 H0 G H σ ρ ∧ f ρ = some ds ∧ ∀ J H' G', Step G H G' H' → Yields K J G' ds → R J H'
def PFI (X : Cx) (tg iter : Expr) (f : Lf) : Prop := PI X tg iter (tFI X.K f)
theorem PI.to {X : Cx} {tg e : Expr} {t : TI} {f : Lf} (h : PI X tg e t) (imp : ∀ σ H R, tFI X.K f σ H R → t σ H R) : PFI X tg e f := fun pins s σ H R I q => h pins s σ H R I (imp σ H R q)
theorem yields_list {K : PySem.W.Frag} {G : Hp} {a : Addr} {vs : List V} {ds : List D} (h : SqL K G a vs) (r : Reps K G ds vs) (uq : ∀ H ys, SqL K H a ys → SqL K H a vs → ys = vs) : Yields K (Itl K a) G ds := by
  intro i G2 H2 s1 s2
  have q : SqL K H2 a vs := (s1.trans s2).seq h
  refine ⟨fun d hd => ?_, fun hi => ⟨vs, q, by rw [← r.length]; exact hi⟩⟩
  obtain ⟨v, e, rv⟩ := r.get hd
  refine ⟨⟨vs, v, q, e⟩, fun x H3 y => ?_⟩
  obtain ⟨rfl, y⟩ := y
  have := y vs q
  rw [e] at this; cases this
  exact ⟨G2, .refl s2, rv.mono s1⟩
theorem yields_list' {K : PySem.W.Frag} {G : Hp} {a : Addr} {vs : List V} {ds : List D} (h : SqL K G a vs) (r : Reps K G ds vs) : Yields K (Itl K a) G ds := by
  intro i G2 H2 s1 s2
  have q : SqL K H2 a vs := (s1.trans s2).seq h
  refine ⟨fun d hd => ?_, fun hi => ⟨vs, q, by rw [← r.length]; exact hi⟩⟩
  obtain ⟨v, e, rv⟩ := r.get hd
  refine ⟨⟨vs, v, q, e⟩, fun x H3 y => ?_⟩
  obtain ⟨rfl, y⟩ := y
  have := y vs q
  rw [e] at this; cases this
  exact ⟨G2, .refl s2, rv.mono s1⟩
theorem yields_tup {K : PySem.W.Frag} {G : Hp} {a : Addr} {vs : List V} {ds : List D} (h : SqT K G a vs) (r : Reps K G ds vs) : Yields K (Itt K a) G ds := by
  intro i G2 H2 s1 s2
  have q : SqT K H2 a vs := (s1.trans s2).tup h
  refine ⟨fun d hd => ?_, fun hi => ⟨vs, q, by rw [← r.length]; exact hi⟩⟩
  obtain ⟨v, e, rv⟩ := r.get hd
  refine ⟨⟨vs, v, q, e⟩, fun x H3 y => ?_⟩
  obtain ⟨rfl, y⟩ := y
  have := y vs q
  rw [e] at this; cases this
  exact ⟨G2, .refl s2, rv.mono s1⟩
def upto (lo : Int) (n : Nat) : List D := (List.range n).map fun i => D.int (lo + (i : Nat))
theorem yields_range {K : PySem.W.Frag} {G : Hp} {lo : Int} {n : Nat} : Yields K (Itr lo n) G (upto lo n) := by
  intro i G2 H2 s1 s2
  have hl : (upto lo n).length = n := by simp [upto]
  refine ⟨fun d hd => ?_, fun hi => by rw [hl] at hi; exact hi⟩
  have hi : i < n := by rw [← hl]; exact (List.getElem?_eq_some_iff.mp hd).1
  refine ⟨hi, fun x H3 y => ?_⟩
  obtain ⟨rfl, rfl⟩ := y
  have e : d = .int (lo + i) := by
    unfold upto at hd
    rw [List.getElem?_map, List.getElem?_range hi] at hd
    exact (Option.some.inj hd).symm
  subst e
  exact ⟨G2, .refl s2, rep_int.mpr rfl⟩
section
variable {X : Cx} {a b c e tg elt iter : Expr} {es ifs : List Expr} {fa fb : Ef} {ga gi : Lf} {ta tc : Tf} {pos : Pos} {st : Stmt} {sts rest : List Stmt} {f g : Sf}
/-- the items of a list -/
def iL (f : Ef) : Lf := fun ρ => (f ρ).bind fun d => match d with | .lst ds => some ds | _ => none
def iT (f : Ef) : Lf := fun ρ => (f ρ).bind fun d => match d with | .tup ds => some ds | _ => none
theorem pi_l (h : PF X e fa) : PFI X tg e (iL fa) := by
  refine PI.to (pi_list h) ?_
  rintro σ H R ⟨G0, H0, G, ρ, ds, good, hf, k⟩
  unfold iL at hf
  obtain ⟨d, h1, hf⟩ := Option.bind_eq_some_iff.mp hf
  cases d with
  | lst es =>
    cases hf
    refine ⟨G0, H0, G, ρ, _, good, h1, fun x H1 G1 s1 r1 => ?_⟩
    obtain ⟨p, vs, rfl, q, rs⟩ := rep_lst.mp r1
    exact ⟨p, rfl, ⟨vs, s1.sub.seq q⟩, k _ H1 G1 s1 (yields_list' q rs)⟩
  | _ => cases hf
theorem pi_lr (h : PFr X e ga) : PFI X tg e ga := by
  refine PI.to (pi_list h) ?_
  rintro σ H R ⟨G0, H0, G, ρ, ds, good, hf, k⟩
  refine ⟨G0, H0, G, ρ, _, good, hf, fun p vs H1 G1 s1 hn hp gp rs => ?_⟩
  exact ⟨p, rfl, ⟨vs, .of hp⟩, k _ H1 (upd G1 p (.lst vs)) (s1.frz hn hp gp) (yields_list' (.of upd_same) (rs.mono (Same.new gp)))⟩
theorem pi_t (h : PF X e fa) : PFI X tg e (iT fa) := by
  refine PI.to (pi_tup h) ?_
  rintro σ H R ⟨G0, H0, G, ρ, ds, good, hf, k⟩
  unfold iT at hf
  obtain ⟨d, h1, hf⟩ := Option.bind_eq_some_iff.mp hf
  cases d with
  | tup es =>
    cases hf
    refine ⟨G0, H0, G, ρ, _, good, h1, fun x H1 G1 s1 r1 => ?_⟩
    obtain ⟨p, vs, rfl, q, rs⟩ := rep_tup.mp r1
    exact ⟨p, rfl, ⟨vs, s1.sub.tup q⟩, k _ H1 G1 s1 (yields_tup q rs)⟩
  | _ => cases hf
def iR (f : Ef) : Lf := fun ρ => (f ρ).bind fun d => match d with | .int n => if decide (-1000000 ≤ n) && decide (n ≤ 1000000) then some (upto 0 n.toNat) else none | _ => none
theorem pi_r {p : Pos} (hg : Gl X "range") (hm : X.mg "range" = none) (h : PF X a fa) (hs : starEach [a] X.env = [(false, eval a X.env)] := by rfl) : PFI X tg (.Call (.Name "range" p) [a] [] pos) (iR fa) := by
  refine PI.to (pi_range1 hg hm (pa_cons h pa_nil (by rw [hs]; rfl)) hs) ?_
  rintro σ H R ⟨G0, H0, G, ρ, ds, good, hf, k⟩
  unfold iR at hf
  obtain ⟨d, h1, hf⟩ := Option.bind_eq_some_iff.mp hf
  cases d with
  | int n =>
    dsimp only at hf
    split at hf
    · rename_i hc
      cases hf
      simp only [Bool.and_eq_true, decide_eq_true_eq] at hc
      refine ⟨G0, H0, G, ρ, _, good, h1, fun x H1 G1 s1 r1 => ⟨n, by rw [rep_int.mp r1], by omega, by omega, k _ H1 G1 s1 yields_range⟩⟩
    · cases hf
  | _ => cases hf
def iR2 (f g : Ef) : Lf := fun ρ => (f ρ).bind fun x => (g ρ).bind fun y => match x, y with | .int m, .int n => if decide (-1000000 ≤ m) && decide (m ≤ 1000000) && decide (-1000000 ≤ n) && decide (n ≤ 1000000) then some (upto m (n - m).toNat) else none | _, _ => none
theorem pi_r2 {p : Pos} (hg : Gl X "range") (hm : X.mg "range" = none) (h : PF X a fa) (h' : PF X b fb) (hs : starEach [a, b] X.env = [(false, eval a X.env), (false, eval b X.env)] := by rfl) (hs2 : starEach [b] X.env = [(false, eval b X.env)] := by rfl) : PFI X tg (.Call (.Name "range" p) [a, b] [] pos) (iR2 fa fb) := by
  refine PI.to (pi_range2 hg hm (pa_cons h (pa_cons h' pa_nil (by rw [hs2]; rfl)) (by rw [hs, hs2])) hs hs2) ?_
  rintro σ H R ⟨G0, H0, G, ρ, ds, good, hf, k⟩
  unfold iR2 at hf
  obtain ⟨d, h1, hf⟩ := Option.bind_eq_some_iff.mp hf
  obtain ⟨d', h2, hf⟩ := Option.bind_eq_some_iff.mp hf
  cases d with
  | int m =>
    cases d' with
    | int n =>
      dsimp only at hf
      split at hf
      · rename_i hc
        cases hf
        simp only [Bool.and_eq_true, decide_eq_true_eq] at hc
        refine ⟨G0, H0, G, ρ, _, good, h1, fun x H1 G1 s1 r1 => ⟨G0, H0, G1, ρ, _, good.step s1, h2, fun y H2 G2 s2 r2 => ⟨m, n, by rw [rep_int.mp r1, rep_int.mp r2], ⟨by omega, by omega, by omega, by omega⟩, k _ H2 G2 (s1.trans s2) yields_range⟩⟩⟩
      · cases hf
    | _ => cases hf
  | _ => cases hf

/-! ### for -/
def forF (g : Gf) (body : Sf) : List D → Sf
  | [], ρ => some (.nx ρ)
  | d :: r, ρ => (g d ρ).bind fun ρ1 => (body ρ1).bind fun o => match o with
    | .nx ρ2 => forF g body r ρ2
    | .ct ρ2 => forF g body r ρ2
    | .bk ρ2 => some (.nx ρ2)
    | o => some o
def sFor (src : Lf) (g : Gf) (body : Sf) : Sf := fun ρ => (src ρ).bind fun ds => forF g body ds ρ
theorem ps_forF {gt : Gf} {body : List Stmt} {fb : Sf} (hp : PassesOwn (model X.prog X.w) X.A X.env X.xe) (hc : X.calm = true) (hi : PFI X tg iter gi) (hg : PFG X tg gt) (hb : PFSs X body fb) (hs : ∀ x, foldedSetIterable iter X.env x = pure x := by intro _; rfl) :
    PFS X (.For tg iter body [] pos) (sFor gi gt fb) := by
  refine PS.to (ps_for hp hc hi hg hb hs) ?_
  rintro D σ H ⟨G0, H0, G, ρ, o, good, hf, k⟩
  unfold sFor at hf
  obtain ⟨ds, h1, hf⟩ := Option.bind_eq_some_iff.mp hf
  refine ⟨G0, H0, G, ρ, ds, good, h1, fun J H1 G1 s1 y => ?_⟩
  refine ⟨fun i m σ H => m = ds.length - i ∧ i ≤ ds.length ∧ ∃ G2 ρ2, Same G1 G2 ∧ Good X.K G0 H0 G2 H σ ρ2 ∧ forF gt fb (ds.drop i) ρ2 = some o, ⟨ds.length, by simp, Nat.zero_le _, G1, ρ, Same.refl _, good.step s1, by simpa using hf⟩, ?_⟩
  rintro i m σ2 H2 ⟨rfl, hi', G2, ρ2, sg, good2, hf2⟩
  obtain ⟨y1, y2⟩ := y i G2 H2 sg good2.sub
  by_cases hlt : i < ds.length
  · obtain ⟨go, yl⟩ := y1 ds[i] (List.getElem?_eq_getElem hlt)
    rw [List.drop_eq_getElem_cons hlt] at hf2
    unfold forF at hf2
    obtain ⟨ρ3, e1, hf2⟩ := Option.bind_eq_some_iff.mp hf2
    obtain ⟨o1, e2, hf2⟩ := Option.bind_eq_some_iff.mp hf2
    refine .inr ⟨go, fun σ' H' => ∃ G' ρ', Same G1 G' ∧ Good X.K G0 H0 G' H' σ' ρ' ∧ forF gt fb (ds.drop (i + 1)) ρ' = some o, fun σ' H' ⟨G', ρ', a1, a2, a3⟩ => ⟨ds.length - (i + 1), by omega, rfl, hlt, G', ρ', a1, a2, a3⟩, fun x H3 yx => ?_⟩
    obtain ⟨G3, s3, r3⟩ := yl x H3 yx
    refine ⟨G0, H0, G3, ρ2, _, ρ3, good2.step s3, r3, e1, fun σ4 H4 G4 s4 good4 => ?_⟩
    have sg4 : Same G1 G4 := (sg.trans s3.gg).trans s4.gg
    refine ⟨G0, H0, G4, ρ3, o1, good4, e2, ?_⟩
    cases o1 with
    | nx ρ5 => exact fun σ5 H5 G5 s5 good5 => ⟨G5, ρ5, sg4.trans s5, good5, hf2⟩
    | ct ρ5 => exact fun σ5 H5 G5 s5 good5 => ⟨G5, ρ5, sg4.trans s5, good5, hf2⟩
    | bk ρ5 => cases hf2; exact fun σ5 H5 G5 s5 good5 => k σ5 H5 G5 ((s1.gg.trans sg4).trans s5) good5
    | rt d => cases hf2; exact k
    | rl d => cases hf2; exact k
  · have e : i = ds.length := by omega
    subst e
    rw [List.drop_length] at hf2
    cases hf2
    exact .inl ⟨y2 (Nat.le_refl _), k σ2 H2 G2 (s1.gg.trans sg) good2⟩

/-! ### comprehensions -/
def mapF (g : Gf) (t : Tf) (elt : Ef) : List D → List B → List D → Option (List D)
  | [], _, acc => some acc
  | d :: r, ρ, acc => (g d ρ).bind fun ρ1 => (t ρ1).bind fun c => if c = true then (elt ρ1).bind fun y => mapF g t elt r ρ1 (acc ++ [y]) else mapF g t elt r ρ1 acc
def upB (m : Nat) (js : List Nat) (ρ : List B) : List B := List.replicate m .no ++ js.map fun j => match ρ[j]? with | some (.fz d) => .fz d | _ => .no
def lComp (src : Lf) (m : Nat) (js : List Nat) (g : Gf) (t : Tf) (elt : Ef) : Lf := fun ρ => ((src ρ).bind okL).bind fun ds => mapF g t elt ds (upB m js ρ) []
theorem mapF_len {gt : Gf} {t : Tf} {el : Ef} : ∀ {ds : List D} {ρ : List B} {acc out : List D}, mapF gt t el ds ρ acc = some out → acc.length ≤ out.length
  | [], _, _, _, h => by cases h; exact Nat.le_refl _
  | d :: r, ρ, acc, out, h => by
    unfold mapF at h
    obtain ⟨ρ1, _, h⟩ := Option.bind_eq_some_iff.mp h
    obtain ⟨c, _, h⟩ := Option.bind_eq_some_iff.mp h
    split at h
    · obtain ⟨y, _, h⟩ := Option.bind_eq_some_iff.mp h
      have := mapF_len h
      rw [List.length_append, List.length_singleton] at this
      omega
    · exact mapF_len h
theorem Good.up {K : PySem.W.Frag} {G0 H0 G H : Hp} {σ : St} {ρ : List B} (g : Good K G0 H0 G H σ ρ) (m : Nat) (js : List Nat) : Good K G H G H (upC m js σ) (upB m js ρ) := by
  refine ⟨.refl g.sub, ?_, fun i j a ds es h1 => ?_⟩
  · unfold upC upB
    have rep : ∀ m : Nat, Paired (RB K H G H) (List.replicate m (none : Option V)) (List.replicate m B.no) := fun m => by
      induction m with
      | zero => exact .nil
      | succ n ih => rw [List.replicate_succ, List.replicate_succ]; exact .cons .no ih
    have app : ∀ {l1 l2 : List (Option V)} {r1 r2 : List B}, Paired (RB K H G H) l1 r1 → Paired (RB K H G H) l2 r2 → Paired (RB K H G H) (l1 ++ l2) (r1 ++ r2) := fun h1 h2 => by
      induction h1 with
      | nil => exact h2
      | cons q t ih => exact .cons q ih
    refine app (rep m) ?_
    induction js with
    | nil => exact .nil
    | cons j r ih =>
      rw [List.map_cons, List.map_cons]
      refine .cons ?_ ih
      cases e : ρ[j]? with
      | none => exact .no
      | some b =>
        obtain ⟨o, e1, r1⟩ := Paired.get g.vals e
        cases r1 with
        | no => exact .no
        | fz q => rw [e1]; exact .fz q
        | ow q1 q2 q3 q4 => exact .no
  · unfold upB at h1
    by_cases hi : i < m
    · rw [List.getElem?_append_left (by simpa using hi), List.getElem?_replicate] at h1
      split at h1 <;> cases h1
    · rw [List.getElem?_append_right (by simpa using hi), List.getElem?_map] at h1
      obtain ⟨k, _, h1⟩ := Option.map_eq_some_iff.mp h1
      split at h1 <;> cases h1
theorem upB_noow (m : Nat) (js : List Nat) (ρ : List B) : NoOw (upB m js ρ) := fun i es h1 => by
  unfold upB at h1
  by_cases hi : i < m
  · rw [List.getElem?_append_left (by simpa using hi), List.getElem?_replicate] at h1
    split at h1 <;> cases h1
  · rw [List.getElem?_append_right (by simpa using hi), List.getElem?_map] at h1
    obtain ⟨k, _, h1⟩ := Option.map_eq_some_iff.mp h1
    split at h1 <;> cases h1
/-- a thing is written that no name of the frame has -/
theorem Good.wrX {K : PySem.W.Frag} {G0 H0 G H : Hp} {σ : St} {ρ : List B} {p : Addr} {o : HO} (g : Good K G0 H0 G H σ ρ) (n : NoOw ρ) (gp : G p = none) (h0 : H0 p = none) : Good K G0 H0 G (upd H p o) σ ρ := by
  refine ⟨⟨fun b u e => ?_, g.st.gg, fun b u e => ?_, g.st.new⟩, ?_, g.apart⟩
  · rw [upd_ne (ne_of_none e h0)]; exact g.st.hh b u e
  · rw [upd_ne (ne_of_none e gp)]; exact g.st.sub b u e
  · have key : ∀ (l : List (Option V)) (r : List B), Paired (RB K H0 G H) l r → NoOw r → Paired (RB K H0 G (upd H p o)) l r := by
      intro l r q
      induction q with
      | nil => intro _; exact .nil
      | @cons x b l' r' q t ih =>
        intro n
        refine .cons ?_ (ih fun j es e => n (j + 1) es (by simpa using e))
        cases q with
        | no => exact .no
        | fz r => exact .fz r
        | ow _ _ _ _ => exact absurd rfl (n 0 _)
    exact key σ ρ g.vals n
theorem comp_imp {K : PySem.W.Frag} {m : Nat} {js : List Nat} {gt : Gf} {t : Tf} {el : Ef} (hgo : GfOk gt) {σ : St} {H : Hp} {Q : VK} (h : tFr K (lComp gi m js gt t el) σ H Q) : tComp (tFI K gi) m js (tFG K gt) (tFT K t) (tF K el) σ H Q := by
  obtain ⟨G0, H0, G, ρ, out, good, hf, k⟩ := h
  unfold lComp at hf
  obtain ⟨ds, h1, hf⟩ := Option.bind_eq_some_iff.mp hf
  obtain ⟨ds', h1, h1'⟩ := Option.bind_eq_some_iff.mp h1
  obtain ⟨rfl, hlen⟩ := okL_inv h1'
  refine ⟨G0, H0, G, ρ, _, good, h1, fun J H1 G1 s1 y D hD => ?_⟩
  have good1 := (good.step s1).up m js
  have hGD : G1 D = none := s1.sub.free hD
  refine ⟨fun i n σ2 H2 => n = ds.length - i ∧ i ≤ ds.length ∧ ∃ G2 ρ2 acc us, Same G1 G2 ∧ G2 D = none ∧ H2 D = some (.lst us) ∧ Reps K G2 acc us ∧ acc.length ≤ i ∧ NoOw ρ2 ∧ Good K G1 H1 G2 H2 σ2 ρ2 ∧ mapF gt t el (ds.drop i) ρ2 acc = some out,
    ⟨ds.length, by simp, Nat.zero_le _, G1, upB m js ρ, [], [], Same.refl _, hGD, upd_same, reps_nil.mpr rfl, Nat.le_refl _, upB_noow _ _ _, good1.step (Step.own s1.sub hD), by simpa using hf⟩, ?_⟩
  rintro i n σ2 H2 ⟨rfl, hi, G2, ρ2, acc, us, sg, gD, hD2, rs, hal, now, good2, hf2⟩
  obtain ⟨y1, y2⟩ := y i G2 H2 sg good2.sub
  by_cases hlt : i < ds.length
  · obtain ⟨go, yl⟩ := y1 ds[i] (List.getElem?_eq_getElem hlt)
    rw [List.drop_eq_getElem_cons hlt] at hf2
    unfold mapF at hf2
    obtain ⟨ρ3, e1, hf2⟩ := Option.bind_eq_some_iff.mp hf2
    obtain ⟨c, e2, hf2⟩ := Option.bind_eq_some_iff.mp hf2
    have now3 := hgo _ _ _ e1 now
    refine .inr ⟨go, fun x H3 yx => ?_⟩
    obtain ⟨G3, s3, r3⟩ := yl x H3 yx
    refine ⟨G1, H1, G3, ρ2, _, ρ3, good2.step s3, r3, e1, fun σ4 H4 G4 s4 good4 => ?_⟩
    refine ⟨G1, H1, G4, ρ3, c, good4, e2, fun H5 G5 s5 => ?_⟩
    have s35 := (s3.trans s4).trans s5
    have hne : H2 D ≠ none := by rw [hD2]; exact fun z => nomatch z
    split at hf2
    · rename_i hc
      show if c = true then _ else _
      rw [if_pos hc]
      obtain ⟨yd, e3, hf2⟩ := Option.bind_eq_some_iff.mp hf2
      refine ⟨G1, H1, G5, ρ3, yd, good4.step s5, e3, fun v H6 G6 s6 r6 => ?_⟩
      have s36 := s35.trans s6
      have hD6 : H6 D = some (.lst us) := s36.hh _ _ hD2
      have gD6 : G6 D = none := (s36.new D hne).trans gD
      refine ⟨us, ds.length - (i + 1), hD6, ?_, by omega, rfl, hlt, G6, ρ3, acc ++ [yd], us ++ [v], sg.trans s36.gg, gD6, upd_same, (rs.mono s36.gg).snoc r6, by rw [List.length_append, List.length_singleton]; omega, now3, ((good4.step s5).step s6).wrX now3 gD6 hD, hf2⟩
      rw [← rs.length]
      exact lim_ok (Nat.le_trans hal (Nat.le_trans hi hlen))
    · rename_i hc
      show if c = true then _ else _
      rw [if_neg hc]
      exact ⟨ds.length - (i + 1), by omega, rfl, hlt, G5, ρ3, acc, us, sg.trans s35.gg, (s35.new D hne).trans gD, s35.hh _ _ hD2, rs.mono s35.gg, by omega, now3, good4.step s5, hf2⟩
  · have e : i = ds.length := by omega
    subst e
    rw [List.drop_length] at hf2
    cases hf2
    exact .inl ⟨y2 (Nat.le_refl _), k D us H2 G2 (s1.trans good2.st) (s1.hh.free hD) hD2 gD rs⟩
/-- the tests of a clause -/
def tOK : Tf := fun _ => some true
def PFIfs (X : Cx) (ifs : List Expr) (t : Tf) : Prop := PIfs X ifs (tFT X.K t)
theorem pifs_nilF {X : Cx} : PFIfs X [] tOK := fun pins s σ H Q I h => pifs_nil pins s σ H Q I (by
  obtain ⟨G0, H0, G, ρ, b, good, hf, k⟩ := h
  cases hf
  exact k H G (.refl good.sub))
theorem pifs_oneF {X : Cx} {c : Expr} {t : Tf} (h : PFT X c t) : PFIfs X [c] t := pifs_one h
theorem pl_comp (sc : Scope) (N tgs frees : List Str) (js : List Nat) {scope : Scope} {gt : Gf} {t : Tf} {el : Ef} (hgo : GfOk gt) (hp : PFI X tg iter gi) (hc : X.calm = true) (hsc : X.env.scope = sc) (hNN : X.N = N) (hok : compOk sc scope N tgs frees js = true)
    (hg : ∀ C s₀ H₀ fp, PFG (compCx X (tgs ++ frees) scope C s₀ H₀ fp) tg gt) (hi : ∀ C s₀ H₀ fp, PFIfs (compCx X (tgs ++ frees) scope C s₀ H₀ fp) ifs t) (he : ∀ C s₀ H₀ fp, PF (compCx X (tgs ++ frees) scope C s₀ H₀ fp) elt el)
    (hs : ∀ x, foldedSetIterable iter X.env x = pure x := by intro _; rfl) :
    PFr X (.ListComp elt [⟨tg, iter, ifs, 0⟩] scope pos) (lComp gi tgs.length js gt t el) :=
  PE.toR (pe_comp (g := tFG X.K gt) (tc := tFT X.K t) (te := tF X.K el) sc tgs frees js hp hc hsc (by rw [hNN]; exact hok) hg hi he hs) fun σ H Q h => comp_imp hgo h
theorem ps_compOwn (sc : Scope) (N tgs frees : List Str) (js : List Nat) {scope : Scope} {gt : Gf} {t : Tf} {el : Ef} (hgo : GfOk gt) (i : Nat) {x : Str} {pos' spos : Pos} (hN : X.N.Nodup) (hx : X.N[i]? = some x) (hl : X.env.scope.names.lookup x = some .local) (hp : PFI X tg iter gi) (hc : X.calm = true) (hsc : X.env.scope = sc) (hNN : X.N = N) (hok : compOk sc scope N tgs frees js = true)
    (hg : ∀ C s₀ H₀ fp, PFG (compCx X (tgs ++ frees) scope C s₀ H₀ fp) tg gt) (hi : ∀ C s₀ H₀ fp, PFIfs (compCx X (tgs ++ frees) scope C s₀ H₀ fp) ifs t) (he : ∀ C s₀ H₀ fp, PF (compCx X (tgs ++ frees) scope C s₀ H₀ fp) elt el)
    (hsw : swapsWith (.ListComp elt [⟨tg, iter, ifs, 0⟩] scope pos) (some (.Name x pos')) spos.line X.env = pure true := by with_unfolding_all rfl) (hs : ∀ x, foldedSetIterable iter X.env x = pure x := by intro _; rfl) :
    PFS X (.Assign [.Name x pos'] (.ListComp elt [⟨tg, iter, ifs, 0⟩] scope pos) spos) (sOwn i (lComp gi tgs.length js gt t el)) :=
  PS.to (ps_setComp (g := tFG X.K gt) (tc := tFT X.K t) (te := tF X.K el) sc tgs frees js hN hx hl hp hc hsc (by rw [hNN]; exact hok) hg hi he hsw hs) fun D σ H h => sOwn_imp (fun _ _ _ q => comp_imp hgo q) h
end
end L2

namespace L2
open PySem PySem.Spec PyProof.Rows
section
variable {X : Cx} {a b c e tg elt iter : Expr} {es ifs : List Expr} {fa fb fc : Ef} {ga gi : Lf} {ta tc : Tf} {pos : Pos} {st : Stmt} {sts rest : List Stmt} {f g : Sf}

/-! ### one's own lists, written -/
def sApp (i : Nat) (f : Ef) : Sf := fun ρ => (f ρ).bind fun d => match ρ[i]? with | some (.ow ds) => if ds.length < lim then some (.nx (ρ.set i (.ow (ds ++ [d])))) else none | _ => none
/-- x.append(e) -/
theorem ps_app (i : Nat) (ht : PE X c (tBM X.K "list" rAppend (tVar i) (tCons (tF X.K fa) tNil))) (hs : swapsWith c none pos.line X.env = pure false := by rfl) : PFS X (.Expr c pos) (sApp i fa) := by
  refine PS.to (ps_expr ht hs) ?_
  rintro D σ H ⟨G0, H0, G, ρ, o, good, hf, k⟩
  unfold sApp at hf
  obtain ⟨d, h1, hf⟩ := Option.bind_eq_some_iff.mp hf
  split at hf
  · rename_i ds hi
    split at hf
    · rename_i hl
      cases hf
      obtain ⟨p, vs, e1, e2, e3, e4, e5⟩ := good.addr hi
      refine ⟨.ref p, e1, .inl ⟨rfl, vs, .of e2⟩, G0, H0, G, ρ, d, good, h1, fun v H1 G1 s1 r1 => ?_⟩
      have good1 := good.step s1
      obtain ⟨p', vs', f1, f2, f3, f4, f5⟩ := good1.addr hi
      rw [e1] at f1; cases f1
      exact ⟨p, vs', v, rfl, rfl, f2, by rw [← f5.length]; exact lim_ok (Nat.le_of_lt hl), k σ _ G1 s1.gg (good1.wr hi e1 (f5.snoc r1))⟩
    · cases hf
  · cases hf
def sPop (j i : Nat) (f : Ef) : Sf := fun ρ => (f ρ).bind fun d => match d, ρ[i]? with
  | .int n, some (.ow ds) => if ds.length ≤ lim then (ixN ds.length n).bind fun q => (ds[q]?).map fun x => .nx ((ρ.set i (.ow (ds.eraseIdx q))).set j (.fz x)) else none
  | _, _ => none
/-- y = x.pop(e) -/
theorem ps_popF (j i : Nat) {y : Str} {p4 : Pos} (hNd : X.N.Nodup) (ht : PE X c (tBM X.K "list" rPopAt (tVar i) (tCons (tF X.K fa) tNil))) (hj : X.N[j]? = some y := by rfl) (hjx : Loc X.env.scope y := by first | exact .inl rfl | exact .inr rfl)
    (hs : swapsWith c (some (.Name y p4)) pos.line X.env = pure false := by rfl) (hfn : X.fn y = true ∨ X.env.scope.names.lookup y = some .local := by first | exact .inl rfl | exact .inr rfl) :
    PFS X (.Assign [.Name y p4] c pos) (sPop j i fa) := by
  refine PS.to (ps_set hNd hj hjx ht hs hfn) ?_
  rintro D σ H ⟨G0, H0, G, ρ, o, good, hf, k⟩
  unfold sPop at hf
  obtain ⟨d, h1, hf⟩ := Option.bind_eq_some_iff.mp hf
  split at hf
  · rename_i n ds hi
    split at hf
    · rename_i hl
      obtain ⟨q, hq, hf⟩ := Option.bind_eq_some_iff.mp hf
      obtain ⟨x', hx, rfl⟩ := Option.map_eq_some_iff.mp hf
      obtain ⟨p, vs, e1, e2, e3, e4, e5⟩ := good.addr hi
      refine ⟨.ref p, e1, .inl ⟨rfl, vs, .of e2⟩, G0, H0, G, ρ, _, good, h1, fun v H1 G1 s1 r1 => ?_⟩
      have good1 := good.step s1
      obtain ⟨p', vs', f1, f2, f3, f4, f5⟩ := good1.addr hi
      rw [e1] at f1; cases f1
      obtain ⟨w, hw, rw'⟩ := f5.get hx
      have hlen := f5.length
      rw [hlen] at hq
      obtain ⟨q1, q2, q3, q4⟩ := ixN_seq hq
      have hb : vs'.length < 2 ^ 40 := by rw [← hlen]; exact Nat.lt_of_le_of_lt hl (by decide)
      refine ⟨p, vs', n, q, w, rfl, by rw [rep_int.mp r1], f2, by omega, by omega, q1, hw, ?_⟩
      exact k _ _ G1 s1.gg ((good1.wr hi e1 (f5.erase q)).setF j rw')
    · cases hf
  · cases hf
def sItem (i : Nat) (fi fv : Ef) : Sf := fun ρ => (fv ρ).bind fun d => (fi ρ).bind fun n => match n, ρ[i]? with
  | .int n, some (.ow ds) => if ds.length ≤ lim then (ixN ds.length n).map fun q => .nx (ρ.set i (.ow (ds.set q d))) else none
  | _, _ => none
/-- x[i] = e -/
theorem ps_item (i : Nat) {x : Str} {p1 p2 : Pos} (he : PF X e fa) (hb : PF X b fb) (hN : X.N[i]? = some x := by rfl) (hv : Vis X.env.scope x := by first | exact Or.inl rfl | exact Or.inr (Or.inl rfl) | exact Or.inr (Or.inr rfl)) (hd : (x == ("__debug__" : Str)) = false := by decide) (hcd : (x == ("__classdict__" : Str)) = false := by decide)
    (ha : ∀ v, assign (.Subscript (.Name x p1) b p2) X.env v = (do
      let ov ← holding [v] (eval (.Name x p1) X.env)
      let iv ← holding [v, ov] (eval b X.env)
      standAt p2
      holding [v, ov, iv] (setItem ov iv v)
      release [v, ov, iv] []) := by intro _; rfl)
    (hs : swapsWithSole [.Subscript (.Name x p1) b p2] e pos.line X.env = pure false := by rfl) (hw : swappedStores [.Subscript (.Name x p1) b p2] e X.env = pure none := by rfl)
    (h1 : (assignEach [.Subscript (.Name x p1) b p2] X.env).map (·.2) = [assign (.Subscript (.Name x p1) b p2) X.env] := by rfl) : PFS X (.Assign [.Subscript (.Name x p1) b p2] e pos) (sItem i fb fa) := by
  refine PS.to (ps_asg he (pg_sub (pe_var hN hv hd hcd) hb set_list ha) hs hw h1) ?_
  rintro D σ H ⟨G0, H0, G, ρ, o, good, hf, k⟩
  unfold sItem at hf
  obtain ⟨d, h1, hf⟩ := Option.bind_eq_some_iff.mp hf
  obtain ⟨n, h2, hf⟩ := Option.bind_eq_some_iff.mp hf
  split at hf
  · rename_i n ds hi
    split at hf
    · rename_i hl
      obtain ⟨q, hq, rfl⟩ := Option.map_eq_some_iff.mp hf
      refine ⟨G0, H0, G, ρ, d, good, h1, fun v H1 G1 s1 r1 => ?_⟩
      have good1 := good.step s1
      obtain ⟨p, vs, e1, e2, e3, e4, e5⟩ := good1.addr hi
      refine ⟨.ref p, e1, G0, H0, G1, ρ, _, good1, h2, fun u H2 G2 s2 r2 => ?_⟩
      have good2 := good1.step s2
      obtain ⟨p', vs', f1, f2, f3, f4, f5⟩ := good2.addr hi
      rw [e1] at f1; cases f1
      refine ⟨p, vs', n, q, rfl, rep_int.mp r2, f2, by rw [← f5.length]; exact hq, ?_⟩
      exact k _ _ G2 (s1.gg.trans s2.gg) (good2.wr hi e1 (f5.set q (r1.mono s2.gg)))
    · cases hf
  · cases hf

/-! ### len -/
def lenD : D → Option D
  | .tup ds => some (.int ds.length)
  | .lst ds => some (.int ds.length)
  | .str z => if z.length ≤ lim then some (.int z.length) else none
  | _ => none
def eLen (f : Ef) : Ef := fun ρ => (f ρ).bind lenD
theorem pf_len {p : Pos} (hg : Gl X "len") (hm : X.mg "len" = none) (h : PF X a fa) (hs : starEach [a] X.env = [(false, eval a X.env)] := by rfl) : PF X (.Call (.Name "len" p) [a] [] pos) (eLen fa) := by
  refine PE.to (pe_callB (call_len_seq.or call_len_str) hg hm PySem.boot_len (pa_cons h pa_nil (by rw [hs]; rfl)) (by decide) (by decide) (by rw [hs]; rfl) (by rfl)) ?_
  rintro σ H Q ⟨G0, H0, G, ρ, d, good, hf, k⟩
  unfold eLen at hf
  obtain ⟨x, h1, hf⟩ := Option.bind_eq_some_iff.mp hf
  refine ⟨G0, H0, G, ρ, _, good, h1, fun v H1 G1 s1 r1 => ?_⟩
  unfold lenD at hf
  split at hf
  · cases hf
    obtain ⟨p, vs, rfl, q, rs⟩ := rep_tup.mp r1
    exact .inl ⟨p, vs, rfl, .inr (s1.sub.tup q), k _ _ G1 s1 (rep_int.mpr (by rw [rs.length]))⟩
  · cases hf
    obtain ⟨p, vs, rfl, q, rs⟩ := rep_lst.mp r1
    exact .inl ⟨p, vs, rfl, .inl (s1.sub.seq q), k _ _ G1 s1 (rep_int.mpr (by rw [rs.length]))⟩
  · split at hf
    · rename_i hz
      cases hf
      exact .inr ⟨_, by rw [rep_str.mp r1], Nat.le_of_lt (lim_ok hz), k _ _ G1 s1 (rep_int.mpr rfl)⟩
    · cases hf
  · cases hf
/-- len(x), x one's own list -/
def eLenO (i : Nat) : Ef := fun ρ => match ρ[i]? with | some (.ow ds) => some (.int ds.length) | _ => none
theorem pf_lenO (i : Nat) {x : Str} {p p1 : Pos} (hg : Gl X "len") (hm : X.mg "len" = none) (hN : X.N[i]? = some x := by rfl) (hv : Vis X.env.scope x := by first | exact Or.inl rfl | exact Or.inr (Or.inl rfl) | exact Or.inr (Or.inr rfl)) (hd : (x == ("__debug__" : Str)) = false := by decide) (hcd : (x == ("__classdict__" : Str)) = false := by decide) : PF X (.Call (.Name "len" p) [.Name x p1] [] pos) (eLenO i) := by
  refine PE.to (pe_callB call_len_seq hg hm PySem.boot_len (pa_cons (pe_var hN hv hd hcd) pa_nil)) ?_
  rintro σ H Q ⟨G0, H0, G, ρ, d, good, hf, k⟩
  unfold eLenO at hf
  split at hf
  · rename_i ds hi
    cases hf
    obtain ⟨q, vs, e1, e2, e3, e4, e5⟩ := good.addr hi
    exact ⟨.ref q, e1, q, vs, rfl, .inl (.of e2), k _ _ G (.refl good.sub) (rep_int.mpr (by rw [e5.length]))⟩
  · cases hf

/-! ### tuple(x), list(x) -/
def tupD : D → Option D | .lst ds => some (.tup ds) | .tup ds => some (.tup ds) | _ => none
def eTupOf (f : Ef) : Ef := fun ρ => (f ρ).bind tupD
theorem pf_tupOf {p : Pos} (hg : Gl X "tuple") (hm : X.mg "tuple" = none) (h : PF X a fa) (hs : starEach [a] X.env = [(false, eval a X.env)] := by rfl) : PF X (.Call (.Name "tuple" p) [a] [] pos) (eTupOf fa) := by
  refine PE.to (pe_callTy call_tuple_of hg hm (by rfl) (pa_cons h pa_nil (by rw [hs]; rfl)) (by decide) (by decide) (by rw [hs]; rfl) (by rfl)) ?_
  rintro σ H Q ⟨G0, H0, G, ρ, d, good, hf, k⟩
  unfold eTupOf at hf
  obtain ⟨x, h1, hf⟩ := Option.bind_eq_some_iff.mp hf
  refine ⟨G0, H0, G, ρ, _, good, h1, fun v H1 G1 s1 r1 => ?_⟩
  unfold tupD at hf
  split at hf
  · cases hf
    obtain ⟨p, vs, rfl, q, rs⟩ := rep_lst.mp r1
    refine ⟨p, vs, rfl, .inl ⟨s1.sub.seq q, fun l hl => ?_⟩⟩
    have s2 := Step.laid (o := .tup vs) s1.sub hl
    exact k _ _ _ (s1.trans s2) (rep_tup.mpr ⟨l, vs, rfl, .of upd_same, rs.mono s2.gg⟩)
  · cases hf
    obtain ⟨p, vs, rfl, q, rs⟩ := rep_tup.mp r1
    exact ⟨p, vs, rfl, .inr ⟨s1.sub.tup q, k _ _ G1 s1 r1⟩⟩
  · cases hf
def itemsD : D → Option (List D) | .lst ds => some ds | .tup ds => some ds | _ => none
def lListOf (f : Ef) : Lf := fun ρ => (f ρ).bind itemsD
theorem pl_listOf {p : Pos} (hg : Gl X "list") (hm : X.mg "list" = none) (h : PF X a fa) (hs : starEach [a] X.env = [(false, eval a X.env)] := by rfl) : PFr X (.Call (.Name "list" p) [a] [] pos) (lListOf fa) := by
  refine PE.toR (pe_callTy call_list_of hg hm (by rfl) (pa_cons h pa_nil (by rw [hs]; rfl)) (by decide) (by decide) (by rw [hs]; rfl) (by rfl)) ?_
  rintro σ H Q ⟨G0, H0, G, ρ, d, good, hf, k⟩
  unfold lListOf at hf
  obtain ⟨x, h1, hf⟩ := Option.bind_eq_some_iff.mp hf
  refine ⟨G0, H0, G, ρ, _, good, h1, fun v H1 G1 s1 r1 => ?_⟩
  unfold itemsD at hf
  split at hf
  · cases hf
    obtain ⟨p, vs, rfl, q, rs⟩ := rep_lst.mp r1
    exact ⟨p, vs, rfl, .inl (s1.sub.seq q), fun l hl => k l vs _ G1 (s1.trans (Step.own s1.sub hl)) (s1.hh.free hl) upd_same (s1.sub.free hl) rs⟩
  · cases hf
    obtain ⟨p, vs, rfl, q, rs⟩ := rep_tup.mp r1
    exact ⟨p, vs, rfl, .inr (s1.sub.tup q), fun l hl => k l vs _ G1 (s1.trans (Step.own s1.sub hl)) (s1.hh.free hl) upd_same (s1.sub.free hl) rs⟩
  · cases hf
/-! list(range(n)) -/
theorem call_rangeV : CallR X (.type "range") (fun xs H Q => ∃ j, xs = [.int j] ∧ ∀ p, H p = none → Q (.ref p) (upd H p (.rng 0 j))) := by
  intro pins s σ H xs us Q I r h
  obtain ⟨j, rfl, q⟩ := h
  obtain ⟨u, rfl, ru⟩ := vals1 r
  obtain ⟨t, rfl⟩ := ru
  refine call_range_1 ⟨.ref s.heap.objs.size, _, I.laid (o := .rng 0 j) (fun b o e => Heap.get?_push_of_some _ e) (Nat.le_refl _) ?_, rfl, q _ I.fresh⟩
  exact ⟨_, _, _, Heap.get?_push_size _ rfl⟩
theorem call_listRange (hc : X.calm = true) : CallR X (.type "list") (fun xs H Q => ∃ p j, xs = [.ref p] ∧ H p = some (.rng 0 j) ∧ -1000000 ≤ j ∧ j ≤ 100000 ∧ ∀ l, H l = none → Q (.ref l) (upd H l (.lst ((List.range j.toNat).map fun (i : Nat) => V.int (0 + (i : Nat)))))) := by
  intro pins s σ H xs us Q I r h
  obtain ⟨p, j, rfl, hp, h1, h2, q⟩ := h
  obtain ⟨u, rfl, ru⟩ := vals1 r
  cases ru
  obtain ⟨t, u', v, e⟩ := (show ObjOk X.prog X.w H s.heap p (.rng 0 j) from I.hok p _ hp)
  have hsz : Builtin.Range.rangeSize 0 j 1 = (j.toNat : Nat) := by rw [rangeSize_one]; split <;> omega
  refine call_list_range (n := j.toNat) (I.ok.hd hc) (show IsRange s.heap p 0 j 1 t u' v from e) (small_one (by omega) (by omega) (by omega) (by omega)) hsz (by omega) fun h' tk acc' c' hk hS hit => ?_
  have hvals : Vals ((List.range j.toNat).map fun (i : Nat) => V.int (0 + (i : Nat))) acc'.toList := by
    have hl : acc'.toList.length = j.toNat := by simpa using hit.1
    have gen : ∀ (l : List Value) (k : Nat), (∀ i v, l[i]? = some v → ∃ t, v = Value.int (0 + ((k + i : Nat) : Int)) t) → Vals ((List.range' k l.length).map fun (i : Nat) => V.int (0 + (i : Nat))) l := by
      intro l
      induction l with
      | nil => intro k _; exact .nil
      | cons y r ih =>
        intro k hh
        rw [List.length_cons, List.range'_succ, List.map_cons]
        refine .cons ?_ (ih (k + 1) fun i v e => ?_)
        · obtain ⟨t, e⟩ := hh 0 y rfl
          exact ⟨t, by simpa using e⟩
        · obtain ⟨t, e'⟩ := hh (i + 1) v (by simpa using e)
          exact ⟨t, by rw [e', show k + (i + 1) = k + 1 + i by omega]⟩
    have := gen acc'.toList 0 fun i v e => by
      obtain ⟨t, e'⟩ := hit.2 i v (by simpa using e)
      exact ⟨t, by rw [e']; simp⟩
    rw [hl, ← List.range_eq_range'] at this
    exact this
  refine ⟨.ref s.heap.objs.size, _, I.laid (t' := tk) (o := .lst _) hk (Nat.le_refl _) ?_, rfl, q _ I.fresh⟩
  exact ⟨by rw [List.length_map, List.length_range]; exact Nat.le_of_lt (lim_ok (by show j.toNat ≤ 100000; omega)), acc'.toList, c', hvals, by simpa using hS⟩
def lRange (f : Ef) : Lf := fun ρ => (f ρ).bind fun d => match d with | .int n => if decide (-1000000 ≤ n) && decide (n ≤ 100000) then some (upto 0 n.toNat) else none | _ => none
theorem reps_upto {K : PySem.W.Frag} {G : Hp} (n : Nat) : Reps K G (upto 0 n) ((List.range n).map fun (i : Nat) => V.int (0 + (i : Nat))) := by
  unfold upto
  induction (List.range n) with
  | nil => exact reps_nil.mpr rfl
  | cons x r ih => exact reps_cons.mpr ⟨_, _, rfl, rep_int.mpr rfl, ih⟩
theorem pl_range {p p1 p2 : Pos} (hc : X.calm = true) (hg : Gl X "list") (hm : X.mg "list" = none) (hg' : Gl X "range") (hm' : X.mg "range" = none) (h : PF X a fa) (hs : starEach [a] X.env = [(false, eval a X.env)] := by rfl)
    (hs2 : starEach [.Call (.Name "range" p1) [a] [] p2] X.env = [(false, eval (.Call (.Name "range" p1) [a] [] p2) X.env)] := by rfl) :
    PFr X (.Call (.Name "list" p) [.Call (.Name "range" p1) [a] [] p2] [] pos) (lRange fa) := by
  refine PE.toR (pe_callTy (call_listRange hc) hg hm (by rfl) (pa_cons (pe_callTy call_rangeV hg' hm' (by rfl) (pa_cons h pa_nil (by rw [hs]; rfl)) (by decide) (by decide) (by rw [hs]; rfl) (by rfl)) pa_nil (by rw [hs2]; rfl)) (by decide) (by decide) (by rw [hs2]; rfl) (by rfl)) ?_
  rintro σ H Q ⟨G0, H0, G, ρ, ds, good, hf, k⟩
  unfold lRange at hf
  obtain ⟨d, h1, hf⟩ := Option.bind_eq_some_iff.mp hf
  cases d with
  | int n =>
    dsimp only at hf
    split at hf
    · rename_i hc
      cases hf
      simp only [Bool.and_eq_true, decide_eq_true_eq] at hc
      refine ⟨G0, H0, G, ρ, _, good, h1, fun x H1 G1 s1 r1 => ⟨n, by rw [rep_int.mp r1], fun p hp => ⟨p, n, rfl, upd_same, hc.1, hc.2, fun l hl => ?_⟩⟩⟩
      have s2 : Step G1 H1 G1 (upd H1 p (.rng 0 n)) := Step.own s1.sub hp
      have s3 := Step.own (o := .lst ((List.range n.toNat).map fun (i : Nat) => V.int (0 + (i : Nat)))) s2.sub hl
      exact k l _ _ G1 ((s1.trans s2).trans s3) ((s1.trans s2).hh.free hl) upd_same (s2.sub.free hl) (reps_upto _)
    · cases hf
  | _ => cases hf
end
end L2

namespace L2
open PySem PySem.Spec PyProof.Rows

/-! ### what a def is worth -/
def spF (K : PySem.W.Frag) (n : Nat) (f : List D → Option D) : Sp := fun vs H Q _ => ∃ G ds d, Same G H ∧ Reps K G ds vs ∧ ds.length = n ∧ f ds = some d ∧ ∀ v H' G', Step G H G' H' → Rep K G' d v → Q v H'
def spL (K : PySem.W.Frag) (n : Nat) (f : List D → Option (List D)) : Sp := fun vs H Q _ => ∃ G ds es, Same G H ∧ Reps K G ds vs ∧ ds.length = n ∧ f ds = some es ∧ ∀ a us H' G', Step G H G' H' → H a = none → H' a = some (.lst us) → G' a = none → Reps K G' es us → Q (.ref a) H'
def startB (N : Nat) (ds : List D) : List B := ds.map .fz ++ List.replicate (N - ds.length) .no
def outD : Out → Option D
  | .nx _ => some .non
  | .rt d => some d
  | .rl ds => some (.lst ds)
  | _ => none
def outL : Out → Option (List D)
  | .rl ds => some ds
  | _ => none
def fnF (N : Nat) (body : Sf) (ds : List D) : Option D := (body (startB N ds)).bind outD
def fnL (N : Nat) (body : Sf) (ds : List D) : Option (List D) := (body (startB N ds)).bind outL
theorem good_start {K : PySem.W.Frag} {G H : Hp} {N : List Str} {ds : List D} {vs : List V} (s : Same G H) (r : Reps K G ds vs) : Good K G H G H (start N vs) (startB N.length ds) := by
  refine ⟨.refl s, ?_, fun i j a es es' h1 => ?_⟩
  · unfold start startB
    rw [r.length]
    have rep : ∀ m : Nat, Paired (RB K H G H) (List.replicate m (none : Option V)) (List.replicate m B.no) := fun m => by
      induction m with
      | zero => exact .nil
      | succ n ih => rw [List.replicate_succ, List.replicate_succ]; exact .cons .no ih
    have key : ∀ (ds : List D) (vs : List V) (l : List (Option V)) (q : List B), Reps K G ds vs → Paired (RB K H G H) l q → Paired (RB K H G H) (vs.map some ++ l) (ds.map .fz ++ q) := by
      intro ds
      induction ds with
      | nil => intro vs l q h p; rw [reps_nil] at h; subst h; exact p
      | cons d r ih =>
        intro vs l q h p
        obtain ⟨v, vr, rfl, h1, h2⟩ := reps_cons.mp h
        exact .cons (.fz h1) (ih vr l q h2 p)
    exact key ds vs _ _ r (rep _)
  · unfold startB at h1
    by_cases hi : i < ds.length
    · rw [List.getElem?_append_left (by simpa using hi), List.getElem?_map] at h1
      obtain ⟨k, _, h1⟩ := Option.map_eq_some_iff.mp h1
      cases h1
    · rw [List.getElem?_append_right (by simpa using hi), List.getElem?_replicate] at h1
      split at h1 <;> cases h1
section
variable {P : Program} {w : World} {K : PySem.W.Frag} {mg : Str → Option Value} {base : Heap} {x qual : Str} {st : Stmt} {f : Addr} {fd : FuncData} {N ps : List Str} {k : Nat}
theorem ok_fn {body : Sf} (F : Fun K x qual st f fd) (S : FnScope N ps (defScope st))
    (hb : ∀ (cdv : Value) (A : Around) (outer : List Env) (s : Shared) (H : Hp) (E : XK), Room k (A.deeper (envOfC qual (defScope st) s.heap.objs.size f cdv)) → PFSs (cxOf CX0 P w K mg base N qual (defScope st) f cdv A outer s H E).nox (defBody st) body) :
    FnOk P w K mg base CX0 (k + 1) f fd ps (spF K ps.length (fnF N.length body)) := by
  refine F.ok S (fun vs H Q E h => ?_) (fun cdv A outer s H vs Q E hr h => ⟨_, hb cdv A outer s H E hr, ?_⟩)
  · obtain ⟨G, ds, d, sub, rs, hl, _⟩ := h
    rw [← rs.length]; exact hl
  · obtain ⟨G, ds, d, sub, rs, hl, hf, k⟩ := h
    unfold fnF at hf
    obtain ⟨o, h1, h2⟩ := Option.bind_eq_some_iff.mp hf
    refine ⟨G, H, G, _, o, good_start sub rs, h1, ?_⟩
    cases o with
    | nx ρ => cases h2; exact fun σ' H' G' s' g' => k .non H' G' g'.st (rep_non.mpr rfl)
    | rt e => cases h2; exact fun v H' G' s' r => k v H' G' s' r
    | rl es => cases h2; exact fun p us H' G' s' hn hp gp r => k _ H' (upd G' p (.lst us)) (s'.frz hn hp gp) (rep_lst.mpr ⟨p, us, rfl, .of upd_same, r.mono (Same.new gp)⟩)
    | bk ρ => cases h2
    | ct ρ => cases h2
theorem ok_fnL {body : Sf} (F : Fun K x qual st f fd) (S : FnScope N ps (defScope st))
    (hb : ∀ (cdv : Value) (A : Around) (outer : List Env) (s : Shared) (H : Hp) (E : XK), Room k (A.deeper (envOfC qual (defScope st) s.heap.objs.size f cdv)) → PFSs (cxOf CX0 P w K mg base N qual (defScope st) f cdv A outer s H E).nox (defBody st) body) :
    FnOk P w K mg base CX0 (k + 1) f fd ps (spL K ps.length (fnL N.length body)) := by
  refine F.ok S (fun vs H Q E h => ?_) (fun cdv A outer s H vs Q E hr h => ⟨_, hb cdv A outer s H E hr, ?_⟩)
  · obtain ⟨G, ds, d, sub, rs, hl, _⟩ := h
    rw [← rs.length]; exact hl
  · obtain ⟨G, ds, d, sub, rs, hl, hf, k⟩ := h
    unfold fnL at hf
    obtain ⟨o, h1, h2⟩ := Option.bind_eq_some_iff.mp hf
    refine ⟨G, H, G, _, o, good_start sub rs, h1, ?_⟩
    cases o with
    | rl es => cases h2; exact fun p us H' G' s' hn hp gp r => k p us H' G' s' hn hp gp r
    | _ => cases h2
theorem fn_never {CX : CXT} {n : Nat} : FnOk P w K mg base CX k f fd ps (spF K n fun _ => none) :=
  ⟨fun vs H Q E h => (by obtain ⟨_, _, _, _, _, _, z, _⟩ := h; exact nomatch z), fun A outer s H args us vs Q E _ _ _ _ h => (by obtain ⟨_, _, _, _, _, _, z, _⟩ := h; exact nomatch z)⟩
/-- less is promised -/
theorem FnOk.le {CX : CXT} {n : Nat} {g h : List D → Option D} (F : FnOk P w K mg base CX k f fd ps (spF K n h)) (le : ∀ ds d, ds.length = n → g ds = some d → h ds = some d) : FnOk P w K mg base CX k f fd ps (spF K n g) :=
  F.imp fun vs H Q E ⟨G, ds, d, a1, a2, a3, a4, a5⟩ => ⟨G, ds, d, a1, a2, a3, le ds d a3 a4, a5⟩
end

section
variable {X : Cx} {a b c e tg elt iter : Expr} {es ifs : List Expr} {fa fb fc : Ef} {ga gi : Lf} {ta tc : Tf} {pos p : Pos} {st : Stmt} {sts rest : List Stmt} {f g : Sf}
/-! ### calls -/
def eCall (n : Nat) (f : List D → Option D) (g : Lf) : Ef := fun ρ => (g ρ).bind fun ds => if ds.length = n then f ds else none
theorem pf_call {k n : Nat} {fad : Addr} {fd : FuncData} {ps : List Str} {x : Str} {fD : List D → Option D} (F : FnOk X.prog X.w X.K X.mg X.base CX0 k fad fd ps (spF X.K n fD)) (hr : Room k X.A) (hm : X.mg x = some (.ref fad)) (hk : PySem.W.keepIn X.K (.ref fad) = true) (hb : Binds X.K fd ps []) (hg : Gl X x)
    (ha : PFA X (e :: es) ga) (hdb : (x == ("__debug__" : Str)) = false := by decide) (he : starEach (e :: es) X.env = (false, eval e X.env) :: starEach es X.env := by rfl) (hpl : (backTo pos (starEach es X.env)).any (·.1) = false := by rfl) :
    PF X (.Call (.Name x p) (e :: es) [] pos) (eCall n fD ga) := by
  refine PE.to (pe_call (E := E0) F hr hg hm hk hb .nil pass0 ha hdb he hpl) ?_
  rintro σ H Q ⟨G0, H0, G, ρ, d, good, hf, k⟩
  unfold eCall at hf
  obtain ⟨ds, h1, hf⟩ := Option.bind_eq_some_iff.mp hf
  split at hf
  · rename_i hl
    refine ⟨G0, H0, G, ρ, _, good, h1, fun vs H1 G1 s1 r1 => ?_⟩
    show spF X.K n fD (vs ++ []) H1 Q E0
    rw [List.append_nil]
    exact ⟨G1, ds, d, s1.sub, r1, hl, hf, fun v H' G' s r => k v H' G' (s1.trans s) r⟩
  · cases hf
def lCall (n : Nat) (f : List D → Option (List D)) (g : Lf) : Lf := fun ρ => (g ρ).bind fun ds => if ds.length = n then f ds else none
theorem pl_call {k n : Nat} {fad : Addr} {fd : FuncData} {ps : List Str} {x : Str} {fD : List D → Option (List D)} (F : FnOk X.prog X.w X.K X.mg X.base CX0 k fad fd ps (spL X.K n fD)) (hr : Room k X.A) (hm : X.mg x = some (.ref fad)) (hk : PySem.W.keepIn X.K (.ref fad) = true) (hb : Binds X.K fd ps []) (hg : Gl X x)
    (ha : PFA X (e :: es) ga) (hdb : (x == ("__debug__" : Str)) = false := by decide) (he : starEach (e :: es) X.env = (false, eval e X.env) :: starEach es X.env := by rfl) (hpl : (backTo pos (starEach es X.env)).any (·.1) = false := by rfl) :
    PFr X (.Call (.Name x p) (e :: es) [] pos) (lCall n fD ga) := by
  refine PE.toR (pe_call (E := E0) F hr hg hm hk hb .nil pass0 ha hdb he hpl) ?_
  rintro σ H Q ⟨G0, H0, G, ρ, d, good, hf, k⟩
  unfold lCall at hf
  obtain ⟨ds, h1, hf⟩ := Option.bind_eq_some_iff.mp hf
  split at hf
  · rename_i hl
    refine ⟨G0, H0, G, ρ, _, good, h1, fun vs H1 G1 s1 r1 => ?_⟩
    show spL X.K n fD (vs ++ []) H1 Q E0
    rw [List.append_nil]
    exact ⟨G1, ds, d, s1.sub, r1, hl, hf, fun p us H' G' s hn hp gp r => k p us H' G' (s1.trans s) (s1.hh.free hn) hp gp r⟩
  · cases hf
/-! ### while, some turns -/
def whileF (t : Tf) (body : Sf) : Nat → Sf
  | 0, _ => none
  | n + 1, ρ => (t ρ).bind fun c => if c = true then (body ρ).bind fun o => match o with
      | .nx ρ2 => whileF t body n ρ2
      | .ct ρ2 => whileF t body n ρ2
      | .bk ρ2 => some (.nx ρ2)
      | o => some o
    else some (.nx ρ)
theorem ps_whileF (n : Nat) {body : List Stmt} {fb : Sf} (hp : PassesOwn (model X.prog X.w) X.A X.env X.xe) (hc : PFT X c tc) (hb : PFSs X body fb) : PFS X (.While c body [] pos) (whileF tc fb n) := by
  refine PS.to (ps_while hp hc hb) ?_
  rintro D σ H ⟨G0, H0, G, ρ, o, good, hf, k⟩
  refine ⟨fun m σ H => ∃ G2 ρ2, Same G G2 ∧ Good X.K G0 H0 G2 H σ ρ2 ∧ whileF tc fb m ρ2 = some o, ⟨n, G, ρ, Same.refl _, good, hf⟩, ?_⟩
  rintro m σ2 H2 ⟨G2, ρ2, sg, good2, hf2⟩
  cases m with
  | zero => cases hf2
  | succ m =>
    unfold whileF at hf2
    obtain ⟨c', h1, hf2⟩ := Option.bind_eq_some_iff.mp hf2
    refine ⟨G0, H0, G2, ρ2, c', good2, h1, fun H3 G3 s3 => ?_⟩
    cases c' with
    | true =>
      rw [if_pos rfl] at hf2
      obtain ⟨o1, e2, hf2⟩ := Option.bind_eq_some_iff.mp hf2
      refine ⟨fun σ' H' => ∃ G2 ρ2, Same G G2 ∧ Good X.K G0 H0 G2 H' σ' ρ2 ∧ whileF tc fb m ρ2 = some o, fun σ' H' h => ⟨m, Nat.lt_succ_self _, h⟩, ?_⟩
      refine ⟨G0, H0, G3, ρ2, o1, good2.step s3, e2, ?_⟩
      have sg3 : Same G G3 := sg.trans s3.gg
      cases o1 with
      | nx ρ5 => exact fun σ5 H5 G5 s5 good5 => ⟨G5, ρ5, sg3.trans s5, good5, hf2⟩
      | ct ρ5 => exact fun σ5 H5 G5 s5 good5 => ⟨G5, ρ5, sg3.trans s5, good5, hf2⟩
      | bk ρ5 => cases hf2; exact fun σ5 H5 G5 s5 good5 => k σ5 H5 G5 (sg3.trans s5) good5
      | rt d => cases hf2; exact k
      | rl d => cases hf2; exact k
    | false =>
      rw [if_neg (by decide)] at hf2
      cases hf2
      exact k σ2 H3 G3 (sg.trans s3.gg) (good2.step s3)

/-! ### isinstance(x, T), T a built-in type -/
def tyD : D → Option String
  | .non => some "NoneType"
  | .bl _ => some "bool"
  | .int _ => some "int"
  | .str _ => some "str"
  | .tup _ => some "tuple"
  | .lst _ => some "list"
  | _ => none
theorem isi_D {pins : List (Addr × Obj)} {σ : St} {H G : Hp} {s : Shared} {A : Around} {E : Value → Shared → Prop} {Q : Value → Shared → Prop} {d : D} {v : V} {u cl : Value} {t : String} {k : Bool} (I : Inv X pins σ H s) (rv : RelV v u) (sub : Same G H) (r : Rep X.K G d v) (ht : tyD d = some t)
    (e : PySem.W.kitOne X.K (.type t) cl = some k) (h : ∀ tk, Q (.bool k) { s with toks := tk }) : wpAny (model X.prog X.w) A (call (.builtin "isinstance") [u, cl]) Q E s := by
  cases d with
  | non => cases ht; rw [rep_non] at r; subst r; cases rv; exact PySem.W.kia_one PySem.W.kitx_none I.kIn True.intro e (fun z => nomatch z) h
  | bl y => cases ht; rw [rep_bl] at r; subst r; cases rv; exact PySem.W.kia_one PySem.W.kitx_bool I.kIn True.intro e (fun z => nomatch z) h
  | int i => cases ht; rw [rep_int] at r; subst r; obtain ⟨t, rfl⟩ := rv; exact PySem.W.kia_one PySem.W.kitx_int I.kIn True.intro e (fun z => nomatch z) h
  | str i => cases ht; rw [rep_str] at r; subst r; obtain ⟨t, rfl⟩ := rv; exact PySem.W.kia_one PySem.W.kitx_str I.kIn True.intro e (fun z => nomatch z) h
  | tup ds =>
    cases ht
    obtain ⟨p, vs, rfl, q, _⟩ := rep_tup.mp r
    cases rv
    obtain ⟨its, _, ⟨o, h1, h2, _⟩, _⟩ := I.tuple (sub.tup q)
    exact PySem.W.kia_one PySem.W.kitx_tuple I.kIn ⟨o, h1, h2⟩ e (fun z => nomatch z) h
  | lst ds =>
    cases ht
    obtain ⟨p, vs, rfl, q, _⟩ := rep_lst.mp r
    cases rv
    obtain ⟨its, _, ⟨o, n, h1, h2, _⟩, _⟩ := I.list (sub.seq q)
    exact PySem.W.kia_one PySem.W.kitx_list I.kIn ⟨o, h1, h2⟩ e (fun z => nomatch z) h
  | obj C ns ds => cases ht
  | exc C ns ds => cases ht
theorem kit_int (K : PySem.W.Frag) : ∀ t : String, t ∈ ["NoneType", "bool", "int", "str", "tuple", "list"] → PySem.W.kitOne K (.type t) (.type "int") = some (decide (t = "bool" ∨ t = "int")) := by
  intro t ht
  simp only [List.mem_cons, List.not_mem_nil, or_false] at ht
  rcases ht with rfl | rfl | rfl | rfl | rfl | rfl <;> kernel_rfl
theorem kit_bool (K : PySem.W.Frag) : ∀ t : String, t ∈ ["NoneType", "bool", "int", "str", "tuple", "list"] → PySem.W.kitOne K (.type t) (.type "bool") = some (decide (t = "bool")) := by
  intro t ht
  simp only [List.mem_cons, List.not_mem_nil, or_false] at ht
  rcases ht with rfl | rfl | rfl | rfl | rfl | rfl <;> kernel_rfl
theorem kit_str (K : PySem.W.Frag) : ∀ t : String, t ∈ ["NoneType", "bool", "int", "str", "tuple", "list"] → PySem.W.kitOne K (.type t) (.type "str") = some (decide (t = "str")) := by
  intro t ht
  simp only [List.mem_cons, List.not_mem_nil, or_false] at ht
  rcases ht with rfl | rfl | rfl | rfl | rfl | rfl <;> kernel_rfl
theorem kit_tuple (K : PySem.W.Frag) : ∀ t : String, t ∈ ["NoneType", "bool", "int", "str", "tuple", "list"] → PySem.W.kitOne K (.type t) (.type "tuple") = some (decide (t = "tuple")) := by
  intro t ht
  simp only [List.mem_cons, List.not_mem_nil, or_false] at ht
  rcases ht with rfl | rfl | rfl | rfl | rfl | rfl <;> kernel_rfl
theorem kit_list (K : PySem.W.Frag) : ∀ t : String, t ∈ ["NoneType", "bool", "int", "str", "tuple", "list"] → PySem.W.kitOne K (.type t) (.type "list") = some (decide (t = "list")) := by
  intro t ht
  simp only [List.mem_cons, List.not_mem_nil, or_false] at ht
  rcases ht with rfl | rfl | rfl | rfl | rfl | rfl <;> kernel_rfl
theorem tyD_mem {d : D} {t : String} (h : tyD d = some t) : t ∈ ["NoneType", "bool", "int", "str", "tuple", "list"] := by
  cases d <;> cases h <;> simp
def isTy (p : D → Bool) (f : Ef) : Ef := fun ρ => (f ρ).bind fun d => match d with | .obj _ _ _ => none | .exc _ _ _ => none | d => some (.bl (p d))
def isInt : D → Bool | .int _ => true | .bl _ => true | _ => false
def isBool : D → Bool | .bl _ => true | _ => false
def isStr : D → Bool | .str _ => true | _ => false
def isTup : D → Bool | .tup _ => true | _ => false
def isLst : D → Bool | .lst _ => true | _ => false
theorem pf_isi {T : Str} {TT : String} {q : D → Bool} {p1 : Pos} (hT : bootBuiltins T = some (.type TT)) (hq : ∀ (K : PySem.W.Frag) d t, tyD d = some t → PySem.W.kitOne K (.type t) (.type TT) = some (q d)) (hg : Gl X "isinstance") (hm : X.mg "isinstance" = none) (hgT : Gl X T) (hmT : X.mg T = none) (h : PF X a fa)
    (hn : T ≠ "__name__" := by decide) (hd : (T == ("__debug__" : Str)) = false := by decide) (hs : starEach [a, .Name T p1] X.env = [(false, eval a X.env), (false, eval (.Name T p1) X.env)] := by rfl) : PF X (.Call (.Name "isinstance" p) [a, .Name T p1] [] pos) (isTy q fa) := by
  have hcall : CallR X (.builtin "isinstance") (fun xs H Q => ∃ x G d, xs = [x, .ty TT] ∧ Same G H ∧ Rep X.K G d x ∧ (tyD d).isSome = true ∧ Q (.bl (q d)) H) := by
    intro pins s σ H xs us Q I r hh
    obtain ⟨x, G, d, rfl, sub, rx, ht, qq⟩ := hh
    obtain ⟨u, u', rfl, ru, ru'⟩ := vals2 r
    cases ru'
    obtain ⟨t, ht⟩ := Option.isSome_iff_exists.mp ht
    exact isi_D I ru sub rx ht (hq _ d t ht) fun tk => ⟨.bl (q d), H, I.tok tk, rfl, qq⟩
  refine PE.to (pe_callB hcall hg hm (by rfl) (pa_cons h (pa_cons (pe_bltn (v := .ty TT) hgT hmT hT rfl hn hd) pa_nil) (by rw [hs]; rfl)) (by decide) (by decide) (by rw [hs]; rfl) (by rfl)) ?_
  rintro σ H Q ⟨G0, H0, G, ρ, d, good, hf, k⟩
  unfold isTy at hf
  obtain ⟨x, h1, hf⟩ := Option.bind_eq_some_iff.mp hf
  refine ⟨G0, H0, G, ρ, _, good, h1, fun v H1 G1 s1 r1 => ?_⟩
  have hx : (tyD x).isSome = true ∧ d = .bl (q x) := by
    cases x <;> first
      | (cases hf; exact ⟨rfl, rfl⟩)
      | cases hf
  obtain ⟨hx, rfl⟩ := hx
  exact ⟨v, G1, x, rfl, s1.sub, r1, hx, k _ _ G1 s1 (rep_bl.mpr rfl)⟩
theorem hq_int (K : PySem.W.Frag) (d : D) (t : String) (h : tyD d = some t) : PySem.W.kitOne K (.type t) (.type "int") = some (isInt d) := by
  rw [kit_int K t (tyD_mem h)]; cases d <;> cases h <;> simp [isInt, isBool, isStr, isTup, isLst]
theorem hq_bool (K : PySem.W.Frag) (d : D) (t : String) (h : tyD d = some t) : PySem.W.kitOne K (.type t) (.type "bool") = some (isBool d) := by
  rw [kit_bool K t (tyD_mem h)]; cases d <;> cases h <;> simp [isInt, isBool, isStr, isTup, isLst]
theorem hq_str (K : PySem.W.Frag) (d : D) (t : String) (h : tyD d = some t) : PySem.W.kitOne K (.type t) (.type "str") = some (isStr d) := by
  rw [kit_str K t (tyD_mem h)]; cases d <;> cases h <;> simp [isInt, isBool, isStr, isTup, isLst]
theorem hq_tup (K : PySem.W.Frag) (d : D) (t : String) (h : tyD d = some t) : PySem.W.kitOne K (.type t) (.type "tuple") = some (isTup d) := by
  rw [kit_tuple K t (tyD_mem h)]; cases d <;> cases h <;> simp [isInt, isBool, isStr, isTup, isLst]
theorem hq_lst (K : PySem.W.Frag) (d : D) (t : String) (h : tyD d = some t) : PySem.W.kitOne K (.type t) (.type "list") = some (isLst d) := by
  rw [kit_list K t (tyD_mem h)]; cases d <;> cases h <;> simp [isInt, isBool, isStr, isTup, isLst]

/-! ### all(list of bools) -/
def blsD : List D → Option (List Bool)
  | [] => some []
  | .bl k :: r => (blsD r).map fun ks => k :: ks
  | _ => none
def eAll (f : Ef) : Ef := fun ρ => (f ρ).bind fun d => match d with | .lst ds => (blsD ds).map fun ks => .bl (ks.all id) | _ => none
theorem call_allB (hc : X.calm = true) : CallR X (.builtin "all") (fun xs H Q => ∃ (p : Addr) (ks : List Bool), xs = [V.ref p] ∧ SqL X.K H p (ks.map V.bl) ∧ Q (.bl (ks.all id)) H) := by
  intro pins s σ H xs us Q I r h
  obtain ⟨p, ks, rfl, hq, q⟩ := h
  obtain ⟨u, rfl, ru⟩ := vals1 r
  cases ru
  obtain ⟨its, rv, pl, hz⟩ := I.list hq
  have hks : ∀ (i : Nat) (v : Value), its[i]? = some v → ∃ k, ks[i]? = some k ∧ v = Value.bool k := fun i v e => by
    have hi : i < ks.length := by have := rv.length; rw [List.length_map] at this; rw [this]; exact (List.getElem?_eq_some_iff.mp e).1
    obtain ⟨u, e1, r1⟩ := rv.get (i := i) (x := .bl ks[i]) (by rw [List.getElem?_map, List.getElem?_eq_getElem hi]; rfl)
    rw [e] at e1; cases e1
    exact ⟨ks[i], List.getElem?_eq_getElem hi, r1⟩
  have hlen : its.length = ks.length := by have := rv.length; rw [List.length_map] at this; exact this.symm
  refine call_all_walk (wpAny_pyIter_list pl.isList ?_)
  have hne : p ≠ s.heap.objs.size := by obtain ⟨o, _, e, _⟩ := pl; exact Nat.ne_of_lt (Heap.lt_size e)
  refine ⟨s.heap.objs.size, _, _, _, _, _, fun i => (ks[i]?).getD true, rfl, Walks.list (A := X.A.in1) (I.ok.hd hc) s.heap.objs.size p hne its.toArray, ⟨⟨_, Heap.get?_push_size _ rfl, rfl, rfl⟩, pl.isList.push _⟩, ?_, fun h' tk hk => ?_⟩
  · intro i v s' Q' E' hv hQ'
    obtain ⟨k, e1, rfl⟩ := hks i v (by simpa using hv)
    have hQ2 : Q' ((ks[i]?).getD true) s' := hQ'
    rw [e1] at hQ2
    exact wpAny_truthy_bool hQ2
  · have hI : Inv X pins σ H { s with heap := h', toks := tk } := I.kept fun b o e => hk b o (by simp; exact Nat.ne_of_lt (Heap.lt_size e)) (Heap.get?_push_of_some _ e)
    have e : ((List.range its.toArray.size).all fun i => (ks[i]?).getD true) = ks.all id := by
      rw [List.size_toArray, hlen]
      rw [Bool.eq_iff_iff]
      simp only [List.all_eq_true, List.mem_range, id]
      constructor
      · intro h x hx
        obtain ⟨i, hi, rfl⟩ := List.getElem_of_mem hx
        have := h i hi
        rw [List.getElem?_eq_getElem hi] at this
        exact this
      · intro h i hi
        rw [List.getElem?_eq_getElem hi]
        exact h _ (List.getElem_mem hi)
    rw [e]
    exact ⟨.bl (ks.all id), H, hI, rfl, q⟩
theorem reps_bls {K : PySem.W.Frag} {G : Hp} : ∀ {ds : List D} {vs : List V} {ks : List Bool}, blsD ds = some ks → Reps K G ds vs → vs = ks.map V.bl
  | [], _, _, h, r => by cases h; rw [reps_nil] at r; rw [r]; rfl
  | d :: t, _, _, h, r => by
    unfold blsD at h
    split at h
    · rename_i h'; cases h'
    · rename_i k t' h'
      cases h'
      obtain ⟨v, vr, rfl, r1, r2⟩ := reps_cons.mp r
      obtain ⟨ks, h1, rfl⟩ := Option.map_eq_some_iff.mp h
      rw [reps_bls h1 r2, rep_bl.mp r1]; rfl
    · cases h
theorem pf_all (hc : X.calm = true) (hg : Gl X "all") (hm : X.mg "all" = none) (h : PF X a fa) (hs : starEach [a] X.env = [(false, eval a X.env)] := by rfl) : PF X (.Call (.Name "all" p) [a] [] pos) (eAll fa) := by
  refine PE.to (pe_callB (call_allB hc) hg hm (by rfl) (pa_cons h pa_nil (by rw [hs]; rfl)) (by decide) (by decide) (by rw [hs]; rfl) (by rfl)) ?_
  rintro σ H Q ⟨G0, H0, G, ρ, d, good, hf, k⟩
  unfold eAll at hf
  obtain ⟨x, h1, hf⟩ := Option.bind_eq_some_iff.mp hf
  cases x with
  | lst ds =>
    dsimp only at hf
    obtain ⟨ks, h2, rfl⟩ := Option.map_eq_some_iff.mp hf
    refine ⟨G0, H0, G, ρ, _, good, h1, fun v H1 G1 s1 r1 => ?_⟩
    obtain ⟨p, vs, rfl, q, rs⟩ := rep_lst.mp r1
    have e := reps_bls h2 rs
    subst e
    exact ⟨p, ks, rfl, s1.sub.seq q, k _ _ G1 s1 (rep_bl.mpr rfl)⟩
  | _ => cases hf
end
end L2

namespace L2
open PySem PySem.Spec PyProof.Rows

/-! ### an iterator's records turn, a new thing is laid -/
theorem Inv.turnedNew {X : Cx} {pins : List (Addr × Obj)} {σ : St} {H : Hp} {s : Shared} {h' : Heap} {t' : Nat} {fp : List Addr} {T : Addr} {o : HO} (I : Inv X pins σ H s) (k : ∀ b u, b ∉ fp → s.heap.get? b = some u → h'.get? b = some u)
    (hf : ∀ b ∈ fp, FpOk X pins H b) (hT : s.heap.objs.size ≤ T) (new : ObjOk X.prog X.w (upd H T o) h' T o) : Inv X pins σ (upd H T o) { s with heap := h', toks := t' } := by
  have fr : H T = none := I.hok.fresh hT
  have neT : ∀ b u, s.heap.get? b = some u → b ≠ T := fun b u e => Nat.ne_of_lt (Nat.lt_of_lt_of_le (Heap.lt_size e) hT)
  have nfp : ∀ b u, H b = some u → b ∉ fp := fun b u e z => by have := (hf b z).1; rw [e] at this; cases this
  refine I.step (g' := s.gens) (d' := s.drawn) (ch := fp) (fun b hb => ⟨(hf b hb).2.2.2.1, (hf b hb).2.1, (hf b hb).2.2.2.2.1, (hf b hb).2.2.2.2.2⟩) (fun b u _ _ hc e _ => k b u hc e)
    (fun b u _ _ hc e _ => ⟨u.slots, k b u hc e⟩) (fun b u _ e n => by rw [upd_ne (neT b u e)]; exact n) (fun b u hc e => ⟨u, k b u hc e⟩)
    (fun b xs e => by rw [upd_ne (ne_of_none e fr)]; exact e) (fun b u x e => by rw [upd_ne (ne_of_none e fr)]; exact e) (fun b ps e => ⟨#[], by rw [upd_ne (ne_of_none e fr), e]; simp⟩) (fun m hm => ?_) (fun b u e => ?_) I.bare
  · obtain ⟨ob, es, ep, ho, r⟩ := hm
    exact ⟨ob, es, ep, k _ ob (fun z => (hf _ z).2.1 rfl) ho, r⟩
  · by_cases hb : b = T
    · subst hb; rw [upd_same] at e; cases e; exact new
    · rw [upd_ne hb] at e
      refine (I.hok b u e).stay (fun c v hc q => k c v ?_ q) (fun c q => by rw [upd_ne (ne_of_none q fr)]; exact q) fun c xs q => by rw [upd_ne (ne_of_none q fr)]; exact q
      rcases hc with z | z
      · rw [z]; exact nfp b u e
      · exact nfp c _ z
theorem Inv.turnedL {X : Cx} {pins : List (Addr × Obj)} {σ : St} {H : Hp} {s : Shared} {h' : Heap} {t' : Nat} {fp : List Addr} (I : Inv X pins σ H s) (k : ∀ b u, b ∉ fp → s.heap.get? b = some u → h'.get? b = some u)
    (hf : ∀ b ∈ fp, FpOk X pins H b) : Inv X pins σ H { s with heap := h', toks := t' } := by
  have nfp : ∀ b u, H b = some u → b ∉ fp := fun b u e z => by have := (hf b z).1; rw [e] at this; cases this
  refine I.step (g' := s.gens) (d' := s.drawn) (ch := fp) (fun b hb => ⟨(hf b hb).2.2.2.1, (hf b hb).2.1, (hf b hb).2.2.2.2.1, (hf b hb).2.2.2.2.2⟩) (fun b u _ _ hc e _ => k b u hc e)
    (fun b u _ _ hc e _ => ⟨u.slots, k b u hc e⟩) (fun b u _ e n => n) (fun b u hc e => ⟨u, k b u hc e⟩) (fun b xs e => e) (fun b u x e => e) (fun b ps e => ⟨#[], by rw [e]; simp⟩) (fun m hm => ?_) (fun b u e => ?_) I.bare
  · obtain ⟨ob, es, ep, ho, r⟩ := hm
    exact ⟨ob, es, ep, k _ ob (fun z => (hf _ z).2.1 rfl) ho, r⟩
  · refine (I.hok b u e).stay (fun c v hc q => k c v ?_ q) (fun c q => q) fun c xs q => q
    rcases hc with z | z
    · rw [z]; exact nfp b u e
    · exact nfp c _ z

/-! ### enumerate(list) -/
def Ite (K : PySem.W.Frag) (a : Addr) : It :=
  ⟨fun i H => ∃ xs x, SqL K H a xs ∧ xs[i]? = some x, fun i H x H' => ∃ p v, H p = none ∧ x = .ref p ∧ H' = upd H p (.tup [.int (i : Nat), v]) ∧ ∀ xs, SqL K H a xs → xs[i]? = some v, fun i H => ∃ xs, SqL K H a xs ∧ xs.length ≤ i⟩
theorem turn_enum {P : Program} {w : World} {K : PySem.W.Frag} {elts : List Expr} {k : Nat} {pos : Pos} (a e it : Addr) (hei : e ≠ it) : Turn P w K (.Tuple elts k pos) (Ite K a) [e, it] e (fun i h => (∃ old, IsEnum h e it (i : Nat) old) ∧ h.IsListIter it a i) where
  mem := by simp
  obj := fun i h st b hb => by
    obtain ⟨⟨old, he⟩, o, h1, h2, h3⟩ := st
    rcases List.mem_cons.mp hb with z | z
    · subst z; exact ⟨_, he, fun v q => nomatch q⟩
    · rcases List.mem_cons.mp z with z | z
      · subst z; exact ⟨o, h1, fun v q => by rw [h3] at q; cases q⟩
      · cases z
  keep := fun i h h' st kk => by
    obtain ⟨⟨old, he⟩, hl⟩ := st
    exact ⟨⟨old, kk e (by simp) _ he⟩, hl.at fun o q => kk it (by simp) o q⟩
  item := by
    intro X hP hw hK hc i pins s σ H E I hf st hg
    subst hP hw hK
    obtain ⟨xs, x, hq, hx⟩ := hg
    obtain ⟨its, rv, p, hz⟩ := I.list hq
    obtain ⟨u, hu, ru⟩ := rv.get hx
    obtain ⟨⟨old, he⟩, hit⟩ := st
    refine wpAny_pyNext_enum_item he hit p.isList (x := u) (by simpa using hu) hei fun h1 ho hit1 hT hsz hk => ?_
    have I1 : Inv X pins σ (upd H s.heap.objs.size (.tup [.int (i : Nat), x])) { s with heap := h1, toks := s.toks + 1 } := I.turnedNew (fun b o hb e => hk b o (fun z => hb (by simp [z])) (fun z => hb (by simp [z])) e) hf (Nat.le_refl _)
      ⟨by show 2 ≤ sizeLine; exact Nat.le_of_lt (lim_ok (by decide)), [.int (i : Nat) s.toks, u], .cons ⟨_, rfl⟩ (.cons ru .nil), ⟨_, hT, rfl, _, rfl⟩⟩
    refine ⟨_, rfl, wpAny_letOwnedTupleGo_enum ho fun h2 he2 hs2 => ?_⟩
    have hs2 : Heap.SameBut e h1 h2 := hs2
    have neT : ∀ b ∈ [e, it], b ≠ s.heap.objs.size := fun b hb z => by
      obtain ⟨o, h1, h2, h3⟩ := hit
      rcases List.mem_cons.mp hb with q | q
      · exact absurd (Heap.lt_size he) (by rw [← q, z]; exact Nat.lt_irrefl _)
      · rcases List.mem_cons.mp q with q | q
        · exact absurd (Heap.lt_size h1) (by rw [← q, z]; exact Nat.lt_irrefl _)
        · cases q
    have hf1 : ∀ b ∈ [e, it], FpOk X pins (upd H s.heap.objs.size (.tup [.int (i : Nat), x])) b := fun b hb => ⟨by rw [upd_ne (neT b hb)]; exact (hf b hb).1, (hf b hb).2⟩
    have I2 := I1.turnedL (h' := h2) (t' := s.toks + 1) (fp := [e, it]) (fun b o hb q => (hs2.2 b (fun z => hb (by simp [z]))).trans q) hf1
    refine ⟨.ref s.heap.objs.size, _, I2, rfl, ⟨s.heap.objs.size, x, I.fresh, rfl, rfl, fun ys hy => by rw [I.list_inj hy hq]; exact hx⟩, ⟨⟨_, by simpa using he2⟩, hit1.at fun o q => (hs2.2 it hei.symm).trans q⟩, fun b hb => (hf1 b hb).1⟩
  done := by
    intro X hP hw hK hc i pins s σ H E I hf st hg
    subst hP hw hK
    obtain ⟨xs, hq, hx⟩ := hg
    obtain ⟨its, rv, p, hz⟩ := I.list hq
    obtain ⟨⟨old, he⟩, hit⟩ := st
    have hl := rv.length
    exact wpAny_pyNext_enum_end (I.ok.hd hc) he hit p.isList (by simp; omega) fun h' eb => ⟨rfl, I.turnedL (t' := s.toks) (fp := [e, it]) (fun b o hb q => eb b o (fun z => hb (by simp [z])) q) hf⟩
  self := fun _ _ _ _ _ st h => wpAny_pyIter_enum st.1.choose_spec h
theorem yields_enum {K : PySem.W.Frag} {G : Hp} {a : Addr} {vs : List V} {ds : List D} (h : SqL K G a vs) (r : Reps K G ds vs) : Yields K (Ite K a) G (ds.zipIdx.map fun q => D.tup [.int (q.2 : Nat), q.1]) := by
  intro i G2 H2 s1 s2
  have q : SqL K H2 a vs := (s1.trans s2).seq h
  refine ⟨fun d hd => ?_, fun hi => ⟨vs, q, by rw [← r.length]; simpa using hi⟩⟩
  rw [List.getElem?_map, List.getElem?_zipIdx] at hd
  obtain ⟨⟨d0, j⟩, hd2, hd3⟩ := Option.map_eq_some_iff.mp hd
  obtain ⟨d1, hd1, e⟩ := Option.map_eq_some_iff.mp hd2
  cases e
  subst hd3
  obtain ⟨v, e, rv⟩ := r.get hd1
  refine ⟨⟨vs, v, q, e⟩, fun x H3 y => ?_⟩
  obtain ⟨p, u, hp, rfl, rfl, y⟩ := y
  have e2 := y vs q
  rw [e] at e2; cases e2
  have s3 := Step.laid (o := .tup [.int (i : Nat), v]) s2 hp
  refine ⟨_, s3, rep_tup.mpr ⟨p, _, rfl, .of upd_same, reps_cons.mpr ⟨_, _, rfl, rep_int.mpr (by simp), reps_cons.mpr ⟨_, _, rfl, (rv.mono s1).mono s3.gg, reps_nil.mpr rfl⟩⟩⟩⟩
section
variable {X : Cx} {a b c e tg elt iter : Expr} {es ifs : List Expr} {fa fb fc : Ef} {ga gb gi : Lf} {ta tc : Tf} {pos p : Pos} {st : Stmt}
def numbered (ds : List D) : List D := ds.zipIdx.map fun q => D.tup [.int (q.2 : Nat), q.1]
def iEnum (g : Lf) : Lf := fun ρ => (g ρ).map numbered
/-- what a list's walk asks -/
def tSrc (K : PySem.W.Frag) (f : Lf) : TE := fun σ H Q => ∃ G0 H0 G ρ ds, Good K G0 H0 G H σ ρ ∧ f ρ = some ds ∧ ∀ a vs H' G', Step G H G' H' → SqL K G' a vs → Reps K G' ds vs → Q (.ref a) H'
def PSrc (X : Cx) (e : Expr) (f : Lf) : Prop := PE X e (tSrc X.K f)
theorem src_r (h : PFr X e ga) : PSrc X e ga := fun pins s σ H Q I q => h pins s σ H Q I (by
  obtain ⟨G0, H0, G, ρ, ds, good, hf, k⟩ := q
  exact ⟨G0, H0, G, ρ, ds, good, hf, fun p vs H' G' s hn hp gp rs => k p vs H' (upd G' p (.lst vs)) (s.frz hn hp gp) (.of upd_same) (rs.mono (Same.new gp))⟩)
theorem src_l (h : PF X e fa) : PSrc X e (iL fa) := fun pins s σ H Q I q => h pins s σ H Q I (by
  obtain ⟨G0, H0, G, ρ, ds, good, hf, k⟩ := q
  unfold iL at hf
  obtain ⟨d, h1, hf⟩ := Option.bind_eq_some_iff.mp hf
  cases d with
  | lst es =>
    cases hf
    refine ⟨G0, H0, G, ρ, _, good, h1, fun x H1 G1 s1 r1 => ?_⟩
    obtain ⟨p, vs, rfl, q, rs⟩ := rep_lst.mp r1
    exact k p vs H1 G1 s1 q rs
  | _ => cases hf)
theorem pi_enum {elts : List Expr} {k : Nat} {pos' : Pos} (hg : Gl X "enumerate") (hm : X.mg "enumerate" = none) (h : PSrc X a ga) (hs : starEach [a] X.env = [(false, eval a X.env)] := by rfl) : PFI X (.Tuple elts k pos') (.Call (.Name "enumerate" p) [a] [] pos) (iEnum ga) := by
  intro pins s σ H R I q
  obtain ⟨G0, H0, G, ρ, ds, good, hf, kk⟩ := q
  unfold iEnum at hf
  obtain ⟨es, h1, rfl⟩ := Option.map_eq_some_iff.mp hf
  have h2 := pa_cons h pa_nil (by rw [hs]; rfl) pos pins s σ H (fun vs H' => ∃ a us G', vs = [.ref a] ∧ Step G H G' H' ∧ SqL X.K G' a us ∧ Reps X.K G' es us) I ⟨G0, H0, G, ρ, es, good, h1, fun a us H' G' s' hq rs => ⟨a, us, G', rfl, s', hq, rs⟩⟩
  refine Call_ (ld_blt I hg hm (by rfl) (PyProof.Rows.callWith_type1 (thn h2 fun us s1 ⟨vs, H1, I1, r1, l, ws, G1, e1, st1, hq, rs⟩ => ?_) hs rfl))
  subst e1
  obtain ⟨u, rfl, ru⟩ := vals1 r1
  cases ru
  obtain ⟨its, rv, pl, hz⟩ := I1.list (st1.sub.seq hq)
  refine call_enumerate_list pl.isList fun h' he hit hsz hk => ?_
  have I2 : Inv X pins σ H1 { s1 with heap := h' } := I1.kept (t' := s1.toks) hk
  refine wpAny_pyIter_enum he ?_
  refine ⟨_, [s1.heap.objs.size + 1, s1.heap.objs.size], _, _, H1, rfl, I2, turn_enum l _ _ (Nat.succ_ne_self _), ⟨⟨_, he⟩, hit⟩, fun b hb => ?_, kk _ H1 G1 st1 (yields_enum hq rs)⟩
  have hb' : s1.heap.objs.size ≤ b := by
    rcases List.mem_cons.mp hb with z | z
    · rw [z]; exact Nat.le_succ _
    · rcases List.mem_cons.mp z with z | z
      · exact Nat.le_of_eq z.symm
      · cases z
  exact I1.fpOk hb' (I1.hok.fresh hb')
/-! ### list + list, slices -/
def lCat (f g : Lf) : Lf := fun ρ => (f ρ).bind fun xs => (g ρ).bind fun ys => okL (xs ++ ys)
theorem pl_cat (ha : PFr X a ga) (hb : PFr X b gb) : PFr X (.BinOp a .Add b pos) (lCat ga gb) := by
  refine PE.toR (pe_op op_cat ha hb) ?_
  rintro σ H Q ⟨G0, H0, G, ρ, d, good, hf, k⟩
  unfold lCat at hf
  obtain ⟨xs, h1, hf⟩ := Option.bind_eq_some_iff.mp hf
  obtain ⟨ys, h2, hf⟩ := Option.bind_eq_some_iff.mp hf
  obtain ⟨rfl, h3⟩ := okL_inv hf
  refine ⟨G0, H0, G, ρ, _, good, h1, fun p vs H1 G1 s1 hn hp gp rs => ⟨G0, H0, G1, ρ, _, good.step s1, h2, fun q us H2 G2 s2 hn2 hq gq rs2 => ?_⟩⟩
  refine ⟨p, q, vs, us, rfl, rfl, s2.hh _ _ hp, hq, ?_, fun l hl => ?_⟩
  · rw [← rs.length, ← rs2.length, ← List.length_append]; exact Nat.le_of_lt (lim_ok h3)
  · have s3 := Step.own (o := .lst (vs ++ us)) s2.sub hl
    exact k l _ _ G2 ((s1.trans s2).trans s3) ((s1.trans s2).hh.free hl) upd_same (s2.sub.free hl) ((rs.mono s2.gg).append rs2)
abbrev Of := List B → Option (Option Int)
def tFO (K : PySem.W.Frag) (f : Of) : TO := fun σ H Q => ∃ G0 H0 G ρ o, Good K G0 H0 G H σ ρ ∧ f ρ = some o ∧ ∀ H' G', Step G H G' H' → Q o H'
def PFO (X : Cx) (e : Option Expr) (f : Of) : Prop := PO X e (tFO X.K f)
def oNo : Of := fun _ => some none
def oSome (f : Ef) : Of := fun ρ => (f ρ).bind fun d => match d with | .int i => some (some i) | _ => none
theorem po_no : PFO X none oNo := fun pins s σ H Q I h => po_none pins s σ H Q I (by
  obtain ⟨G0, H0, G, ρ, o, good, hf, k⟩ := h
  cases hf
  exact k H G (.refl good.sub))
theorem po_sm (h : PF X e fa) : PFO X (some e) (oSome fa) := fun pins s σ H Q I q => po_some h pins s σ H Q I (by
  obtain ⟨G0, H0, G, ρ, o, good, hf, k⟩ := q
  unfold oSome at hf
  obtain ⟨d, h1, hf⟩ := Option.bind_eq_some_iff.mp hf
  cases d with
  | int i => cases hf; exact ⟨G0, H0, G, ρ, _, good, h1, fun v H' G' s r => ⟨i, rep_int.mp r, k H' G' s⟩⟩
  | _ => cases hf)
def cutD (xs : List D) (lo hi : Option Int) : List D := (xs.drop (HT.sIx xs.length 0 lo)).take (HT.sIx xs.length xs.length hi - HT.sIx xs.length 0 lo)
def lSlice (f : Ef) (lo hi : Of) : Lf := fun ρ => (f ρ).bind fun d => (lo ρ).bind fun l => (hi ρ).bind fun u => match d with | .lst ds => some (cutD ds l u) | _ => none
theorem pl_slice {lo hi : Option Expr} {fl fh : Of} {p2 : Pos} (ha : PF X a fa) (hl : PFO X lo fl) (hh : PFO X hi fh) : PFr X (.Subscript a (.Slice lo hi none p2) pos) (lSlice fa fl fh) := by
  refine PE.toR (pe_slice sl_list ha hl hh) ?_
  rintro σ H Q ⟨G0, H0, G, ρ, d, good, hf, k⟩
  unfold lSlice at hf
  obtain ⟨x, h1, hf⟩ := Option.bind_eq_some_iff.mp hf
  obtain ⟨l, h2, hf⟩ := Option.bind_eq_some_iff.mp hf
  obtain ⟨u, h3, hf⟩ := Option.bind_eq_some_iff.mp hf
  cases x with
  | lst ds =>
    cases hf
    refine ⟨G0, H0, G, ρ, _, good, h1, fun v H1 G1 s1 r1 => ⟨G0, H0, G1, ρ, _, good.step s1, h2, fun H2 G2 s2 => ⟨G0, H0, G2, ρ, _, (good.step s1).step s2, h3, fun H3 G3 s3 => ?_⟩⟩⟩
    obtain ⟨q, vs, rfl, hq, rs⟩ := rep_lst.mp r1
    have s23 := s2.trans s3
    refine ⟨q, vs, rfl, s23.hh |> fun z => (s1.sub.trans z).seq hq, fun p hp => ?_⟩
    have s4 := Step.own (o := .lst (cutV vs l u)) s23.sub hp
    refine k p _ _ G3 ((s1.trans s23).trans s4) ((s1.trans s23).hh.free hp) upd_same (s23.sub.free hp) ?_
    unfold cutV cutD
    rw [← rs.length]
    exact ((rs.mono s23.gg).drop _).take _
  | _ => cases hf
end
end L2

namespace L2
open PySem PySem.Spec PyProof.Rows

/-! ### zip of two tuples -/
section
variable {prog : Program} {w : World} {A : Around} {E : Value → Shared → Prop} {s : Shared}
/-- the inner iterator's own step, for a tuple's -/
theorem nextT_item {it t : Addr} {i : Nat} {items : Array Value} {x : Value} {Q : Value → Shared → Prop} (hit : s.heap.IsTupleIter it t i) (ht : s.heap.IsTuple t items) (hx : items[i]? = some x)
    (hQ : ∀ h', h'.IsTupleIter it t (i + 1) → Heap.SameBut it s.heap h' → Q x { s with heap := h' }) : wpAny (model prog w) A (Builtin.SmallTypes.nextOf (.ref it)) Q E s := by
  obtain ⟨o, h1, h2, h3⟩ := id hit
  obtain ⟨ot, t1, _, n, t2⟩ := ht
  unfold Builtin.SmallTypes.nextOf
  refine wpAny_bind (wpAny_callSpecial?_slot (name := Str.ofString "__next__") hit.typeIs F.slot_tuple_iterator_next (wpAny_call_entry F.slot_tuple_iterator_next hit.typeIs F.entry_tuple_iterator_next ?_ (F.args_tuple_iterator_next_1 _)))
  change wpAny _ _ (field (.ref it) 0 >>= _) _ _ s
  refine wpAny_bind (wpAny_field h1 h3 (x := .ref t) rfl ?_)
  change wpAny _ _ (if (Value.ref t == Value.none) = true then _ else _) _ _ s
  rw [if_neg (by exact Bool.false_ne_true)]
  change wpAny _ _ (field (.ref it) 1 >>= _) _ _ s
  refine wpAny_bind (wpAny_field h1 h3 (x := .int i 0) rfl ?_)
  change wpAny _ _ (seqItems? (.ref t) >>= _) _ _ s
  refine wpAny_bind (wpAny_seqItems t1 t2 ?_)
  simp only [Int.toNat_natCast, hx]
  refine wpAny_bind (wpAny_setField h1 h3 (by simp) (wpAny_pure ⟨x, rfl, wpAny_pure (hQ _ ⟨_, Heap.get?_update_self _ h1 (Obj.isFreed_of_fields (Obj.data_mapFields h3 _)), (Obj.cls_mapFields ..).trans h2, ?_⟩ (Heap.SameBut.update ..))⟩))
  rw [Obj.data_mapFields h3]
  simp [rawInt]
theorem nextT_end {it t : Addr} {i : Nat} {items : Array Value} {Q : Value → Shared → Prop} (hh : A.handled = none) (hit : s.heap.IsTupleIter it t i) (ht : s.heap.IsTuple t items) (hx : items[i]? = none)
    (hE : ∀ h' e, Heap.ExtBut it s.heap h' → (∃ o, h'.get? e = some o ∧ o.cls = .type "StopIteration") → E (.ref e) { s with heap := h' }) : wpAny (model prog w) A (Builtin.SmallTypes.nextOf (.ref it)) Q E s := by
  obtain ⟨o, h1, h2, h3⟩ := id hit
  obtain ⟨ot, t1, _, n, t2⟩ := ht
  unfold Builtin.SmallTypes.nextOf
  refine wpAny_bind (wpAny_callSpecial?_slot (name := Str.ofString "__next__") hit.typeIs F.slot_tuple_iterator_next (wpAny_call_entry F.slot_tuple_iterator_next hit.typeIs F.entry_tuple_iterator_next ?_ (F.args_tuple_iterator_next_1 _)))
  change wpAny _ _ (field (.ref it) 0 >>= _) _ _ s
  refine wpAny_bind (wpAny_field h1 h3 (x := .ref t) rfl ?_)
  change wpAny _ _ (if (Value.ref t == Value.none) = true then _ else _) _ _ s
  rw [if_neg (by exact Bool.false_ne_true)]
  change wpAny _ _ (field (.ref it) 1 >>= _) _ _ s
  refine wpAny_bind (wpAny_field h1 h3 (x := .int i 0) rfl ?_)
  change wpAny _ _ (seqItems? (.ref t) >>= _) _ _ s
  refine wpAny_bind (wpAny_seqItems t1 t2 ?_)
  simp only [Int.toNat_natCast, hx]
  refine wpAny_bind (wpAny_rule (wpAny_bind (wpAny_setField h1 h3 (by simp) ?_)))
  change wpAny _ _ (newExc (.type "StopIteration") [] >>= _) _ _ _
  refine wpAny_bind ?_
  simp only [newExc, newTuple]
  refine wpAny_bind (wpAny_newObj_type ?_ (by size_fits))
  refine wpAny_bind (m := firstArgMember _ _) (wpAny_of_eq (a := Value.none) (by first | rfl | (simp only [firstArgMember]; rfl)) ?_)
  refine wpAny_newObj_type ?_ (by size_fits)
  simp only [raiseNew]
  refine wpAny_bind (wpAny_handled ?_)
  first | rw [show A.in1.handled = none from hh] | rw [hh]
  refine wpAny_bind (wpAny_pure (wpAny_throw ?_))
  exact hE _ _ (((Heap.SameBut.update ..).extBut.push _).push _) ⟨_, Heap.get?_push_size _ rfl, rfl⟩

/-- the records of a zip over two tuples, apart -/
structure ZApart (z TI TO i1 i2 l1 l2 : Addr) : Prop where
  a1 : TI ≠ z
  a2 : TO ≠ z
  a3 : i1 ≠ z
  a4 : i2 ≠ z
  a5 : TI ≠ TO
  a6 : TI ≠ i1
  a7 : TI ≠ i2
  a8 : TO ≠ i1
  a9 : TO ≠ i2
  b1 : i1 ≠ i2
  b2 : l1 ≠ z
  b3 : l1 ≠ TO
  b4 : l1 ≠ i1
  b5 : l1 ≠ i2
  b6 : l2 ≠ z
  b7 : l2 ≠ TO
  b8 : l2 ≠ i1
  b9 : l2 ≠ i2
theorem zipT_item {z TI TO i1 i2 l1 l2 : Addr} {k : Nat} {xs ys : Array Value} {x y a b : Value} {Q : Value → Shared → Prop} (D : ZApart z TI TO i1 i2 l1 l2) (hz : IsZip s.heap z TI TO .none) (hTI : IsPair s.heap TI (.ref i1) (.ref i2)) (hTO : IsPair s.heap TO a b)
    (h1 : s.heap.IsTupleIter i1 l1 k) (h2 : s.heap.IsTupleIter i2 l2 k) (hl1 : s.heap.IsTuple l1 xs) (hl2 : s.heap.IsTuple l2 ys) (hx : xs[k]? = some x) (hy : ys[k]? = some y)
    (hQ : ∀ h', IsZip h' z TI TO (rawInt s.heap.objs.size) → IsPair h' TO x y → h'.IsTupleIter i1 l1 (k + 1) → h'.IsTupleIter i2 l2 (k + 1) → IsPair h' s.heap.objs.size x y →
      (∀ c o, c ≠ z → c ≠ TO → c ≠ i1 → c ≠ i2 → s.heap.get? c = some o → h'.get? c = some o) → Q (.ref s.heap.objs.size) { s with heap := h' }) :
    wpAny (model prog w) A (Builtin.«zip.__next__» ⟨[.ref z], []⟩) (fun fin s' => ∃ v, fin = .done (.ret v) ∧ Q v s') E s := by
  change wpAny _ _ (field (.ref z) 2 >>= _) _ _ _
  refine wpAny_bind (wpAny_field hz rfl (x := .bool false) rfl ?_)
  change wpAny _ _ (field (.ref z) 3 >>= _) _ _ _
  refine wpAny_bind (wpAny_field hz rfl (x := .ref TI) rfl (wpAny_bind (wpAny_seqItems hTI rfl ?_)))
  change wpAny _ _ (Builtin.SmallTypes.ownedTupleIsFree (.ref z) >>= _) _ _ _
  refine wpAny_bind ?_
  unfold Builtin.SmallTypes.ownedTupleIsFree
  refine wpAny_bind (wpAny_field hz rfl (x := .none) rfl (wpAny_pure ?_))
  simp only [if_true]
  refine wpAny_bind (wpAny_rule (wpAny_bind (wpAny_field hz rfl (x := .ref TO) rfl (wpAny_bind (wpAny_setField_rec hz (by simp) fun g1 z1 t1 => ?_)))))
  have z1 : IsZip g1 z TI TO .ellipsis := z1
  refine wpAny_bind ?_
  simp only [List.zipIdx_cons, List.zipIdx_nil, List.forIn_cons, List.forIn_nil]
  refine wpAny_bind (wpAny_bind (wpAny_onRaise ?_))
  change wpAny _ _ (Builtin.SmallTypes.nextOf (.ref i1) >>= _) _ _ _
  refine wpAny_bind (nextT_item (h1.extBut t1.extBut D.a3) (hl1.extBut t1.extBut D.b2) hx fun g2 u1 t2 => wpAny_pure ?_)
  have o2 : IsPair g2 TO a b := t2.extBut _ _ D.a8 (t1.extBut _ _ D.a2 hTO)
  refine wpAny_bind (wpAny_seqItems o2 rfl (wpAny_bind (wpAny_updateSeq_pair o2 fun g3 o3 t3 => ?_)))
  have o3 : IsPair g3 TO x b := o3
  refine wpAny_bind (wpAny_letGo (wpAny_pure (wpAny_bind (wpAny_bind (wpAny_onRaise ?_)))))
  change wpAny _ _ (Builtin.SmallTypes.nextOf (.ref i2) >>= _) _ _ _
  refine wpAny_bind (nextT_item (((h2.extBut t1.extBut D.a4).extBut t2.extBut D.b1.symm).extBut t3.extBut D.a9.symm) (((hl2.extBut t1.extBut D.b6).extBut t2.extBut D.b8).extBut t3.extBut D.b7) hy fun g4 u2 t4 => wpAny_pure ?_)
  have o4 : IsPair g4 TO x b := t4.extBut _ _ D.a9 o3
  refine wpAny_bind (wpAny_seqItems o4 rfl (wpAny_bind (wpAny_updateSeq_pair o4 fun g5 o5 t5 => ?_)))
  have o5 : IsPair g5 TO x y := o5
  refine wpAny_bind (wpAny_letGo (wpAny_pure (wpAny_pure (wpAny_bind (wpAny_seqItems o5 rfl (wpAny_bind (wpAny_newTuple ?_)))))))
  have esz : g5.objs.size = s.heap.objs.size := by rw [t5.1, t4.1, t3.1, t2.1, t1.1]
  have z5 : IsZip g5 z TI TO .ellipsis := t5.extBut _ _ D.a2.symm (t4.extBut _ _ D.a4.symm (t3.extBut _ _ D.a2.symm (t2.extBut _ _ D.a3.symm z1)))
  have k5 : ∀ c o, c ≠ z → c ≠ TO → c ≠ i1 → c ≠ i2 → s.heap.get? c = some o → g5.get? c = some o := fun c o c1 c2 c3 c4 e => t5.extBut _ _ c2 (t4.extBut _ _ c4 (t3.extBut _ _ c2 (t2.extBut _ _ c3 (t1.extBut _ _ c1 e))))
  have p1 : g5.IsTupleIter i1 l1 (k + 1) := ((u1.extBut t3.extBut D.a8.symm).extBut t4.extBut D.b1).extBut t5.extBut D.a8.symm
  have p2 : g5.IsTupleIter i2 l2 (k + 1) := u2.extBut t5.extBut D.a9.symm
  have lz : z < g5.objs.size := Heap.lt_size z5
  change wpAny _ _ (Builtin.SmallTypes.ownedTupleHandOut (.ref z) (.ref g5.objs.size) >>= _) _ _ _
  refine wpAny_bind ?_
  unfold Builtin.SmallTypes.ownedTupleHandOut
  have z6 : IsZip (g5.push { cls := .type "tuple", data := .seq #[x, y] }) z TI TO .ellipsis := Heap.get?_push_of_some _ z5
  refine wpAny_bind (wpAny_setField_rec z6 (by simp) fun g7 z7 t7 => ?_)
  have z7 : IsZip g7 z TI TO (rawInt g5.objs.size) := z7
  refine wpAny_setField_rec z7 (by simp) fun g8 z8 t8 => ?_
  have z8 : IsZip g8 z TI TO (rawInt g5.objs.size) := z8
  have up : ∀ c o, c ≠ z → g5.get? c = some o → g8.get? c = some o := fun c o c1 e => t8.extBut _ _ c1 (t7.extBut _ _ c1 (Heap.get?_push_of_some _ e))
  have n8 : IsPair g8 g5.objs.size x y := t8.extBut _ _ (Nat.ne_of_gt lz) (t7.extBut _ _ (Nat.ne_of_gt lz) (Heap.get?_push_size _ rfl))
  rw [esz] at z8 n8
  refine wpAny_pure ⟨_, rfl, ?_⟩
  change Q (.ref g5.objs.size) _
  rw [esz]
  obtain ⟨q1, r1, w1⟩ := p1
  obtain ⟨q2, r2, w2⟩ := p2
  exact hQ g8 z8 (up _ _ D.a2 o5) ⟨q1, up _ _ D.a3 r1, w1⟩ ⟨q2, up _ _ D.a4 r2, w2⟩ n8 fun c o c1 c2 c3 c4 e => up c o c1 (k5 c o c1 c2 c3 c4 e)
theorem zipT_end {z TI TO i1 i2 l1 l2 : Addr} {k : Nat} {xs ys : Array Value} {a b : Value} {Q : Fin → Shared → Prop} (hh : A.handled = none) (D : ZApart z TI TO i1 i2 l1 l2) (hz : IsZip s.heap z TI TO .none) (hTI : IsPair s.heap TI (.ref i1) (.ref i2)) (hTO : IsPair s.heap TO a b)
    (h1 : s.heap.IsTupleIter i1 l1 k) (h2 : s.heap.IsTupleIter i2 l2 k) (hl1 : s.heap.IsTuple l1 xs) (hl2 : s.heap.IsTuple l2 ys) (hend : xs[k]? = none ∨ ys[k]? = none)
    (hE : ∀ h' e, (∀ c o, c ≠ z → c ≠ TO → c ≠ i1 → c ≠ i2 → s.heap.get? c = some o → h'.get? c = some o) → (∃ o, h'.get? e = some o ∧ o.cls = .type "StopIteration") → E (.ref e) { s with heap := h' }) :
    wpAny (model prog w) A (Builtin.«zip.__next__» ⟨[.ref z], []⟩) Q E s := by
  change wpAny _ _ (field (.ref z) 2 >>= _) _ _ _
  refine wpAny_bind (wpAny_field hz rfl (x := .bool false) rfl ?_)
  change wpAny _ _ (field (.ref z) 3 >>= _) _ _ _
  refine wpAny_bind (wpAny_field hz rfl (x := .ref TI) rfl (wpAny_bind (wpAny_seqItems hTI rfl ?_)))
  change wpAny _ _ (Builtin.SmallTypes.ownedTupleIsFree (.ref z) >>= _) _ _ _
  refine wpAny_bind ?_
  unfold Builtin.SmallTypes.ownedTupleIsFree
  refine wpAny_bind (wpAny_field hz rfl (x := .none) rfl (wpAny_pure ?_))
  simp only [if_true]
  refine wpAny_bind (wpAny_rule (wpAny_bind (wpAny_field hz rfl (x := .ref TO) rfl (wpAny_bind (wpAny_setField_rec hz (by simp) fun g1 z1 t1 => ?_)))))
  have z1 : IsZip g1 z TI TO .ellipsis := z1
  refine wpAny_bind ?_
  simp only [List.zipIdx_cons, List.zipIdx_nil, List.forIn_cons, List.forIn_nil]
  refine wpAny_bind (wpAny_bind (wpAny_onRaise ?_))
  change wpAny _ _ (Builtin.SmallTypes.nextOf (.ref i1) >>= _) _ _ _
  cases hx : xs[k]? with
  | none =>
    refine wpAny_bind (nextT_end hh (h1.extBut t1.extBut D.a3) (hl1.extBut t1.extBut D.b2) hx fun g2 e t2 he => ?_)
    obtain ⟨oe, he1, he2⟩ := he
    have z2 : IsZip g2 z TI TO .ellipsis := t2 _ _ D.a3.symm z1
    have ne : e ≠ z := fun q => by subst q; rw [z2] at he1; cases he1; simp at he2
    exact wpAny_setField_rec z2 (by simp) fun g3 _ t3 => hE g3 e (fun c o c1 _ c3 _ q => t3.extBut _ _ c1 (t2 _ _ c3 (t1.extBut _ _ c1 q))) ⟨oe, t3.extBut _ _ ne he1, he2⟩
  | some x =>
    have hy : ys[k]? = none := by
      rcases hend with q | q
      · rw [hx] at q; cases q
      · exact q
    refine wpAny_bind (nextT_item (h1.extBut t1.extBut D.a3) (hl1.extBut t1.extBut D.b2) hx fun g2 u1 t2 => wpAny_pure ?_)
    have o2 : IsPair g2 TO a b := t2.extBut _ _ D.a8 (t1.extBut _ _ D.a2 hTO)
    refine wpAny_bind (wpAny_seqItems o2 rfl (wpAny_bind (wpAny_updateSeq_pair o2 fun g3 o3 t3 => ?_)))
    refine wpAny_bind (wpAny_letGo (wpAny_pure (wpAny_bind (wpAny_bind (wpAny_onRaise ?_)))))
    change wpAny _ _ (Builtin.SmallTypes.nextOf (.ref i2) >>= _) _ _ _
    refine wpAny_bind (nextT_end hh (((h2.extBut t1.extBut D.a4).extBut t2.extBut D.b1.symm).extBut t3.extBut D.a9.symm) (((hl2.extBut t1.extBut D.b6).extBut t2.extBut D.b8).extBut t3.extBut D.b7) hy fun g4 e t4 he => ?_)
    obtain ⟨oe, he1, he2⟩ := he
    have z4 : IsZip g4 z TI TO .ellipsis := t4 _ _ D.a4.symm (t3.extBut _ _ D.a2.symm (t2.extBut _ _ D.a3.symm z1))
    have ne : e ≠ z := fun q => by subst q; rw [z4] at he1; cases he1; simp at he2
    exact wpAny_setField_rec z4 (by simp) fun g5 _ t5 => hE g5 e (fun c o c1 c2 c3 c4 q => t5.extBut _ _ c1 (t4 _ _ c4 (t3.extBut _ _ c2 (t2.extBut _ _ c3 (t1.extBut _ _ c1 q))))) ⟨oe, t5.extBut _ _ ne he1, he2⟩
end
abbrev zT1 (h : Heap) (l1 : Addr) : Heap := h.push { cls := .type "tuple_iterator", data := .fields #[.ref l1, .int 0 0] }
abbrev zT2 (h : Heap) (l1 l2 : Addr) : Heap := (zT1 h l1).push { cls := .type "tuple_iterator", data := .fields #[.ref l2, .int 0 0] }
abbrev zT3 (h : Heap) (l1 l2 : Addr) : Heap := (zT2 h l1 l2).push { cls := .type "tuple", data := .seq #[.ref h.objs.size, .ref (zT1 h l1).objs.size] }
abbrev zT4 (h : Heap) (l1 l2 : Addr) : Heap := (zT3 h l1 l2).push { cls := .type "tuple", data := .seq #[.none, .none] }
abbrev zT5 (h : Heap) (l1 l2 : Addr) : Heap := (zT4 h l1 l2).push { cls := .type "zip", data := .fields #[.none, .bool false, .bool false, .ref (zT2 h l1 l2).objs.size, .ref (zT3 h l1 l2).objs.size] }
/-- zip(t, u) is made -/
theorem zipT_new (l1 l2 : Addr) (xs ys : Array Value) :
    Meets (Builtin.«zip.__new__» ⟨[.type "zip", .ref l1, .ref l2], []⟩) (fun _ R s => s.heap.IsTuple l1 xs ∧ s.heap.IsTuple l2 ys ∧ R (.ok (.ret (.ref (zT4 s.heap l1 l2).objs.size))) { s with heap := zT5 s.heap l1 l2 }) :=
  .of_wp fun prog w A R s h => by
    obtain ⟨hp, g, d, tk, os⟩ := s; obtain ⟨q1, q2, h⟩ := h
    have hsub := sub_zip
    have L1 : Heap.IsTuple (Shared.heap ⟨hp, g, d, tk, os⟩) l1 xs := q1
    have L2 : Heap.IsTuple (Shared.heap ⟨hp.push { cls := .type "tuple_iterator", data := .fields #[.ref l1, .int 0 0] }, g, d, tk, os⟩) l2 ys := Heap.IsTuple.push q2 _
    wp_walk using wpAny_pyIter_tuple L1, wpAny_pyIter_tuple L2
    exact ⟨_, rfl, h⟩
section
variable {prog : Program} {w : World} {A : Around} {E : Value → Shared → Prop} {s : Shared}
theorem call_zipT {l1 l2 : Addr} {xs ys : Array Value} {Q : Value → Shared → Prop} (q1 : s.heap.IsTuple l1 xs) (q2 : s.heap.IsTuple l2 ys)
    (h : ∀ h', IsZip h' (s.heap.objs.size + 4) (s.heap.objs.size + 2) (s.heap.objs.size + 3) .none → IsPair h' (s.heap.objs.size + 2) (.ref s.heap.objs.size) (.ref (s.heap.objs.size + 1)) → IsPair h' (s.heap.objs.size + 3) .none .none →
      h'.IsTupleIter s.heap.objs.size l1 0 → h'.IsTupleIter (s.heap.objs.size + 1) l2 0 → (∀ c o, s.heap.get? c = some o → h'.get? c = some o) → Q (.ref (s.heap.objs.size + 4)) { s with heap := h' }) : wpAny (model prog w) A (call (.type "zip") [.ref l1, .ref l2]) Q E s := by
  refine callType_new F.called_zip (by decide) (F.typeCall_zip_2 _ _) (F.newCall_zip_2 _ _) (fun obj => F.args_object_init_3 obj _ _) F.entry_zip_new (zipT_new l1 l2 xs ys) ⟨q1, q2, ?_⟩
  have y1 : (zT1 s.heap l1).objs.size = s.heap.objs.size + 1 := Heap.size_push ..
  have y2 : (zT2 s.heap l1 l2).objs.size = s.heap.objs.size + 2 := by rw [Heap.size_push, y1]
  have y3 : (zT3 s.heap l1 l2).objs.size = s.heap.objs.size + 3 := by rw [Heap.size_push, y2]
  have y4 : (zT4 s.heap l1 l2).objs.size = s.heap.objs.size + 4 := by rw [Heap.size_push, y3]
  have f5 : (zT5 s.heap l1 l2).get? (zT4 s.heap l1 l2).objs.size = some _ := Heap.get?_push_size _ rfl
  have f4 : (zT5 s.heap l1 l2).get? (zT3 s.heap l1 l2).objs.size = some _ := Heap.get?_push_of_some _ (Heap.get?_push_size _ rfl)
  have f3 : (zT5 s.heap l1 l2).get? (zT2 s.heap l1 l2).objs.size = some _ := Heap.get?_push_of_some _ (Heap.get?_push_of_some _ (Heap.get?_push_size _ rfl))
  have f2 : (zT5 s.heap l1 l2).get? (zT1 s.heap l1).objs.size = some _ := Heap.get?_push_of_some _ (Heap.get?_push_of_some _ (Heap.get?_push_of_some _ (Heap.get?_push_size _ rfl)))
  have f1 : (zT5 s.heap l1 l2).get? s.heap.objs.size = some _ := Heap.get?_push_of_some _ (Heap.get?_push_of_some _ (Heap.get?_push_of_some _ (Heap.get?_push_of_some _ (Heap.get?_push_size _ rfl))))
  change _ ∧ _
  rw [y2, y3, y4] at f5
  rw [y1, y2] at f3
  rw [y3] at f4
  rw [y1] at f2
  rw [y4]
  exact ⟨⟨_, f5, rfl⟩, h _ f5 f3 f4 ⟨_, f1, rfl, rfl⟩ ⟨_, f2, rfl, rfl⟩ fun c o x => Heap.get?_push_of_some _ (Heap.get?_push_of_some _ (Heap.get?_push_of_some _ (Heap.get?_push_of_some _ (Heap.get?_push_of_some _ x))))⟩
end
def Itz (K : PySem.W.Frag) (a b : Addr) : It :=
  ⟨fun i H => ∃ xs ys x y, SqT K H a xs ∧ SqT K H b ys ∧ xs[i]? = some x ∧ ys[i]? = some y, fun i H x H' => ∃ p v u, H p = none ∧ x = .ref p ∧ H' = upd H p (.tup [v, u]) ∧ (∀ xs, SqT K H a xs → xs[i]? = some v) ∧ ∀ ys, SqT K H b ys → ys[i]? = some u,
    fun i H => ∃ xs ys, SqT K H a xs ∧ SqT K H b ys ∧ (xs.length ≤ i ∨ ys.length ≤ i)⟩
theorem zT_pyNext_item {prog : Program} {w : World} {A : Around} {E : Value → Shared → Prop} {s : Shared} {z TI TO i1 i2 l1 l2 : Addr} {k : Nat} {xs ys : Array Value} {x y a b : Value} {Q : Option Value → Shared → Prop} (D : ZApart z TI TO i1 i2 l1 l2) (hz : IsZip s.heap z TI TO .none) (hTI : IsPair s.heap TI (.ref i1) (.ref i2)) (hTO : IsPair s.heap TO a b)
    (h1 : s.heap.IsTupleIter i1 l1 k) (h2 : s.heap.IsTupleIter i2 l2 k) (hl1 : s.heap.IsTuple l1 xs) (hl2 : s.heap.IsTuple l2 ys) (hx : xs[k]? = some x) (hy : ys[k]? = some y)
    (hQ : ∀ h', IsZip h' z TI TO (rawInt s.heap.objs.size) → IsPair h' TO x y → h'.IsTupleIter i1 l1 (k + 1) → h'.IsTupleIter i2 l2 (k + 1) → IsPair h' s.heap.objs.size x y →
      (∀ c o, c ≠ z → c ≠ TO → c ≠ i1 → c ≠ i2 → s.heap.get? c = some o → h'.get? c = some o) → Q (some (.ref s.heap.objs.size)) { s with heap := h' }) : wpAny (model prog w) A (pyNext (.ref z)) Q E s := by
  have hT : s.TypeIs (.ref z) "zip" := ⟨_, hz, rfl⟩
  unfold pyNext
  exact wpAny_bind (wpAny_attempt (wpAny_callSpecial?_slot (name := Str.ofString "__next__") hT F.slot_zip_next (wpAny_call_entry F.slot_zip_next hT F.entry_zip_next (zipT_item D hz hTI hTO h1 h2 hl1 hl2 hx hy fun h' a1 a2 a3 a4 a5 a6 => wpAny_pure (hQ h' a1 a2 a3 a4 a5 a6)) (F.args_zip_next_1 _))))
theorem zT_pyNext_end {prog : Program} {w : World} {A : Around} {E : Value → Shared → Prop} {s : Shared} {z TI TO i1 i2 l1 l2 : Addr} {k : Nat} {xs ys : Array Value} {a b : Value} {Q : Option Value → Shared → Prop} (hh : A.handled = none) (D : ZApart z TI TO i1 i2 l1 l2) (hz : IsZip s.heap z TI TO .none) (hTI : IsPair s.heap TI (.ref i1) (.ref i2)) (hTO : IsPair s.heap TO a b)
    (h1 : s.heap.IsTupleIter i1 l1 k) (h2 : s.heap.IsTupleIter i2 l2 k) (hl1 : s.heap.IsTuple l1 xs) (hl2 : s.heap.IsTuple l2 ys) (hend : xs[k]? = none ∨ ys[k]? = none)
    (hQ : ∀ h', (∀ c o, c ≠ z → c ≠ TO → c ≠ i1 → c ≠ i2 → s.heap.get? c = some o → h'.get? c = some o) → Q none { s with heap := h' }) : wpAny (model prog w) A (pyNext (.ref z)) Q E s := by
  have hT : s.TypeIs (.ref z) "zip" := ⟨_, hz, rfl⟩
  unfold pyNext
  refine wpAny_bind (wpAny_attempt (wpAny_callSpecial?_slot (name := Str.ofString "__next__") hT F.slot_zip_next (wpAny_call_entry F.slot_zip_next hT F.entry_zip_next (zipT_end hh D hz hTI hTO h1 h2 hl1 hl2 hend fun h' e hk he => ?_) (F.args_zip_next_1 _))))
  obtain ⟨o, q1, q2⟩ := he
  exact wpAny_bind (wpAny_isInstance (T := "StopIteration") (b := true) ⟨o, q1, q2⟩ isSubtype_stop (wpAny_pure (hQ _ hk)))
theorem zne {n : Nat} (i j : Nat) (h : i ≠ j) : n + i ≠ n + j := fun z => h (Nat.add_left_cancel z)
theorem turn_zip {P : Program} {w : World} {K : PySem.W.Frag} {elts : List Expr} {k : Nat} {pos : Pos} (a b n : Addr) : Turn P w K (.Tuple elts k pos) (Itz K a b) [n + 4, n + 2, n + 3, n, n + 1] (n + 4)
    (fun i h => IsZip h (n + 4) (n + 2) (n + 3) .none ∧ IsPair h (n + 2) (.ref n) (.ref (n + 1)) ∧ (∃ p q, IsPair h (n + 3) p q) ∧ h.IsTupleIter n a i ∧ h.IsTupleIter (n + 1) b i) where
  mem := by simp
  obj := fun i h st c hc => by
    obtain ⟨h1, h2, ⟨p, q, h3⟩, ⟨o1, e1, _, d1⟩, ⟨o2, e2, _, d2⟩⟩ := st
    simp only [List.mem_cons, List.not_mem_nil, or_false] at hc
    rcases hc with z | z | z | z | z
    · subst z; exact ⟨_, h1, fun v q => nomatch q⟩
    · subst z; exact ⟨_, h2, fun v q => nomatch q⟩
    · subst z; exact ⟨_, h3, fun v q => nomatch q⟩
    · subst z; exact ⟨o1, e1, fun v q => by rw [d1] at q; cases q⟩
    · subst z; exact ⟨o2, e2, fun v q => by rw [d2] at q; cases q⟩
  keep := fun i h h' st kk => by
    obtain ⟨h1, h2, ⟨p, q, h3⟩, ⟨o1, e1, r1⟩, ⟨o2, e2, r2⟩⟩ := st
    exact ⟨kk _ (by simp) _ h1, kk _ (by simp) _ h2, ⟨p, q, kk _ (by simp) _ h3⟩, ⟨o1, kk _ (by simp) _ e1, r1⟩, ⟨o2, kk _ (by simp) _ e2, r2⟩⟩
  item := by
    intro X hP hw hK hc i pins s σ H E I hf st hg
    subst hP hw hK
    obtain ⟨xs, ys, x, y, hq, hq', hx, hy⟩ := hg
    obtain ⟨its, rv, p1, hz⟩ := I.tuple hq
    obtain ⟨jts, rv', p2, hz'⟩ := I.tuple hq'
    obtain ⟨u, hu, ru⟩ := rv.get hx
    obtain ⟨u', hu', ru'⟩ := rv'.get hy
    obtain ⟨h1, h2, ⟨p, q, h3⟩, h4, h5⟩ := st
    have apart : ∀ c ∈ [n + 4, n + 2, n + 3, n, n + 1], ∀ v : List V, ∀ d : Addr, SqT X.K H d v → d ≠ c := fun c hc v d hd z => by
      have e := (hf c hc).1
      obtain ⟨its, _, ⟨o, e1, e2, _⟩, _⟩ := I.tuple hd
      rcases hd with (hd | ⟨ob, hd⟩) | hd
      · rw [z, e] at hd; cases hd
      · rw [z, e] at hd; cases hd
      · obtain ⟨ob, _, _, hk, _⟩ := hd
        have e3 := I.ok.mod.kin d ob hk
        obtain ⟨_, q1, _, q3, _⟩ := hf c hc
        rcases q3 with q3 | q3
        · exact I.ok.noex d ob e3 (z ▸ q3)
        · exact absurd (Nat.lt_of_lt_of_le (Heap.lt_size (I.ok.bs d ob e3).1) (z ▸ q3)) (Nat.lt_irrefl _)
    have D : ZApart (n + 4) (n + 2) (n + 3) n (n + 1) a b := ⟨zne 2 4 (by decide), zne 3 4 (by decide), zne 0 4 (by decide), zne 1 4 (by decide), zne 2 3 (by decide), zne 2 0 (by decide), zne 2 1 (by decide), zne 3 0 (by decide), zne 3 1 (by decide), zne 0 1 (by decide), apart _ (by simp) xs a hq, apart _ (by simp) xs a hq, apart _ (by simp) xs a hq, apart _ (by simp) xs a hq, apart _ (by simp) ys b hq', apart _ (by simp) ys b hq', apart _ (by simp) ys b hq', apart _ (by simp) ys b hq'⟩
    refine zT_pyNext_item D h1 h2 h3 h4 h5 (show s.heap.IsTuple a its.toArray from p1) (show s.heap.IsTuple b jts.toArray from p2) (x := u) (y := u') (by simpa using hu) (by simpa using hu') fun g g1 g2 g3 g4 g5 hk => ?_
    have hk' : ∀ c o, c ∉ [n + 4, n + 2, n + 3, n, n + 1] → s.heap.get? c = some o → g.get? c = some o := fun c o hc e => hk c o (fun z => hc (by simp [z])) (fun z => hc (by simp [z])) (fun z => hc (by simp [z])) (fun z => hc (by simp [z])) e
    have I1 : Inv X pins σ (upd H s.heap.objs.size (.tup [x, y])) { s with heap := g } := I.turnedNew (t' := s.toks) hk' hf (Nat.le_refl _) ⟨by show 2 ≤ sizeLine; exact Nat.le_of_lt (lim_ok (by decide)), [u, u'], .cons ru (.cons ru' .nil), ⟨_, g5, rfl, _, rfl⟩⟩
    refine ⟨_, rfl, wpAny_letOwnedTupleGo_zip g1 fun g' z' t' => ?_⟩
    have t' : Heap.SameBut (n + 4) g g' := t'
    have neT : ∀ c ∈ [n + 4, n + 2, n + 3, n, n + 1], c ≠ s.heap.objs.size := fun c hc z => by
      have lt : c < s.heap.objs.size := by
        obtain ⟨o1, e1, _⟩ := h4
        obtain ⟨o2, e2, _⟩ := h5
        simp only [List.mem_cons, List.not_mem_nil, or_false] at hc
        rcases hc with q | q | q | q | q
        · rw [q]; exact Heap.lt_size h1
        · rw [q]; exact Heap.lt_size h2
        · rw [q]; exact Heap.lt_size h3
        · rw [q]; exact Heap.lt_size e1
        · rw [q]; exact Heap.lt_size e2
      rw [z] at lt
      exact Nat.lt_irrefl _ lt
    have hf1 : ∀ c ∈ [n + 4, n + 2, n + 3, n, n + 1], FpOk X pins (upd H s.heap.objs.size (.tup [x, y])) c := fun c hc => ⟨by rw [upd_ne (neT c hc)]; exact (hf c hc).1, (hf c hc).2⟩
    have I2 := I1.turnedL (h' := g') (t' := s.toks) (fp := [n + 4, n + 2, n + 3, n, n + 1]) (fun c o hc e => (t'.2 c (fun z => hc (by simp [z]))).trans e) hf1
    have g2' : IsPair g (n + 2) (.ref n) (.ref (n + 1)) := hk _ _ D.a1 D.a5 D.a6 D.a7 h2
    obtain ⟨o3, e3, r3⟩ := g3
    obtain ⟨o4, e4, r4⟩ := g4
    exact ⟨.ref s.heap.objs.size, _, I2, rfl, ⟨s.heap.objs.size, x, y, I.fresh, rfl, rfl, fun zs hs => by rw [I.tuple_inj hs hq]; exact hx, fun zs hs => by rw [I.tuple_inj hs hq']; exact hy⟩,
      ⟨z', (t'.2 _ D.a1).trans g2', ⟨_, _, (t'.2 _ D.a2).trans g2⟩, ⟨o3, (t'.2 _ D.a3).trans e3, r3⟩, ⟨o4, (t'.2 _ D.a4).trans e4, r4⟩⟩, fun c hc => (hf1 c hc).1⟩
  done := by
    intro X hP hw hK hc i pins s σ H E I hf st hg
    subst hP hw hK
    obtain ⟨xs, ys, hq, hq', hx⟩ := hg
    obtain ⟨its, rv, p1, hz⟩ := I.tuple hq
    obtain ⟨jts, rv', p2, hz'⟩ := I.tuple hq'
    obtain ⟨h1, h2, ⟨p, q, h3⟩, h4, h5⟩ := st
    have apart : ∀ c ∈ [n + 4, n + 2, n + 3, n, n + 1], ∀ v : List V, ∀ d : Addr, SqT X.K H d v → d ≠ c := fun c hc v d hd z => by
      have e := (hf c hc).1
      rcases hd with (hd | ⟨ob, hd⟩) | hd
      · rw [z, e] at hd; cases hd
      · rw [z, e] at hd; cases hd
      · obtain ⟨ob, _, _, hk, _⟩ := hd
        have e3 := I.ok.mod.kin d ob hk
        obtain ⟨_, q1, _, q3, _⟩ := hf c hc
        rcases q3 with q3 | q3
        · exact I.ok.noex d ob e3 (z ▸ q3)
        · exact absurd (Nat.lt_of_lt_of_le (Heap.lt_size (I.ok.bs d ob e3).1) (z ▸ q3)) (Nat.lt_irrefl _)
    have D : ZApart (n + 4) (n + 2) (n + 3) n (n + 1) a b := ⟨zne 2 4 (by decide), zne 3 4 (by decide), zne 0 4 (by decide), zne 1 4 (by decide), zne 2 3 (by decide), zne 2 0 (by decide), zne 2 1 (by decide), zne 3 0 (by decide), zne 3 1 (by decide), zne 0 1 (by decide), apart _ (by simp) xs a hq, apart _ (by simp) xs a hq, apart _ (by simp) xs a hq, apart _ (by simp) xs a hq, apart _ (by simp) ys b hq', apart _ (by simp) ys b hq', apart _ (by simp) ys b hq', apart _ (by simp) ys b hq'⟩
    have l1 := rv.length
    have l2 := rv'.length
    refine zT_pyNext_end (I.ok.hd hc) D h1 h2 h3 h4 h5 (show s.heap.IsTuple a its.toArray from p1) (show s.heap.IsTuple b jts.toArray from p2) ?_ fun g hk => ⟨rfl, I.turnedL (t' := s.toks) (fp := [n + 4, n + 2, n + 3, n, n + 1]) (fun c o hc e => hk c o (fun z => hc (by simp [z])) (fun z => hc (by simp [z])) (fun z => hc (by simp [z])) (fun z => hc (by simp [z])) e) hf⟩
    rcases hx with q | q
    · exact .inl (by simp; omega)
    · exact .inr (by simp; omega)
  self := fun _ _ _ _ _ st h => wpAny_pyIter_zip st.1 h
def zipD : List D → List D → List D
  | x :: xs, y :: ys => .tup [x, y] :: zipD xs ys
  | _, _ => []
theorem zipD_get : ∀ {xs ys : List D} {i : Nat} {d : D}, (zipD xs ys)[i]? = some d → ∃ x y, xs[i]? = some x ∧ ys[i]? = some y ∧ d = .tup [x, y]
  | [], _, _, _, h => by simp [zipD] at h
  | _ :: _, [], _, _, h => by simp [zipD] at h
  | x :: xs, y :: ys, 0, d, h => by simp [zipD] at h; exact ⟨x, y, rfl, rfl, h.symm⟩
  | x :: xs, y :: ys, i + 1, d, h => by
    simp only [zipD, List.getElem?_cons_succ] at h
    obtain ⟨a, b, h1, h2, h3⟩ := zipD_get h
    exact ⟨a, b, by simpa using h1, by simpa using h2, h3⟩
theorem zipD_len : ∀ (xs ys : List D), (zipD xs ys).length = min xs.length ys.length
  | [], _ => by simp [zipD]
  | _ :: _, [] => by simp [zipD]
  | x :: xs, y :: ys => by rw [zipD, List.length_cons, zipD_len xs ys, List.length_cons, List.length_cons]; omega
theorem yields_zip {K : PySem.W.Frag} {G : Hp} {a b : Addr} {vs us : List V} {ds es : List D} (h : SqT K G a vs) (r : Reps K G ds vs) (h' : SqT K G b us) (r' : Reps K G es us) : Yields K (Itz K a b) G (zipD ds es) := by
  intro i G2 H2 s1 s2
  have q : SqT K H2 a vs := (s1.trans s2).tup h
  have q' : SqT K H2 b us := (s1.trans s2).tup h'
  refine ⟨fun d hd => ?_, fun hi => ⟨vs, us, q, q', ?_⟩⟩
  · obtain ⟨x, y, h1, h2, rfl⟩ := zipD_get hd
    obtain ⟨v, e1, rv⟩ := r.get h1
    obtain ⟨u, e2, ru⟩ := r'.get h2
    refine ⟨⟨vs, us, v, u, q, q', e1, e2⟩, fun x' H3 yy => ?_⟩
    obtain ⟨p, v', u', hp, rfl, rfl, y1, y2⟩ := yy
    have f1 := y1 vs q
    rw [e1] at f1; cases f1
    have f2 := y2 us q'
    rw [e2] at f2; cases f2
    have s3 := Step.laid (o := .tup [v, u]) s2 hp
    exact ⟨_, s3, rep_tup.mpr ⟨p, _, rfl, .of upd_same, reps_cons.mpr ⟨_, _, rfl, (rv.mono s1).mono s3.gg, reps_cons.mpr ⟨_, _, rfl, (ru.mono s1).mono s3.gg, reps_nil.mpr rfl⟩⟩⟩⟩
  · rw [zipD_len] at hi
    rw [← r.length, ← r'.length]
    omega
section
variable {X : Cx} {a b c e tg elt iter : Expr} {fa fb : Ef} {pos p : Pos}
def iZip (f g : Ef) : Lf := fun ρ => (f ρ).bind fun x => (g ρ).bind fun y => match x, y with | .tup xs, .tup ys => some (zipD xs ys) | _, _ => none
theorem pi_zip {elts : List Expr} {k : Nat} {pos' : Pos} (hg : Gl X "zip") (hm : X.mg "zip" = none) (ha : PF X a fa) (hb : PF X b fb) (hs : starEach [a, b] X.env = [(false, eval a X.env), (false, eval b X.env)] := by rfl) (hs2 : starEach [b] X.env = [(false, eval b X.env)] := by rfl) :
    PFI X (.Tuple elts k pos') (.Call (.Name "zip" p) [a, b] [] pos) (iZip fa fb) := by
  intro pins s σ H R I q
  obtain ⟨G0, H0, G, ρ, ds, good, hf, kk⟩ := q
  unfold iZip at hf
  obtain ⟨x, h1, hf⟩ := Option.bind_eq_some_iff.mp hf
  obtain ⟨y, h2, hf⟩ := Option.bind_eq_some_iff.mp hf
  cases x with
  | tup xs =>
    cases y with
    | tup ys =>
      cases hf
      have hA := pa_cons ha (pa_cons hb pa_nil (by rw [hs2]; rfl)) (by rw [hs, hs2]) pos pins s σ H (fun vs H' => ∃ a b us ws G', vs = [.ref a, .ref b] ∧ Step G H G' H' ∧ SqT X.K G' a us ∧ Reps X.K G' xs us ∧ SqT X.K G' b ws ∧ Reps X.K G' ys ws) I
        ⟨G0, H0, G, ρ, _, good, h1, fun v H1 G1 s1 r1 => ⟨G0, H0, G1, ρ, _, good.step s1, h2, fun u H2 G2 s2 r2 => by
          obtain ⟨a, us, rfl, q1, q2⟩ := rep_tup.mp (r1.mono s2.gg)
          obtain ⟨b, ws, rfl, q3, q4⟩ := rep_tup.mp r2
          exact ⟨a, b, us, ws, G2, rfl, s1.trans s2, q1, q2, q3, q4⟩⟩⟩
      refine Call_ (ld_blt I hg hm (by rfl) (PyProof.Rows.callWith_type1 (thn hA fun us s1 ⟨vs, H1, I1, r1, l1, l2, ws, zs, G1, e1, st1, q1, q2, q3, q4⟩ => ?_) (by rw [hs, hs2]) (by rw [hs2]; rfl)))
      subst e1
      obtain ⟨u, u', rfl, ru, ru'⟩ := vals2 r1
      cases ru
      cases ru'
      obtain ⟨its, rv, p1, _⟩ := I1.tuple (st1.sub.tup q1)
      obtain ⟨jts, rv', p2, _⟩ := I1.tuple (st1.sub.tup q3)
      refine call_zipT (show s1.heap.IsTuple l1 its.toArray from p1) (show s1.heap.IsTuple l2 jts.toArray from p2) fun h' z1 z2 z3 z4 z5 hk => ?_
      have I2 : Inv X pins σ H1 { s1 with heap := h' } := I1.kept (t' := s1.toks) hk
      refine wpAny_pyIter_zip z1 ?_
      refine ⟨_, [s1.heap.objs.size + 4, s1.heap.objs.size + 2, s1.heap.objs.size + 3, s1.heap.objs.size, s1.heap.objs.size + 1], _, _, H1, rfl, I2, turn_zip l1 l2 s1.heap.objs.size, ⟨z1, z2, ⟨_, _, z3⟩, z4, z5⟩, fun b hb => ?_, kk _ H1 G1 st1 (yields_zip q1 q2 q3 q4)⟩
      have hb' : s1.heap.objs.size ≤ b := by
        simp only [List.mem_cons, List.not_mem_nil, or_false] at hb
        rcases hb with z | z | z | z | z <;> (rw [z]; first | exact Nat.le_refl _ | exact Nat.le_add_right _ _)
      exact I1.fpOk hb' (I1.hok.fresh hb')
    | _ => cases hf
  | _ => cases hf
end
end L2

set_option maxHeartbeats 4000000
namespace L2
open PySem PySem.Spec PyProof.Rows

/-! ### == of trees -/
def eqDs (f : D → D → Option Bool) : List D → List D → Option Bool
  | x :: xs, y :: ys => (f x y).bind fun a => (eqDs f xs ys).map fun b => a && b
  | _, _ => some true
def eqD : Nat → D → D → Option Bool
  | _ + 1, .int i, .int j => some (i == j)
  | _ + 1, .bl i, .bl j => some (i == j)
  | _ + 1, .str i, .str j => some (i == j)
  | _ + 1, .non, .non => some true
  | n + 1, .tup xs, .tup ys => (eqDs (eqD n) xs ys).map fun b => b && xs.length == ys.length
  | n + 1, .lst xs, .lst ys => if xs.length = ys.length then eqDs (eqD n) xs ys else some false
  | _, _, _ => none
def pairAt (f : D → D → Option Bool) (xs ys : List D) (j : Nat) : Bool := match xs[j]?, ys[j]? with | some a, some c => (f a c).getD true | _, _ => true
theorem eqDs_all {f : D → D → Option Bool} : ∀ {xs ys : List D} {b : Bool}, eqDs f xs ys = some b → b = (List.range (min xs.length ys.length)).all (pairAt f xs ys) ∧ ∀ (j : Nat) (a c : D), xs[j]? = some a → ys[j]? = some c → f a c = some (pairAt f xs ys j)
  | [], _, _, h => by cases h; exact ⟨by simp, fun j a c e => by simp at e⟩
  | _ :: _, [], _, h => by cases h; exact ⟨by simp, fun j a c _ e => by simp at e⟩
  | x :: xs, y :: ys, b, h => by
    unfold eqDs at h
    obtain ⟨a, h1, h⟩ := Option.bind_eq_some_iff.mp h
    obtain ⟨b', h2, rfl⟩ := Option.map_eq_some_iff.mp h
    obtain ⟨e1, e2⟩ := eqDs_all h2
    constructor
    · rw [List.length_cons, List.length_cons, Nat.succ_min_succ, List.range_succ_eq_map, List.all_cons, List.all_map, e1]
      congr 1
      simp [pairAt, h1]
    · intro j p q hp hq
      cases j with
      | zero =>
        simp at hp hq
        subst hp; subst hq
        simp [pairAt, h1]
      | succ j =>
        have := e2 j p q (by simpa using hp) (by simpa using hq)
        simpa [pairAt] using this
section
variable {X : Cx} {pins : List (Addr × Obj)} {σ : St} {H G : Hp} {s : Shared}
/-- two trees at one value are equal -/
theorem eqD_same (I : Inv X pins σ H s) (sub : Same G H) : ∀ (n : Nat) (d d' : D) (x : V) (k : Bool), eqD n d d' = some k → Rep X.K G d x → Rep X.K G d' x → k = true := by
  intro n
  induction n with
  | zero => intro d d' x k h; cases d <;> cases d' <;> cases h
  | succ n ih =>
    have many : ∀ (ds es : List D) (vs : List V) (b : Bool), eqDs (eqD n) ds es = some b → Reps X.K G ds vs → Reps X.K G es vs → b = true := by
      intro ds
      induction ds with
      | nil => intro es vs b h _ _; cases h; rfl
      | cons d r ihr =>
        intro es vs b h r1 r2
        cases es with
        | nil => cases h; rfl
        | cons e t =>
          unfold eqDs at h
          obtain ⟨a, h1, h⟩ := Option.bind_eq_some_iff.mp h
          obtain ⟨b', h2, rfl⟩ := Option.map_eq_some_iff.mp h
          obtain ⟨v, vr, rfl, q1, q2⟩ := reps_cons.mp r1
          obtain ⟨v', vr', e', q3, q4⟩ := reps_cons.mp r2
          cases e'
          rw [ih d e v a h1 q1 q3, ihr t vr b' h2 q2 q4]; rfl
    intro d d' x k h r1 r2
    cases d with
    | int i =>
      cases d' with
      | int j => cases h; rw [rep_int] at r1 r2; rw [r1] at r2; cases r2; simp
      | _ => cases h
    | bl i =>
      cases d' with
      | bl j => cases h; rw [rep_bl] at r1 r2; rw [r1] at r2; cases r2; simp
      | _ => cases h
    | str i =>
      cases d' with
      | str j => cases h; rw [rep_str] at r1 r2; rw [r1] at r2; cases r2; simp
      | _ => cases h
    | non =>
      cases d' with
      | non => cases h; rfl
      | _ => cases h
    | tup ds =>
      cases d' with
      | tup es =>
        unfold eqD at h
        obtain ⟨b, h1, rfl⟩ := Option.map_eq_some_iff.mp h
        obtain ⟨p, vs, e1, q1, q2⟩ := rep_tup.mp r1
        obtain ⟨p', vs', e2, q3, q4⟩ := rep_tup.mp r2
        rw [e1] at e2; cases e2
        have ev := I.tuple_inj (sub.tup q1) (sub.tup q3)
        subst ev
        rw [many ds es vs b h1 q2 q4, q2.length, q4.length]; simp
      | _ => cases h
    | lst ds =>
      cases d' with
      | lst es =>
        unfold eqD at h
        obtain ⟨p, vs, e1, q1, q2⟩ := rep_lst.mp r1
        obtain ⟨p', vs', e2, q3, q4⟩ := rep_lst.mp r2
        rw [e1] at e2; cases e2
        have ev := I.list_inj (sub.seq q1) (sub.seq q3)
        subst ev
        rw [if_pos (by rw [q2.length, q4.length])] at h
        exact many ds es vs k h q2 q4
      | _ => cases h
    | obj C ns ds => cases d' <;> cases h
    | exc C ns ds => cases d' <;> cases h
theorem at_D (I : Inv X pins σ H s) (sub : Same G H) : ∀ (n : Nat) (A : Around) (d d' : D) (x y : V) (u v : Value) (k : Bool), A.units + n < cLine → eqD n d d' = some k → Rep X.K G d x → Rep X.K G d' y → RelV x u → RelV y v →
    SeqAt.RcAt A s u v k ∧ SeqAt.RcNeAt A s u v (!k) ∧ SeqAt.EqAt A s u v k := by
  intro n
  induction n with
  | zero => intro A d d' x y u v k _ h; cases d <;> cases d' <;> cases h
  | succ n ih =>
    intro A d d' x y u v k hu h r1 r2 ru rv
    have hu1 : A.units < cLine := by omega
    have hin : A.in1.units + n < cLine := by show A.units + 1 + n < cLine; omega
    cases d with
    | int i =>
      cases d' with
      | int j => cases h; rw [rep_int] at r1 r2; subst r1; subst r2; obtain ⟨t, rfl⟩ := ru; obtain ⟨t', rfl⟩ := rv; exact ⟨SeqAt.RcAt.int_int _ _ _ _, SeqAt.RcNeAt.int_int _ _ _ _, SeqAt.EqAt.int_int _ _ _ _⟩
      | _ => cases h
    | bl i =>
      cases d' with
      | bl j => cases h; rw [rep_bl] at r1 r2; subst r1; subst r2; cases ru; cases rv; exact ⟨SeqAt.RcAt.bool_bool _ _, SeqAt.RcNeAt.bool_bool _ _, SeqAt.EqAt.bool_bool _ _⟩
      | _ => cases h
    | str i =>
      cases d' with
      | str j => cases h; rw [rep_str] at r1 r2; subst r1; subst r2; obtain ⟨t, rfl⟩ := ru; obtain ⟨t', rfl⟩ := rv; exact ⟨SeqAt.RcAt.str_str _ _ _ _, SeqAt.RcNeAt.str_str _ _ _ _, SeqAt.EqAt.str_str _ _ _ _⟩
      | _ => cases h
    | non =>
      cases d' with
      | non => cases h; rw [rep_non] at r1 r2; subst r1; subst r2; cases ru; cases rv; exact ⟨SeqAt.RcAt.none_none, SeqAt.RcNeAt.none_none, SeqAt.EqAt.same _⟩
      | _ => cases h
    | tup ds =>
      cases d' with
      | tup es =>
        have h0 := h
        unfold eqD at h
        obtain ⟨b, h1, rfl⟩ := Option.map_eq_some_iff.mp h
        obtain ⟨p, vs, rfl, q1, q2⟩ := rep_tup.mp r1
        obtain ⟨p', vs', rfl, q3, q4⟩ := rep_tup.mp r2
        cases ru; cases rv
        obtain ⟨its, w1, t1, _⟩ := I.tuple (sub.tup q1)
        obtain ⟨jts, w2, t2, _⟩ := I.tuple (sub.tup q3)
        obtain ⟨e1, e2⟩ := eqDs_all h1
        have l1 : ds.length = its.length := q2.length.trans w1.length
        have l2 : es.length = jts.length := q4.length.trans w2.length
        have he : ∀ j (a1 : j < its.toArray.size) (a2 : j < jts.toArray.size), SeqAt.EqAt A.in1 s its.toArray[j] jts.toArray[j] (pairAt (eqD n) ds es j) := fun j a1 a2 => by
          have b1 : j < ds.length := by rw [l1]; simpa using a1
          have b2 : j < es.length := by rw [l2]; simpa using a2
          obtain ⟨v1, f1, g1⟩ := q2.get (List.getElem?_eq_getElem b1)
          obtain ⟨v2, f2, g2⟩ := q4.get (List.getElem?_eq_getElem b2)
          obtain ⟨u1, f3, g3⟩ := w1.get f1
          obtain ⟨u2, f4, g4⟩ := w2.get f2
          have x1 : its.toArray[j] = u1 := by
            have := (List.getElem?_eq_some_iff.mp f3).2
            simpa using this
          have x2 : jts.toArray[j] = u2 := by
            have := (List.getElem?_eq_some_iff.mp f4).2
            simpa using this
          rw [x1, x2]
          exact (ih A.in1 _ _ v1 v2 u1 u2 _ hin (e2 j _ _ (List.getElem?_eq_getElem b1) (List.getElem?_eq_getElem b2)) g1 g2 g3 g4).2.2
        have ek : ((List.range (min its.toArray.size jts.toArray.size)).all (pairAt (eqD n) ds es) && its.toArray.size == jts.toArray.size) = (b && ds.length == es.length) := by
          rw [List.size_toArray, List.size_toArray, ← l1, ← l2, e1]
        have R1 := SeqAt.RcAt.tuples t1 t2 hu1 he
        have R2 := SeqAt.RcNeAt.tuples t1 t2 hu1 he
        rw [ek] at R1 R2
        refine ⟨R1, R2, ?_⟩
        by_cases hp : p = p'
        · subst hp
          have hk := eqD_same I sub (n + 1) (.tup ds) (.tup es) (.ref p) _ h0 r1 r2
          rw [hk]
          exact SeqAt.EqAt.same _
        · exact .of_refs hp R1
      | _ => cases h
    | lst ds =>
      cases d' with
      | lst es =>
        have h0 := h
        unfold eqD at h
        obtain ⟨p, vs, rfl, q1, q2⟩ := rep_lst.mp r1
        obtain ⟨p', vs', rfl, q3, q4⟩ := rep_lst.mp r2
        cases ru; cases rv
        obtain ⟨its, w1, t1, _⟩ := I.list (sub.seq q1)
        obtain ⟨jts, w2, t2, _⟩ := I.list (sub.seq q3)
        have l1 : ds.length = its.length := q2.length.trans w1.length
        have l2 : es.length = jts.length := q4.length.trans w2.length
        have fin : SeqAt.RcAt A s (.ref p) (.ref p') k ∧ SeqAt.RcNeAt A s (.ref p) (.ref p') (!k) := by
          split at h
          · rename_i hl
            obtain ⟨e1, e2⟩ := eqDs_all h
            have he : ∀ j (a1 : j < its.toArray.size) (a2 : j < jts.toArray.size), SeqAt.EqAt A.in1 s its.toArray[j] jts.toArray[j] (pairAt (eqD n) ds es j) := fun j a1 a2 => by
              have b1 : j < ds.length := by rw [l1]; simpa using a1
              have b2 : j < es.length := by rw [l2]; simpa using a2
              obtain ⟨v1, f1, g1⟩ := q2.get (List.getElem?_eq_getElem b1)
              obtain ⟨v2, f2, g2⟩ := q4.get (List.getElem?_eq_getElem b2)
              obtain ⟨u1, f3, g3⟩ := w1.get f1
              obtain ⟨u2, f4, g4⟩ := w2.get f2
              have x1 : its.toArray[j] = u1 := by
                have := (List.getElem?_eq_some_iff.mp f3).2
                simpa using this
              have x2 : jts.toArray[j] = u2 := by
                have := (List.getElem?_eq_some_iff.mp f4).2
                simpa using this
              rw [x1, x2]
              exact (ih A.in1 _ _ v1 v2 u1 u2 _ hin (e2 j _ _ (List.getElem?_eq_getElem b1) (List.getElem?_eq_getElem b2)) g1 g2 g3 g4).2.2
            have hsz : its.toArray.size = jts.toArray.size := by rw [List.size_toArray, List.size_toArray, ← l1, ← l2, hl]
            have ek : (List.range its.toArray.size).all (pairAt (eqD n) ds es) = k := by
              rw [e1, List.size_toArray, ← l1, ← hl, Nat.min_self]
            have R1 := SeqAt.RcAt.lists t1.isList t2.isList hsz hu1 he
            have R2 := SeqAt.RcNeAt.lists t1.isList t2.isList hsz hu1 he
            rw [ek] at R1 R2
            exact ⟨R1, R2⟩
          · rename_i hl
            cases h
            have hsz : (its.toArray.size != jts.toArray.size) = true := by
              rw [List.size_toArray, List.size_toArray, ← l1, ← l2]
              simpa using hl
            exact ⟨SeqAt.RcAt.lists_lengths t1.isList t2.isList hsz hu1, SeqAt.RcNeAt.lists_lengths t1.isList t2.isList hsz hu1⟩
        refine ⟨fin.1, fin.2, ?_⟩
        by_cases hp : p = p'
        · subst hp
          have hk := eqD_same I sub (n + 1) (.lst ds) (.lst es) (.ref p) _ h0 r1 r2
          rw [hk]
          exact SeqAt.EqAt.same _
        · exact .of_refs hp fin.1
      | _ => cases h
    | obj C ns ds => cases d' <;> cases h
    | exc C ns ds => cases d' <;> cases h
end
section
variable {X : Cx} {a b c e : Expr} {fa fb : Ef} {ga gb : Lf} {pos p : Pos} {k : Nat}
def gEqD : D → D → Option Bool := eqD 8
def gNeD (x y : D) : Option Bool := (eqD 8 x y).map (!·)
theorem cm_eqD (hr : Room k X.A) : CmR X .Eq gEqD := by
  refine ⟨fun x y H Q => ∃ G d d' b, Same G H ∧ Rep X.K G d x ∧ Rep X.K G d' y ∧ eqD 8 d d' = some b ∧ Q (.bl b) H, ?_, fun d d' k G H x y Q h s rx ry q => ⟨G, d, d', k, s, rx, ry, h, q H G (.refl s)⟩⟩
  intro pins s σ H x y v u Q I rx ry ⟨G, d, d', b, sub, r1, r2, h, q⟩
  have hu := hr.units
  exact (at_D I sub 8 X.A d d' x y v u b (by omega) h r1 r2 rx ry).1 X.prog X.w X.xe _ ⟨.bl b, H, I, rfl, q⟩
theorem cm_neD (hr : Room k X.A) : CmR X .NotEq gNeD := by
  refine ⟨fun x y H Q => ∃ G d d' b, Same G H ∧ Rep X.K G d x ∧ Rep X.K G d' y ∧ eqD 8 d d' = some b ∧ Q (.bl (!b)) H, ?_, fun d d' k G H x y Q h s rx ry q => ?_⟩
  · intro pins s σ H x y v u Q I rx ry ⟨G, d, d', b, sub, r1, r2, h, q⟩
    have hu := hr.units
    exact (at_D I sub 8 X.A d d' x y v u b (by omega) h r1 r2 rx ry).2.1 X.prog X.w X.xe _ ⟨.bl (!b), H, I, rfl, q⟩
  · unfold gNeD at h
    obtain ⟨b, h1, rfl⟩ := Option.map_eq_some_iff.mp h
    exact ⟨G, d, d', b, s, rx, ry, h1, q H G (.refl s)⟩
/-! ### in, not in a list or tuple of flat items -/
def flatD : D → Option V
  | .non => some .non
  | .bl b => some (.bl b)
  | .int i => some (.int i)
  | .str x => some (.str x)
  | _ => none
def flatDs : List D → Option (List V)
  | [] => some []
  | d :: r => (flatD d).bind fun v => (flatDs r).map fun vs => v :: vs
theorem flatD_rep {K : PySem.W.Frag} {G : Hp} {d : D} {v x : V} (h : flatD d = some v) (r : Rep K G d x) : x = v ∧ flatV v = true := by
  cases d with
  | non => cases h; exact ⟨rep_non.mp r, rfl⟩
  | bl b => cases h; exact ⟨rep_bl.mp r, rfl⟩
  | int i => cases h; exact ⟨rep_int.mp r, rfl⟩
  | str i => cases h; exact ⟨rep_str.mp r, rfl⟩
  | _ => cases h
theorem flatDs_rep {K : PySem.W.Frag} {G : Hp} : ∀ {ds : List D} {vs xs : List V}, flatDs ds = some vs → Reps K G ds xs → xs = vs ∧ vs.all flatV = true
  | [], _, _, h, r => by cases h; rw [reps_nil] at r; exact ⟨r, rfl⟩
  | d :: t, _, _, h, r => by
    unfold flatDs at h
    obtain ⟨v, h1, h⟩ := Option.bind_eq_some_iff.mp h
    obtain ⟨vs, h2, rfl⟩ := Option.map_eq_some_iff.mp h
    obtain ⟨x, xr, rfl, r1, r2⟩ := reps_cons.mp r
    obtain ⟨rfl, f1⟩ := flatD_rep h1 r1
    obtain ⟨rfl, f2⟩ := flatDs_rep h2 r2
    exact ⟨rfl, by rw [List.all_cons, f1, f2]; rfl⟩
def gInL (x y : D) : Option Bool := (flatD x).bind fun v => match y with
  | .lst ds => (flatDs ds).map fun vs => inV v vs
  | .tup ds => (flatDs ds).map fun vs => inV v vs
  | _ => none
def gNotInL (x y : D) : Option Bool := (gInL x y).map (!·)
theorem gInL_ok {K : PySem.W.Frag} {G H : Hp} {d d' : D} {x y : V} {k : Bool} (h : gInL d d' = some k) (s : Same G H) (rx : Rep K G d x) (ry : Rep K G d' y) : ∃ p xs, y = .ref p ∧ (SqL K H p xs ∨ SqT K H p xs) ∧ flatV x = true ∧ xs.all flatV = true ∧ k = inV x xs := by
  unfold gInL at h
  obtain ⟨v, h1, h⟩ := Option.bind_eq_some_iff.mp h
  obtain ⟨rfl, f1⟩ := flatD_rep h1 rx
  cases d' with
  | lst ds =>
    obtain ⟨vs, h2, rfl⟩ := Option.map_eq_some_iff.mp h
    obtain ⟨p, xs, rfl, q1, q2⟩ := rep_lst.mp ry
    obtain ⟨rfl, f2⟩ := flatDs_rep h2 q2
    exact ⟨p, _, rfl, .inl (s.seq q1), f1, f2, rfl⟩
  | tup ds =>
    obtain ⟨vs, h2, rfl⟩ := Option.map_eq_some_iff.mp h
    obtain ⟨p, xs, rfl, q1, q2⟩ := rep_tup.mp ry
    obtain ⟨rfl, f2⟩ := flatDs_rep h2 q2
    exact ⟨p, _, rfl, .inr (s.tup q1), f1, f2, rfl⟩
  | _ => cases h
theorem cm_inL : CmR X .In gInL := ⟨_, op_in_seq, fun d d' k G H x y Q h s rx ry q => by
  obtain ⟨p, xs, e1, e2, e3, e4, rfl⟩ := gInL_ok h s rx ry
  exact ⟨p, xs, e1, e2, e3, e4, q H G (.refl s)⟩⟩
theorem cm_notInL : CmR X .NotIn gNotInL := ⟨_, op_notIn_seq, fun d d' k G H x y Q h s rx ry q => by
  unfold gNotInL at h
  obtain ⟨k', h', rfl⟩ := Option.map_eq_some_iff.mp h
  obtain ⟨p, xs, e1, e2, e3, e4, rfl⟩ := gInL_ok h' s rx ry
  exact ⟨p, xs, e1, e2, e3, e4, q H G (.refl s)⟩⟩
/-! ### sorted(list of ints), fewer than 64 -/
def insI (x : Int) : List Int → List Int
  | [] => [x]
  | y :: r => if x ≤ y then x :: y :: r else y :: insI x r
def sortI : List Int → List Int
  | [] => []
  | x :: r => insI x (sortI r)
theorem insI_perm (x : Int) : ∀ l : List Int, (insI x l).Perm (x :: l)
  | [] => .refl _
  | y :: r => by
    unfold insI
    split
    · exact .refl _
    · exact (List.Perm.cons y (insI_perm x r)).trans (List.Perm.swap x y r)
theorem sortI_perm : ∀ l : List Int, (sortI l).Perm l
  | [] => .refl _
  | x :: r => (insI_perm x (sortI r)).trans (.cons x (sortI_perm r))
theorem insI_sorted (x : Int) : ∀ l : List Int, l.Pairwise (· ≤ ·) → (insI x l).Pairwise (· ≤ ·)
  | [], _ => by unfold insI; simp
  | y :: r, h => by
    unfold insI
    split
    · rename_i hxy
      refine List.pairwise_cons.mpr ⟨fun z hz => ?_, h⟩
      rcases List.mem_cons.mp hz with q | q
      · rw [q]; exact hxy
      · exact Int.le_trans hxy ((List.pairwise_cons.mp h).1 z q)
    · rename_i hxy
      refine List.pairwise_cons.mpr ⟨fun z hz => ?_, insI_sorted x r (List.pairwise_cons.mp h).2⟩
      rcases List.mem_cons.mp ((insI_perm x r).mem_iff.mp hz) with q | q
      · rw [q]; omega
      · exact (List.pairwise_cons.mp h).1 z q
theorem sortI_sorted : ∀ l : List Int, (sortI l).Pairwise (· ≤ ·)
  | [] => .nil
  | x :: r => insI_sorted x _ (sortI_sorted r)
theorem sorted_one {l m : List Int} (hp : l.Perm m) (hl : l.Pairwise (· ≤ ·)) (hm : m.Pairwise (· ≤ ·)) : l = m := hp.eq_of_pairwise (fun a b _ _ h1 h2 => Int.le_antisymm h1 h2) hl hm
def intsD : List D → Option (List Int)
  | [] => some []
  | .int i :: r => (intsD r).map fun is => i :: is
  | _ => none
theorem intsD_rep {K : PySem.W.Frag} {G : Hp} : ∀ {ds : List D} {is : List Int} {vs : List V}, intsD ds = some is → Reps K G ds vs → vs = is.map V.int
  | [], _, _, h, r => by cases h; rw [reps_nil] at r; rw [r]; rfl
  | d :: t, _, _, h, r => by
    unfold intsD at h
    split at h
    · rename_i h'; cases h'
    · rename_i k t' h'
      cases h'
      obtain ⟨v, vr, rfl, r1, r2⟩ := reps_cons.mp r
      obtain ⟨ks, h1, rfl⟩ := Option.map_eq_some_iff.mp h
      rw [intsD_rep h1 r2, rep_int.mp r1]; rfl
    · cases h
theorem call_sortedI : CallR X (.builtin "sorted") (fun xs H Q => ∃ (q : Addr) (ns : List Int), xs = [V.ref q] ∧ SqL X.K H q (ns.map V.int) ∧ ns.length < 64 ∧ ∀ l, H l = none → Q (.ref l) (upd H l (.lst ((sortI ns).map V.int)))) := by
  intro pins s σ H xs us Q I r h
  obtain ⟨q, ns, rfl, hq, hl, k⟩ := h
  obtain ⟨u, rfl, ru⟩ := vals1 r
  cases ru
  obtain ⟨its, rv, pl, hz⟩ := I.list hq
  have hi := intsAre_of rv
  have hlen : its.length < 64 := by rw [← rv.length, List.length_map]; exact hl
  refine sorted_ints pl.isList hi hlen fun out ns' a1 a2 a3 => ?_
  obtain ⟨e, he⟩ := sortedAll_at s.heap its out
  have en : ns' = sortI ns := sorted_one (a2.trans (sortI_perm ns).symm) a3 (sortI_sorted ns)
  subst en
  have hsz : s.heap.objs.size ≤ s.heap.objs.size + 1 := Nat.le_succ _
  refine ⟨.ref (s.heap.objs.size + 1), _, I.laid (t' := s.toks) (o := .lst ((sortI ns).map V.int)) (fun b o e => sortedAll_old e) hsz ?_, rfl, k _ (I.hok.fresh hsz)⟩
  refine ⟨?_, out.toList, e, vals_ints a1, by simpa [seqObj] using he⟩
  rw [List.length_map, (sortI_perm ns).length_eq]
  exact Nat.le_of_lt (lim_ok (by show ns.length ≤ 100000; omega))
theorem reps_ints {K : PySem.W.Frag} {G : Hp} : ∀ ns : List Int, Reps K G (ns.map .int) (ns.map V.int)
  | [] => reps_nil.mpr rfl
  | n :: r => reps_cons.mpr ⟨_, _, rfl, rep_int.mpr rfl, reps_ints r⟩
def lSorted (g : Lf) : Lf := fun ρ => (g ρ).bind fun ds => (intsD ds).bind fun ns => if ns.length < 64 then some ((sortI ns).map .int) else none
theorem pl_sorted (hg : Gl X "sorted") (hm : X.mg "sorted" = none) (h : PSrc X a ga) (hs : starEach [a] X.env = [(false, eval a X.env)] := by rfl) : PFr X (.Call (.Name "sorted" p) [a] [] pos) (lSorted ga) := by
  refine PE.toR (pe_callB call_sortedI hg hm (by rfl) (pa_cons h pa_nil (by rw [hs]; rfl)) (by decide) (by decide) (by rw [hs]; rfl) (by rfl)) ?_
  rintro σ H Q ⟨G0, H0, G, ρ, d, good, hf, k⟩
  unfold lSorted at hf
  obtain ⟨ds, h1, hf⟩ := Option.bind_eq_some_iff.mp hf
  obtain ⟨ns, h2, hf⟩ := Option.bind_eq_some_iff.mp hf
  split at hf
  · rename_i hl
    cases hf
    refine ⟨G0, H0, G, ρ, _, good, h1, fun q vs H1 G1 s1 hq rs => ?_⟩
    have e := intsD_rep h2 rs
    subst e
    refine ⟨q, ns, rfl, s1.sub.seq hq, hl, fun l hl' => ?_⟩
    exact k l _ _ G1 (s1.trans (Step.own s1.sub hl')) (s1.hh.free hl') upd_same (s1.sub.free hl') (reps_ints _)
  · cases hf
end
end L2

/-! Texts over the tree layer: a loop over the signs, in, +, find, slices, chains of comparisons. -/
namespace L2
open PySem PySem.Spec PyProof.Rows

/-! ### for over a text -/
def Its (x : Str) : It := ⟨fun i _ => i < x.cps.size, fun i H y H' => H' = H ∧ ∃ c, x.cps[i]? = some c ∧ y = .str ⟨#[c]⟩, fun i _ => x.cps.size ≤ i⟩
theorem turn_str {P : Program} {w : World} {K : PySem.W.Frag} {tg : Expr} (it : Addr) (ty : String) (hty : ty = "str_ascii_iterator" ∨ ty = "str_iterator") (x : Str) (t : Tok) : Turn P w K tg (Its x) [it] it (fun i h => h.IsStrIter it ty x t i) where
  mem := by simp
  obj := fun i h st b hb => by
    have e : b = it := by simpa using hb
    subst e
    obtain ⟨o, e, c, d⟩ := st
    exact ⟨o, e, fun v z => by rw [d] at z; cases z⟩
  keep := fun i h h' st k => by
    obtain ⟨o, e, r⟩ := st
    exact ⟨o, k it (by simp) o e, r⟩
  item := by
    intro X hP hw hK hc i pins s σ H E I hf st hg
    subst hP hw hK
    obtain ⟨f0, f1, f2, f3, f4, f5⟩ := hf it (by simp)
    have hg : i < x.cps.size := hg
    have hx : x.cps[i]? = some x.cps[i] := by simp [hg]
    rcases hty with rfl | rfl
    · refine wpAny_pyNext_ascii_item st hx fun h' st' sb => ?_
      have I1 : Inv X pins σ H { s with heap := h', toks := s.toks + 1 } := I.turned (t' := s.toks + 1) (fun b o hb e => (sb.2 b hb).trans e) f0 f1 f3 f4 f5
      obtain ⟨o, e, c, d⟩ := id st'
      exact ⟨_, rfl, go_of (s := { s with heap := h', toks := s.toks + 1 }) e c d (by decide) ⟨.str ⟨#[x.cps[i]]⟩, H, I1, ⟨_, rfl⟩, ⟨rfl, _, hx, rfl⟩, st', fun b hb => (hf b hb).1⟩⟩
    · refine wpAny_pyNext_wide_item st hx fun h' st' sb => ?_
      have I1 : Inv X pins σ H { s with heap := h', toks := s.toks + 1 } := I.turned (t' := s.toks + 1) (fun b o hb e => (sb.2 b hb).trans e) f0 f1 f3 f4 f5
      obtain ⟨o, e, c, d⟩ := id st'
      exact ⟨_, rfl, go_of (s := { s with heap := h', toks := s.toks + 1 }) e c d (by decide) ⟨.str ⟨#[x.cps[i]]⟩, H, I1, ⟨_, rfl⟩, ⟨rfl, _, hx, rfl⟩, st', fun b hb => (hf b hb).1⟩⟩
  done := by
    intro X hP hw hK hc i pins s σ H E I hf st hg
    subst hP hw hK
    obtain ⟨f0, f1, f2, f3, f4, f5⟩ := hf it (by simp)
    have hg : x.cps.size ≤ i := hg
    have hx : x.cps[i]? = none := by simp [hg]
    rcases hty with rfl | rfl
    · exact wpAny_pyNext_ascii_end (I.ok.hd hc) st hx fun h' eb => ⟨rfl, I.turned (t' := s.toks) (fun b o hb e => eb b o hb e) f0 f1 f3 f4 f5⟩
    · exact wpAny_pyNext_wide_end (I.ok.hd hc) st hx fun h' eb => ⟨rfl, I.turned (t' := s.toks) (fun b o hb e => eb b o hb e) f0 f1 f3 f4 f5⟩
  self := fun _ _ _ _ _ st h => by
    rcases hty with rfl | rfl
    · exact wpAny_pyIter_striter_ascii st h
    · exact wpAny_pyIter_striter_wide st h
def signsD (x : Str) : List D := x.cps.toList.map fun c => .str ⟨#[c]⟩
theorem yields_str {K : PySem.W.Frag} {G : Hp} {x : Str} : Yields K (Its x) G (signsD x) := by
  intro i G2 H2 s1 s2
  have hl : (signsD x).length = x.cps.size := by simp [signsD]
  refine ⟨fun d hd => ?_, fun hi => by rw [hl] at hi; exact hi⟩
  have hi : i < x.cps.size := by rw [← hl]; exact (List.getElem?_eq_some_iff.mp hd).1
  refine ⟨hi, fun y H3 q => ?_⟩
  obtain ⟨rfl, c, hc, rfl⟩ := q
  unfold signsD at hd
  rw [List.getElem?_map, Array.getElem?_toList, hc] at hd
  cases hd
  exact ⟨G2, .refl s2, rep_str.mpr rfl⟩
section
variable {X : Cx} {a b c e tg elt iter : Expr} {es ifs : List Expr} {fa fb fc : Ef} {ga gb gi : Lf} {ta tc : Tf} {pos p : Pos} {st : Stmt}
def iStr (tl : TE) : TI := fun σ H R => tl σ H fun x H1 => ∃ z, x = .str z ∧ R (Its z) H1
theorem pi_strE {l : Expr} {tl : TE} (hl : PE X l tl) : PI X tg l (iStr tl) := by
  intro pins s σ H R I h
  refine thn (hl pins s σ H _ I h) fun v s1 ⟨x, H1, I1, r1, q1⟩ => ?_
  obtain ⟨z, e, q⟩ := q1
  subst e
  obtain ⟨t, rfl⟩ := r1
  have fin : ∀ (o : Obj) (ty : String), (ty = "str_ascii_iterator" ∨ ty = "str_iterator") → (s1.heap.push o).IsStrIter s1.heap.objs.size ty z t 0 → PIE X pins σ tg R (.ref s1.heap.objs.size) { s1 with heap := s1.heap.push o } := fun o ty hty st => by
    refine ⟨s1.heap.objs.size, [s1.heap.objs.size], _, _, H1, rfl, I1.kept (t' := s1.toks) fun b o e => Heap.get?_push_of_some _ e, turn_str _ ty hty z t, st, fun b hb => ?_, q⟩
    have e : b = s1.heap.objs.size := by simpa using hb
    subst e
    exact I1.fpOk (Nat.le_refl _) (I1.hok.fresh (Nat.le_refl _))
  cases ha : z.cps.all (· < 128)
  · exact wpAny_pyIter_wide ha (fin _ _ (.inr rfl) ⟨_, Heap.get?_push_size _ rfl, rfl, rfl⟩)
  · exact wpAny_pyIter_ascii ha (fin _ _ (.inl rfl) ⟨_, Heap.get?_push_size _ rfl, rfl, rfl⟩)
def iS (f : Ef) : Lf := fun ρ => (f ρ).bind fun d => match d with | .str x => some (signsD x) | _ => none
theorem pi_s (h : PF X e fa) : PFI X tg e (iS fa) := by
  refine PI.to (pi_strE h) ?_
  rintro σ H R ⟨G0, H0, G, ρ, ds, good, hf, k⟩
  unfold iS at hf
  obtain ⟨d, h1, hf⟩ := Option.bind_eq_some_iff.mp hf
  cases d with
  | str x =>
    cases hf
    refine ⟨G0, H0, G, ρ, _, good, h1, fun v H1 G1 s1 r1 => ?_⟩
    exact ⟨x, rep_str.mp r1, k _ H1 G1 s1 yields_str⟩
  | _ => cases hf

/-! ### in, not in a text -/
def gIn : D → D → Option Bool | .str i, .str j => some (!(Builtin.Str.occurrences j i 0 j.length 1).isEmpty) | _, _ => none
def gNotIn (x y : D) : Option Bool := (gIn x y).map (!·)
theorem cm_in : CmR X .In gIn := ⟨_, op_in_str, fun d d' k G H x y Q h s rx ry q => by
  unfold gIn at h
  split at h
  · cases h; exact ⟨_, _, rep_str.mp rx, rep_str.mp ry, q H G (.refl s)⟩
  · cases h⟩
theorem cm_notIn : CmR X .NotIn gNotIn := ⟨_, op_notIn_str, fun d d' k G H x y Q h s rx ry q => by
  unfold gNotIn at h
  obtain ⟨k', h', rfl⟩ := Option.map_eq_some_iff.mp h
  unfold gIn at h'
  split at h'
  · cases h'; exact ⟨_, _, rep_str.mp rx, rep_str.mp ry, q H G (.refl s)⟩
  · cases h'⟩
/-! ### a op b op c -/
def eB3 (g g' : D → D → Option Bool) (fa fb fc : Ef) : Tf := fun ρ => (fa ρ).bind fun x => (fb ρ).bind fun y => (g x y).bind fun k => if k = true then (fc ρ).bind fun z => g' y z else some false
theorem pf_chain {op op' : CmpOp} {g g' : D → D → Option Bool} (hc1 : CmR X op g) (hc2 : CmR X op' g') (ha : PF X a fa) (hb : PF X b fb) (hc : PF X c fc) (hm : lastMarks [op, op'] [b, c] = false := by with_unfolding_all rfl) : PF X (.Compare a [op, op'] [b, c] pos) (eOfT (eB3 g g' fa fb fc)) := by
  obtain ⟨r, ho, hr⟩ := hc1
  obtain ⟨r', ho', hr'⟩ := hc2
  refine PE.to (pe_chain ho ho' ha hb hc hm) ?_
  rintro σ H Q ⟨G0, H0, G, ρ, d, good, hf, k⟩
  obtain ⟨b', hf2, rfl⟩ := eOfT_inv hf
  unfold eB3 at hf2
  obtain ⟨x, h1, hf2⟩ := Option.bind_eq_some_iff.mp hf2
  obtain ⟨y, h2, hf2⟩ := Option.bind_eq_some_iff.mp hf2
  obtain ⟨kk, h3, hf2⟩ := Option.bind_eq_some_iff.mp hf2
  refine ⟨G0, H0, G, ρ, _, good, h1, fun u H1 G1 s1 r1 => ⟨G0, H0, G1, ρ, _, good.step s1, h2, fun v H2 G2 s2 r2 => ?_⟩⟩
  refine hr x y kk G2 H2 u v _ h3 s2.sub (r1.mono s2.gg) r2 fun H3 G3 s3 => ⟨kk, rfl, ?_⟩
  split at hf2
  · rename_i hk
    rw [if_pos hk]
    obtain ⟨z, h4, hf3⟩ := Option.bind_eq_some_iff.mp hf2
    refine ⟨G0, H0, G3, ρ, _, ((good.step s1).step s2).step s3, h4, fun w' H4 G4 s4 r4 => ?_⟩
    exact hr' y z b' G4 H4 v w' Q hf3 s4.sub ((r2.mono s3.gg).mono s4.gg) r4 fun H5 G5 s5 => k _ _ G5 ((((s1.trans s2).trans s3).trans s4).trans s5) (rep_bl.mpr rfl)
  · rename_i hk
    rw [if_neg hk]; cases hf2
    exact k _ _ G3 ((s1.trans s2).trans s3) (rep_bl.mpr rfl)
/-! ### + of ints or texts -/
def addD : D → D → Option D
  | .int i, .int j => some (.int (i + j))
  | .str i, .str j => if i.length + j.length ≤ lim then some (.str (i ++ j)) else none
  | _, _ => none
def eAddP (fa fb : Ef) : Ef := fun ρ => (fa ρ).bind fun x => (fb ρ).bind fun y => addD x y
theorem pf_addP (ha : PF X a fa) (hb : PF X b fb) : PF X (.BinOp a .Add b pos) (eAddP fa fb) := by
  refine PE.to (pe_op (op_add.or op_add_str) ha hb) ?_
  rintro σ H Q ⟨G0, H0, G, ρ, d, good, hf, k⟩
  unfold eAddP at hf
  obtain ⟨x, h1, hf⟩ := Option.bind_eq_some_iff.mp hf
  obtain ⟨y, h2, hf⟩ := Option.bind_eq_some_iff.mp hf
  refine ⟨G0, H0, G, ρ, _, good, h1, fun u H1 G1 s1 r1 => ⟨G0, H0, G1, ρ, _, good.step s1, h2, fun v H2 G2 s2 r2 => ?_⟩⟩
  have r1 := r1.mono s2.gg
  unfold addD at hf
  split at hf
  · cases hf; exact .inl ⟨_, _, rep_int.mp r1, rep_int.mp r2, k _ _ G2 (s1.trans s2) (rep_int.mpr rfl)⟩
  · split at hf
    · rename_i hz; cases hf; exact .inr ⟨_, _, rep_str.mp r1, rep_str.mp r2, Nat.le_of_lt (lim_ok hz), k _ _ G2 (s1.trans s2) (rep_str.mpr rfl)⟩
    · cases hf
  · cases hf
/-! ### find -/
def rFind : V → List V → Hp → VK → Prop := fun x vs H Q => ∃ a b, x = .str a ∧ vs = [.str b] ∧ Q (.int (Txt.find a b)) H
theorem mt_find : MtR X "str.find" rFind := by
  intro pins s σ H x xs v us Q I rx rv h
  obtain ⟨a, b, rfl, rfl, q⟩ := h
  obtain ⟨t, rfl⟩ := rx
  obtain ⟨u, rfl, t', rfl⟩ := rv.one
  exact SC.find ⟨.int _, H, I.tok _, ⟨_, rfl⟩, q⟩
def eFind (fa fb : Ef) : Ef := fun ρ => (fa ρ).bind fun x => (fb ρ).bind fun y => match x, y with | .str a, .str b => some (.int (Txt.find a b)) | _, _ => none
theorem pf_find (ht : PE X c (tBM X.K "str" rFind (tF X.K fa) (tCons (tF X.K fb) tNil))) : PF X c (eFind fa fb) := by
  refine PE.to ht ?_
  rintro σ H Q ⟨G0, H0, G, ρ, d, good, hf, k⟩
  unfold eFind at hf
  obtain ⟨x, h1, hf⟩ := Option.bind_eq_some_iff.mp hf
  obtain ⟨y, h2, hf⟩ := Option.bind_eq_some_iff.mp hf
  split at hf
  · cases hf
    refine ⟨G0, H0, G, ρ, _, good, h1, fun u H1 G1 s1 r1 => ?_⟩
    have r1 := rep_str.mp r1
    subst r1
    refine ⟨rfl, G0, H0, G1, ρ, _, good.step s1, h2, fun v H2 G2 s2 r2 => ?_⟩
    have r2 := rep_str.mp r2
    subst r2
    exact ⟨_, _, rfl, rfl, k _ _ G2 (s1.trans s2) (rep_int.mpr rfl)⟩
  · cases hf
/-! ### slices of a text -/
def rSlS : V → Option Int → Option Int → Hp → VK → Prop := fun x lo hi H Q => ∃ z, x = .str z ∧ z.length ≤ sizeLine ∧ Q (.str (Txt.slice z lo hi)) H
theorem sl_str : SlR X rSlS := by
  intro pins s σ H x v vl vu lo hi sl Q I rx hs pl pu h
  obtain ⟨z, rfl, hz, q⟩ := h
  obtain ⟨t, rfl⟩ := rx
  refine ⟨"str", _, F.slot_str_getitem.lookup, typeIs_str s z t, ?_⟩
  have fin : ∀ t' k, EP X pins σ Q (.str (Txt.slice z lo hi) t') { s with toks := k } := fun t' k => ⟨.str (Txt.slice z lo hi), H, I.tok k, ⟨t', rfl⟩, q⟩
  cases pl with
  | none =>
    cases pu with
    | none => exact wpAny_getItem_str_slice (l := none) (u := none) (st := none) hs rfl (post_val_or_str ⟨Nat.le_trans (Txt.slice_le z _ _) hz, fin⟩)
    | int j tj => exact wpAny_getItem_str_slice (l := none) (u := some (j, tj)) (st := none) hs rfl (post_val_or_str ⟨Nat.le_trans (Txt.slice_le z _ _) hz, fin⟩)
  | int i ti =>
    cases pu with
    | none => exact wpAny_getItem_str_slice (l := some (i, ti)) (u := none) (st := none) hs rfl (post_val_or_str ⟨Nat.le_trans (Txt.slice_le z _ _) hz, fin⟩)
    | int j tj => exact wpAny_getItem_str_slice (l := some (i, ti)) (u := some (j, tj)) (st := none) hs rfl (post_val_or_str ⟨Nat.le_trans (Txt.slice_le z _ _) hz, fin⟩)
def eSlice (f : Ef) (lo hi : Of) : Ef := fun ρ => (f ρ).bind fun d => (lo ρ).bind fun l => (hi ρ).bind fun u => match d with | .str x => if x.length ≤ lim then some (.str (Txt.slice x l u)) else none | _ => none
theorem pf_sslice {lo hi : Option Expr} {fl fh : Of} {p2 : Pos} (ha : PF X a fa) (hl : PFO X lo fl) (hh : PFO X hi fh) : PF X (.Subscript a (.Slice lo hi none p2) pos) (eSlice fa fl fh) := by
  refine PE.to (pe_slice sl_str ha hl hh) ?_
  rintro σ H Q ⟨G0, H0, G, ρ, d, good, hf, k⟩
  unfold eSlice at hf
  obtain ⟨x, h1, hf⟩ := Option.bind_eq_some_iff.mp hf
  obtain ⟨l, h2, hf⟩ := Option.bind_eq_some_iff.mp hf
  obtain ⟨u, h3, hf⟩ := Option.bind_eq_some_iff.mp hf
  cases x with
  | str z =>
    dsimp only at hf
    split at hf
    · rename_i hz
      cases hf
      refine ⟨G0, H0, G, ρ, _, good, h1, fun v H1 G1 s1 r1 => ⟨G0, H0, G1, ρ, _, good.step s1, h2, fun H2 G2 s2 => ⟨G0, H0, G2, ρ, _, (good.step s1).step s2, h3, fun H3 G3 s3 => ?_⟩⟩⟩
      exact ⟨z, rep_str.mp r1, Nat.le_of_lt (lim_ok hz), k _ _ G3 ((s1.trans s2).trans s3) (rep_str.mpr rfl)⟩
    · cases hf
  | _ => cases hf
end
end L2

/-! Numbers as texts, max, repeated texts, joined texts, + of lists that stand at names, defaults. -/
namespace L2
open PySem PySem.Spec PyProof.Rows
section
variable {X : Cx} {a b c e tg elt iter : Expr} {es ifs : List Expr} {fa fb fc : Ef} {ga gb gi : Lf} {ta tc : Tf} {pos p : Pos} {st : Stmt}
/-! ### str(int) -/
def eStrOf (f : Ef) : Ef := fun ρ => (f ρ).bind fun d => match d with | .int i => if i.natAbs.log2 < 1920 then some (.str (Str.ofString (toString i))) else none | _ => none
theorem pf_strOf (hg : Gl X "str") (hm : X.mg "str" = none) (h : PF X a fa) (hs : starEach [a] X.env = [(false, eval a X.env)] := by rfl) : PF X (.Call (.Name "str" p) [a] [] pos) (eStrOf fa) := by
  refine PE.to (pe_callTy call_str_int hg hm (by rfl) (pa_cons h pa_nil (by rw [hs]; rfl)) (by decide) (by decide) (by rw [hs]; rfl) (by rfl)) ?_
  rintro σ H Q ⟨G0, H0, G, ρ, d, good, hf, k⟩
  unfold eStrOf at hf
  obtain ⟨x, h1, hf⟩ := Option.bind_eq_some_iff.mp hf
  refine ⟨G0, H0, G, ρ, _, good, h1, fun v H1 G1 s1 r1 => ?_⟩
  cases x with
  | int i =>
    dsimp only at hf
    split at hf
    · rename_i hz
      cases hf
      exact ⟨i, by rw [rep_int.mp r1], hz, k _ _ G1 s1 (rep_str.mpr rfl)⟩
    · cases hf
  | _ => cases hf
/-! ### int(x), x an int, a bool, a text of figures -/
theorem call_intS : CallR X (.type "int") (fun xs H Q => ∃ x n, xs = [.str x] ∧ x.length ≤ 640 ∧ PySem.intText? x = some n ∧ Q (.int n) H) := by
  intro pins s σ H xs us Q I r h
  obtain ⟨x, n, rfl, hl, hn, q⟩ := h
  obtain ⟨u, rfl, t, rfl⟩ := vals1 r
  exact PySem.W.KIN.call_text hn hl ⟨.int n, H, I.tok _, ⟨_, rfl⟩, q⟩
def intD : D → Option D
  | .int i => some (.int i)
  | .bl k => some (.int (if k then 1 else 0))
  | .str x => if x.length ≤ 640 then (PySem.intText? x).map .int else none
  | _ => none
def eIntOf (f : Ef) : Ef := fun ρ => (f ρ).bind intD
theorem pf_intOf (hg : Gl X "int") (hm : X.mg "int" = none) (h : PF X a fa) (hs : starEach [a] X.env = [(false, eval a X.env)] := by rfl) : PF X (.Call (.Name "int" p) [a] [] pos) (eIntOf fa) := by
  refine PE.to (pe_callTy (call_int1.or call_intS) hg hm (by rfl) (pa_cons h pa_nil (by rw [hs]; rfl)) (by decide) (by decide) (by rw [hs]; rfl) (by rfl)) ?_
  rintro σ H Q ⟨G0, H0, G, ρ, d, good, hf, k⟩
  unfold eIntOf at hf
  obtain ⟨x, h1, hf⟩ := Option.bind_eq_some_iff.mp hf
  refine ⟨G0, H0, G, ρ, _, good, h1, fun v H1 G1 s1 r1 => ?_⟩
  unfold intD at hf
  split at hf
  · cases hf; exact .inl (.inl ⟨_, by rw [rep_int.mp r1], k _ _ G1 s1 (rep_int.mpr rfl)⟩)
  · cases hf; exact .inl (.inr ⟨_, by rw [rep_bl.mp r1], k _ _ G1 s1 (rep_int.mpr rfl)⟩)
  · split at hf
    · rename_i hz
      obtain ⟨n, h2, rfl⟩ := Option.map_eq_some_iff.mp hf
      exact .inr ⟨_, n, by rw [rep_str.mp r1], hz, h2, k _ _ G1 s1 (rep_int.mpr rfl)⟩
    · cases hf
  · cases hf
/-! ### max(a, b) -/
def eMax (fa fb : Ef) : Ef := fun ρ => (fa ρ).bind fun x => (fb ρ).bind fun y => match x, y with | .int i, .int j => some (.int (if j > i then j else i)) | _, _ => none
theorem pf_max (hc : X.calm = true) (hg : Gl X "max") (hm : X.mg "max" = none) (ha : PF X a fa) (hb : PF X b fb) (hs : starEach [a, b] X.env = [(false, eval a X.env), (false, eval b X.env)] := by rfl) (hs2 : starEach [b] X.env = [(false, eval b X.env)] := by rfl) :
    PF X (.Call (.Name "max" p) [a, b] [] pos) (eMax fa fb) := by
  refine PE.to (pe_callB (call_max2 hc) hg hm (by rfl) (pa_cons ha (pa_cons hb pa_nil (by rw [hs2]; rfl)) (by rw [hs, hs2])) (by decide) (by decide) (by rw [hs, hs2]) (by rw [hs2]; rfl)) ?_
  rintro σ H Q ⟨G0, H0, G, ρ, d, good, hf, k⟩
  unfold eMax at hf
  obtain ⟨x, h1, hf⟩ := Option.bind_eq_some_iff.mp hf
  obtain ⟨y, h2, hf⟩ := Option.bind_eq_some_iff.mp hf
  refine ⟨G0, H0, G, ρ, _, good, h1, fun u H1 G1 s1 r1 => ⟨G0, H0, G1, ρ, _, good.step s1, h2, fun v H2 G2 s2 r2 => ?_⟩⟩
  split at hf
  · cases hf
    exact ⟨_, _, by rw [rep_int.mp r1, rep_int.mp r2], k _ _ G2 (s1.trans s2) (rep_int.mpr rfl)⟩
  · cases hf
/-! ### products of greater ints -/
def cMulB (i j : Int) : Bool := cMul i j || (decide (i.natAbs < 2 ^ 1000) && decide (j.natAbs < 2 ^ 1000))
abbrev eMulB := eI cMulB (fun i j => i * j)
theorem op_mulB : OpR X (binaryOp .Mult) (rI IntMulOk fun i j => .int (i * j)) := opI fun _ _ _ _ _ _ _ hc q => mul_int q hc
theorem bits_1000 {i : Int} (h : i.natAbs < 2 ^ 1000) : Builtin.Int.intBits i ≤ 2 ^ 20 := by
  unfold Builtin.Int.intBits
  split
  · exact Nat.zero_le _
  · rename_i hz
    have hne : i.natAbs ≠ 0 := fun z => by
      have e : i = 0 := by omega
      subst e
      exact hz rfl
    have := (Nat.log2_lt hne).mpr h
    have e : (2 : Nat) ^ 20 = 1048576 := by decide
    omega
theorem pf_mulB (ha : PF X a fa) (hb : PF X b fb) : PF X (.BinOp a .Mult b pos) (eMulB fa fb) := pf_i op_mulB (fun i j h => by
  unfold cMulB at h
  rw [Bool.or_eq_true] at h
  rcases h with h | h
  · unfold cMul at h
    simp only [Bool.or_eq_true, Bool.and_eq_true, decide_eq_true_eq] at h
    exact CMul.ok h
  · simp only [Bool.and_eq_true, decide_eq_true_eq] at h
    exact .of_bits (bits_1000 h.1) (bits_1000 h.2)) ha hb
/-! ### text * int -/
theorem mulOk {z : Str} {n : Int} (h0 : 0 ≤ n) (h1 : n ≤ 1000) (h2 : z.length ≤ 1000) : MulOk z n := by
  refine ⟨?_, fun q _ => ?_, fun q _ => ?_⟩
  · have e1 : decide (n < -(2 ^ 63 : Int)) = false := decide_eq_false (by omega)
    have e2 : decide (n ≥ 2 ^ 63) = false := decide_eq_false (by omega)
    rw [e1, e2]; rfl
  · have hn : 0 < n := by omega
    have hz : (z.length : Int) ≤ 1000 := by omega
    have hm : (z.length : Int) * n ≤ 1000 * 1000 := Int.mul_le_mul hz h1 h0 (by decide)
    have := Int.le_ediv_of_mul_le hn (Int.le_trans hm (show (1000 * 1000 : Int) ≤ 2 ^ 63 - 1 by decide))
    omega
  · have hm : z.length * n.toNat ≤ 1000 * 1000 := Nat.mul_le_mul h2 (by omega)
    unfold Builtin.Str.tooLong
    exact decide_eq_false (by rw [sizeLine_eq]; omega)
theorem op_mul_str : OpR X (binaryOp .Mult) (fun x y H Q => ∃ z n, x = .str z ∧ y = .int n ∧ 0 ≤ n ∧ n ≤ 1000 ∧ z.length ≤ 1000 ∧ Q (.str (Txt.mul z n)) H) := by
  intro pins s σ H x y v u Q I rx ry h
  obtain ⟨z, n, rfl, rfl, h0, h1, h2, q⟩ := h
  obtain ⟨t, rfl⟩ := rx
  obtain ⟨t', rfl⟩ := ry
  exact SB.mul (mulOk h0 h1 h2) fun t' k => ⟨.str (Txt.mul z n), H, I.tok _, ⟨_, rfl⟩, q⟩
def eSMul (fa fb : Ef) : Ef := fun ρ => (fa ρ).bind fun x => (fb ρ).bind fun y => match x, y with | .str z, .int n => if decide (0 ≤ n) && decide (n ≤ 1000) && decide (z.length ≤ 1000) then some (.str (Txt.mul z n)) else none | _, _ => none
theorem pf_smul (ha : PF X a fa) (hb : PF X b fb) : PF X (.BinOp a .Mult b pos) (eSMul fa fb) := by
  refine PE.to (pe_op op_mul_str ha hb) ?_
  rintro σ H Q ⟨G0, H0, G, ρ, d, good, hf, k⟩
  unfold eSMul at hf
  obtain ⟨x, h1, hf⟩ := Option.bind_eq_some_iff.mp hf
  obtain ⟨y, h2, hf⟩ := Option.bind_eq_some_iff.mp hf
  refine ⟨G0, H0, G, ρ, _, good, h1, fun u H1 G1 s1 r1 => ⟨G0, H0, G1, ρ, _, good.step s1, h2, fun v H2 G2 s2 r2 => ?_⟩⟩
  split at hf
  · split at hf
    · rename_i hc
      cases hf
      simp only [Bool.and_eq_true, decide_eq_true_eq] at hc
      exact ⟨_, _, rep_str.mp r1, rep_int.mp r2, hc.1.1, hc.1.2, hc.2, k _ _ G2 (s1.trans s2) (rep_str.mpr rfl)⟩
    · cases hf
  · cases hf
/-! ### + of two lists, wherever they stand -/
theorem op_catS : OpR X (binaryOp .Add) (fun x y H Q => ∃ l b xs zs, x = .ref l ∧ y = .ref b ∧ SqL X.K H l xs ∧ SqL X.K H b zs ∧ xs.length + zs.length ≤ sizeLine ∧ ∀ p, H p = none → Q (.ref p) (upd H p (.lst (xs ++ zs)))) := by
  intro pins s σ H x y v u Q I rx ry h
  obtain ⟨l, b, xs, zs, rfl, rfl, hH, hB, hz, q⟩ := h
  cases rx
  cases ry
  obtain ⟨its, r, pl, _⟩ := I.list hH
  obtain ⟨its2, r2, pl2, _⟩ := I.list hB
  obtain ⟨⟨cls, dd, data, sl⟩, ho, hc, n, hd⟩ := pl.isList
  obtain ⟨⟨cls2, dd2, data2, sl2⟩, ho2, hc2, n2, hd2⟩ := pl2.isList
  simp only at hc hd hc2 hd2
  subst hc hd hc2 hd2
  have hl := r.length
  have hl2 := r2.length
  have e : its.toArray ++ its2.toArray = (its ++ its2).toArray := by simp
  refine concat_meets ⟨_, ho, rfl⟩ ⟨_, ho2, rfl⟩ noFill_list_add seq_list_add PySem.F.slot_list_add PySem.F.entry_list_add (PySem.F.args_list_add_2 _ _) (list_addW l b its.toArray its2.toArray n n2 dd dd2 sl sl2 (by rw [List.size_toArray, List.size_toArray]; omega)) ⟨ho, ho2, ?_⟩
  rw [e]
  exact ⟨.ref _, _, I.lnew (t' := s.toks) (r.append r2) (by rw [List.length_append]; omega), rfl, q _ I.fresh⟩
theorem pl_catS (ha : PSrc X a ga) (hb : PSrc X b gb) : PFr X (.BinOp a .Add b pos) (lCat ga gb) := by
  refine PE.toR (pe_op op_catS ha hb) ?_
  rintro σ H Q ⟨G0, H0, G, ρ, d, good, hf, k⟩
  unfold lCat at hf
  obtain ⟨xs, h1, hf⟩ := Option.bind_eq_some_iff.mp hf
  obtain ⟨ys, h2, hf⟩ := Option.bind_eq_some_iff.mp hf
  obtain ⟨rfl, h3⟩ := okL_inv hf
  refine ⟨G0, H0, G, ρ, _, good, h1, fun p vs H1 G1 s1 hq rs => ⟨G0, H0, G1, ρ, _, good.step s1, h2, fun q us H2 G2 s2 hq2 rs2 => ?_⟩⟩
  refine ⟨p, q, vs, us, rfl, rfl, (s1.sub.trans s2.hh).seq hq, s2.sub.seq hq2, ?_, fun l hl => ?_⟩
  · rw [← rs.length, ← rs2.length, ← List.length_append]; exact Nat.le_of_lt (lim_ok h3)
  · have s3 := Step.own (o := .lst (vs ++ us)) s2.sub hl
    exact k l _ _ G2 ((s1.trans s2).trans s3) ((s1.trans s2).hh.free hl) upd_same (s2.sub.free hl) ((rs.mono s2.gg).append rs2)
/-! ### join -/
def strsD : List D → Option (List Str)
  | [] => some []
  | .str x :: r => (strsD r).map fun xs => x :: xs
  | _ => none
theorem strsD_rep {K : PySem.W.Frag} {G : Hp} : ∀ {ds : List D} {ys : List Str} {vs : List V}, strsD ds = some ys → Reps K G ds vs → vs = ys.map V.str
  | [], _, _, h, r => by cases h; rw [reps_nil] at r; rw [r]; rfl
  | d :: t, _, _, h, r => by
    unfold strsD at h
    split at h
    · rename_i h'; cases h'
    · rename_i k t' h'
      cases h'
      obtain ⟨v, vr, rfl, r1, r2⟩ := reps_cons.mp r
      obtain ⟨ks, h1, rfl⟩ := Option.map_eq_some_iff.mp h
      rw [strsD_rep h1 r2, rep_str.mp r1]; rfl
    · cases h
theorem strsAre_of {ns : List Str} : ∀ {us : List Value}, Vals (ns.map V.str) us → StrsAre us ns := by
  induction ns with
  | nil => intro us r; rw [List.map_nil] at r; cases r; exact .nil
  | cons n ns ih =>
    intro us r
    rw [List.map_cons] at r
    cases r with
    | cons r1 r2 =>
      obtain ⟨t, e⟩ := r1
      subst e
      exact .cons n t (ih r2)
def rJoin (K : PySem.W.Frag) : V → List V → Hp → VK → Prop := fun x vs H Q => ∃ z p ys, x = .str z ∧ vs = [.ref p] ∧ SqL K H p (ys.map V.str) ∧ (ys.map (·.length)).sum + ys.length * z.length ≤ 16777216 ∧ Q (.str (Txt.join z ys)) H
theorem mt_join : MtR X "str.join" (rJoin X.K) := by
  intro pins s σ H x xs v us Q I rx rv h
  obtain ⟨z, p, ys, rfl, rfl, hq, hz, q⟩ := h
  obtain ⟨t, rfl⟩ := rx
  obtain ⟨u, rfl, ru⟩ := rv.one
  cases ru
  obtain ⟨its, r, pl, _⟩ := I.list hq
  exact join_list pl.isList (by simpa using strsAre_of r) hz fun t' k => ⟨.str _, H, I.tok k, ⟨t', rfl⟩, q⟩
def eJoin (fa : Ef) (ga : Lf) : Ef := fun ρ => (fa ρ).bind fun x => (ga ρ).bind fun ds => match x with | .str z => (strsD ds).bind fun ys => if (ys.map (·.length)).sum + ys.length * z.length ≤ 100000 then some (.str (Txt.join z ys)) else none | _ => none
theorem pf_join (ht : PE X c (tBM X.K "str" (rJoin X.K) (tF X.K fa) (tCons (tSrc X.K ga) tNil))) : PF X c (eJoin fa ga) := by
  refine PE.to ht ?_
  rintro σ H Q ⟨G0, H0, G, ρ, d, good, hf, k⟩
  unfold eJoin at hf
  obtain ⟨x, h1, hf⟩ := Option.bind_eq_some_iff.mp hf
  obtain ⟨ds, h2, hf⟩ := Option.bind_eq_some_iff.mp hf
  cases x with
  | str z =>
    dsimp only at hf
    obtain ⟨ys, h3, hf⟩ := Option.bind_eq_some_iff.mp hf
    split at hf
    · rename_i hz
      cases hf
      refine ⟨G0, H0, G, ρ, _, good, h1, fun u H1 G1 s1 r1 => ?_⟩
      have r1 := rep_str.mp r1
      subst r1
      refine ⟨rfl, G0, H0, G1, ρ, _, good.step s1, h2, fun q vs H2 G2 s2 hq rs => ?_⟩
      have e := strsD_rep h3 rs
      subst e
      exact ⟨z, q, ys, rfl, rfl, s2.sub.seq hq, Nat.le_trans hz (by decide), k _ _ G2 (s1.trans s2) (rep_str.mpr rfl)⟩
    · cases hf
  | _ => cases hf
/-! ### defaults -/
end
/-- a def with defaults, as it stands behind the top -/
structure FunD (K : PySem.W.Frag) (x qual : Str) (st : Stmt) (f : Addr) (fd : FuncData) : Prop where
  ex : ∃ (oc : Value) (od : Option Addr) (dV kV doc pm : Value) (an : Option Addr) (cdv ct : Value) (osl : Array (Option Value)),
    fd = PySem.W.fnOf x qual (defArgs st) (defBody st) (defScope st) dV kV doc pm an cdv ct ∧ K.lookup f = some ⟨oc, od, .func fd, osl⟩ ∧ PySem.W.codeIn K cdv qual = true
  kp : PySem.W.keepIn K (.ref f) = true
section
variable {P : Program} {w : World} {K : PySem.W.Frag} {mg : Str → Option Value} {base : Heap} {x qual : Str} {st : Stmt} {f : Addr} {fd : FuncData} {N ps : List Str} {k : Nat}
theorem ok_fnD {body : Sf} (F : FunD K x qual st f fd) (S : FnScope N ps (defScope st))
    (hb : ∀ (cdv : Value) (A : Around) (outer : List Env) (s : Shared) (H : Hp) (E : XK), Room k (A.deeper (envOfC qual (defScope st) s.heap.objs.size f cdv)) → PFSs (cxOf CX0 P w K mg base N qual (defScope st) f cdv A outer s H E).nox (defBody st) body) :
    FnOk P w K mg base CX0 (k + 1) f fd ps (spF K ps.length (fnF N.length body)) := by
  obtain ⟨oc, od, dV, kV, doc, pm, an, cdv, ct, osl, rfl, lk, hcd⟩ := F.ex
  refine fn_of lk hcd S (fun vs H Q E h => ?_) fun A outer s H vs Q E hr h => ?_
  · obtain ⟨G, ds, d, sub, rs, hl, _⟩ := h
    rw [← rs.length]; exact hl
  · obtain ⟨G, ds, d, sub, rs, hl, hf, k⟩ := h
    unfold fnF at hf
    obtain ⟨o, h1, h2⟩ := Option.bind_eq_some_iff.mp hf
    refine ⟨_, PSs.nox (hb cdv A outer s H E hr), G, H, G, _, o, good_start sub rs, h1, ?_⟩
    cases o with
    | nx ρ => cases h2; exact fun σ' H' G' s' g' => k .non H' G' g'.st (rep_non.mpr rfl)
    | rt e => cases h2; exact fun v H' G' s' r => k v H' G' s' r
    | rl es => cases h2; exact fun p us H' G' s' hn hp gp r => k _ H' (upd G' p (.lst us)) (s'.frz hn hp gp) (rep_lst.mpr ⟨p, us, rfl, .of upd_same, r.mono (Same.new gp)⟩)
    | bk ρ => cases h2
    | ct ρ => cases h2
end
section
variable {X : Cx} {e : Expr} {es : List Expr} {ga : Lf} {pos p : Pos}
/-- f(..), its last parameters by their defaults, all None -/
theorem pf_callD {k n m : Nat} {fad : Addr} {fd : FuncData} {ps : List Str} {x : Str} {fD : List D → Option D} (gD : List D → Option D) (F : FnOk X.prog X.w X.K X.mg X.base CX0 k fad fd ps (spF X.K n fD)) (hgD : ∀ ds, gD ds = fD (ds ++ [.non])) (hr : Room k X.A) (hm : X.mg x = some (.ref fad)) (hk : PySem.W.keepIn X.K (.ref fad) = true) (hb : Binds X.K fd ps [.none]) (hg : Gl X x)
    (ha : PFA X (e :: es) ga) (hn : n = m + 1) (hdb : (x == ("__debug__" : Str)) = false := by decide) (he : starEach (e :: es) X.env = (false, eval e X.env) :: starEach es X.env := by rfl) (hpl : (backTo pos (starEach es X.env)).any (·.1) = false := by rfl) :
    PF X (.Call (.Name x p) (e :: es) [] pos) (eCall m gD ga) := by
  refine PE.to (pe_call (E := E0) F hr hg hm hk hb (dvs := [.non]) (.cons rfl .nil) pass0 ha hdb he hpl) ?_
  rintro σ H Q ⟨G0, H0, G, ρ, d, good, hf, k⟩
  unfold eCall at hf
  obtain ⟨ds, h1, hf⟩ := Option.bind_eq_some_iff.mp hf
  split at hf
  · rename_i hl
    refine ⟨G0, H0, G, ρ, _, good, h1, fun vs H1 G1 s1 r1 => ?_⟩
    exact ⟨G1, ds ++ [.non], d, s1.sub, r1.snoc (rep_non.mpr rfl), by rw [List.length_append, hl, hn]; rfl, by rw [← hgD]; exact hf, fun v H' G' s r => k v H' G' (s1.trans s) r⟩
  · cases hf
end
end L2

/-! Objects of the text's own classes that are made once and never changed; is True; index of trees; repeated lists. -/
namespace L2
open PySem PySem.Spec PyProof.Rows

theorem lookup_rep {K : PySem.W.Frag} {G : Hp} {f : Str} {d : D} : ∀ {ns : List Str} {ds : List D} {vs : List V}, ns.length = ds.length → Reps K G ds vs → (ns.zip ds).lookup f = some d → ∃ u, (ns.zip vs).lookup f = some u ∧ Rep K G d u
  | [], _, _, _, _, h => by simp at h
  | n :: ns, [], _, hl, _, _ => by simp at hl
  | n :: ns, e :: ds, _, hl, r, h => by
    obtain ⟨v, vr, rfl, r1, r2⟩ := reps_cons.mp r
    rw [List.zip_cons_cons, List.lookup_cons] at h ⊢
    cases hq : f == n with
    | true => rw [hq] at h; cases h; exact ⟨v, rfl, r1⟩
    | false => rw [hq] at h; exact lookup_rep (by simpa using hl) r2 h
section
variable {X : Cx} {a b c e tg elt iter : Expr} {es ifs : List Expr} {fa fb fc : Ef} {ga gb gi : Lf} {ta tc : Tf} {pos p : Pos} {st : Stmt}
/-! ### o.f -/
def eFld (c f : Str) (fa : Ef) : Ef := fun ρ => (fa ρ).bind fun d => match d with | .obj c' ns ds => if c' = c then (ns.zip ds).lookup f else none | _ => none
theorem pf_fld {C : Addr} {c f : Str} (hC : ClsAt X.K c C) (hcl : Cls X.K C) (hn : NoAttr X.K C f) (ha : PF X a fa) (hb : attributeBase a f X.env (eval a X.env) = eval a X.env := by rfl) : PF X (.Attribute a f pos) (eFld c f fa) := by
  refine PE.to (pe_fld ha hb) ?_
  rintro σ H Q ⟨G0, H0, G, ρ, d, good, hf, k⟩
  unfold eFld at hf
  obtain ⟨x, h1, hf2⟩ := Option.bind_eq_some_iff.mp hf
  cases x with
  | obj c' ns ds =>
    dsimp only at hf2
    by_cases hc : c' = c
    · rw [if_pos hc] at hf2
      subst hc
      refine ⟨G0, H0, G, ρ, _, good, h1, fun v H1 G1 s1 r1 => ?_⟩
      obtain ⟨C', q, dx, vs, e0, rfl, e1, e2, e3⟩ := rep_obj.mp r1
      have ec := hC.one e0
      subst ec
      obtain ⟨u, e4, e5⟩ := lookup_rep e2 e3 hf2
      exact ⟨q, _, dx, ns.zip vs, u, rfl, s1.sub _ _ e1, hcl, hn, e4, k _ _ G1 s1 e5⟩
    · rw [if_neg hc] at hf2; cases hf2
  | _ => cases hf2
/-! ### __init__ that stores fields and does nothing else -/
theorem putF_new {f : Str} {y : V} : ∀ {ns : List Str} {vs : List V}, ns.length = vs.length → f ∉ ns → putF f y (ns.zip vs) = (ns ++ [f]).zip (vs ++ [y])
  | [], [], _, _ => rfl
  | [], _ :: _, h, _ => by simp at h
  | _ :: _, [], h, _ => by simp at h
  | n :: ns, v :: vs, h, hf => by
    show (if n = f then _ else (n, v) :: putF f y (ns.zip vs)) = _
    rw [if_neg (fun z => hf (by rw [z]; exact List.mem_cons_self)), putF_new (by simpa using h) (fun z => hf (List.mem_cons_of_mem _ z))]
    rfl
def tIni (K : PySem.W.Frag) (C : Addr) (ns : List Str) (g : Lf) : TS := fun DD σ H => ∃ (G0 H0 G : Hp) (ρ : List B) (p dx : Addr) (pre : List Str) (us : List V) (xs ds : List D),
  Good K G0 H0 G H σ ρ ∧ NoOw ρ ∧ σ[0]? = some (some (.ref p)) ∧ H p = some (.ins C dx (pre.zip us)) ∧ G p = none ∧ H0 p = none ∧ pre.length = us.length ∧ (pre ++ ns).Nodup ∧ (pre ++ ns).length ≤ 900 ∧ Reps K G xs us ∧ g ρ = some ds ∧
  ∀ H' G' vs, Step G0 H0 G' H' → H' p = some (.ins C dx ((pre ++ ns).zip vs)) → G' p = none → Reps K G' (xs ++ ds) vs → DD.nx σ H'
theorem ini_nil {C : Addr} : PSs X [] (tIni X.K C [] aNil) := by
  intro pins s σ H D I h
  refine pss_nil pins s σ H D I ?_
  obtain ⟨G0, H0, G, ρ, p, dx, pre, us, xs, ds, good, now, hs, hp, gp, h0, hl, nd, hz, rs, hg, k⟩ := h
  cases hg
  rw [List.append_nil] at k
  exact k H G us good.st (by rw [List.append_nil] at *; exact hp) gp (by rw [List.append_nil]; exact rs)
theorem ini_cons {C : Addr} {f x : Str} {ns : List Str} {g : Lf} {rest : List Stmt} {pos' p1 : Pos} (hcl : Cls X.K C) (hn : NoAttr X.K C f) (hself : X.N[0]? = some x) (hvis : Vis X.env.scope x) (he : PF X e fa) (hr : PSs X rest (tIni X.K C ns g)) (hd : (x == ("__debug__" : Str)) = false := by decide) (hcd : (x == ("__classdict__" : Str)) = false := by decide)
    (hs : swapsWith e (some (.Attribute (.Name x p1) f pos')) pos.line X.env = pure false := by rfl) : PSs X (.Assign [.Attribute (.Name x p1) f pos'] e pos :: rest) (tIni X.K C (f :: ns) (aCons fa g)) := by
  intro pins s σ H D I h
  refine pss_cons (ps_fld (pe_var hself hvis hd hcd) he hs) hr pins s σ H D I ?_
  obtain ⟨G0, H0, G, ρ, p, dx, pre, us, xs, ds, good, now, hself, hp, gp, h0, hl, nd, hz, rs, hg, k⟩ := h
  obtain ⟨d, dr, h1, h2, rfl⟩ := aCons_inv hg
  have hlp : pre.length < 1000 := by rw [List.length_append] at hz; omega
  have hnp : f ∉ pre := fun z => (List.nodup_append.mp nd).2.2 f z f List.mem_cons_self rfl
  have e1 : pre ++ f :: ns = (pre ++ [f]) ++ ns := by simp
  refine ⟨G0, H0, G, ρ, d, good, h1, fun v H1 G1 s1 r1 => ⟨.ref p, hself, p, C, dx, pre.zip us, rfl, s1.hh _ _ hp, hcl, hn, ?_, ?_⟩⟩
  · rw [List.length_zip]; omega
  · have hne : H p ≠ none := by rw [hp]; exact fun z => nomatch z
    have gp1 : G1 p = none := (s1.new p hne).trans gp
    refine ⟨G0, H0, G1, ρ, p, dx, pre ++ [f], us ++ [v], xs ++ [d], dr, (good.step s1).wrX now gp1 h0, now, hself, ?_, gp1, h0, by rw [List.length_append, List.length_append, hl]; rfl, by rw [← e1]; exact nd, by rw [← e1]; exact hz, (rs.mono s1.gg).snoc r1, h2, fun H' G' vs st q1 q2 q3 => ?_⟩
    · rw [upd_same, putF_new hl hnp]
    · refine k H' G' vs st (by rw [e1]; exact q1) q2 ?_
      rw [show xs ++ d :: dr = (xs ++ [d]) ++ dr by simp]
      exact q3
end
def spI (K : PySem.W.Frag) (C : Addr) (ns : List Str) (n : Nat) (f : List D → Option (List D)) : Sp := fun vs H Q _ => ∃ (p dx : Addr) (rest : List V) (G H0 : Hp) (ds xs : List D), vs = .ref p :: rest ∧ H = upd (upd H0 dx (.own p)) p (.ins C dx []) ∧ H0 p = none ∧ H0 dx = none ∧ dx ≠ p ∧ Same G H0 ∧ Reps K G ds rest ∧ ds.length = n ∧ f ds = some xs ∧
  ∀ H' G' us, Step G H0 G' H' → H' p = some (.ins C dx (ns.zip us)) → G' p = none → Reps K G' xs us → Q .non H'
theorem paired_fz {K : PySem.W.Frag} {G H0 H : Hp} (m : Nat) : ∀ {ds : List D} {vs : List V}, Reps K G ds vs → Paired (RB K H0 G H) (vs.map some ++ List.replicate m none) (ds.map .fz ++ List.replicate m .no)
  | [], _, h => by
    rw [reps_nil] at h; subst h
    show Paired _ (List.replicate m none) (List.replicate m B.no)
    induction m with
    | zero => exact .nil
    | succ n ih => rw [List.replicate_succ, List.replicate_succ]; exact .cons .no ih
  | d :: r, _, h => by
    obtain ⟨v, vr, rfl, h1, h2⟩ := reps_cons.mp h
    exact .cons (.fz h1) (paired_fz m h2)
theorem noow_fz (m : Nat) (ds : List D) : NoOw (.no :: (ds.map B.fz ++ List.replicate m B.no)) := fun j es h => by
  cases j with
  | zero => cases h
  | succ j =>
    rw [List.getElem?_cons_succ] at h
    by_cases hi : j < ds.length
    · rw [List.getElem?_append_left (by simpa using hi), List.getElem?_map] at h
      obtain ⟨k, _, h⟩ := Option.map_eq_some_iff.mp h
      cases h
    · rw [List.getElem?_append_right (by simpa using hi), List.getElem?_replicate] at h
      split at h <;> cases h
/-- the frame of an __init__ -/
def startI (N : Nat) (ds : List D) : List B := .no :: (ds.map .fz ++ List.replicate (N - (ds.length + 1)) .no)
section
variable {P : Program} {w : World} {K : PySem.W.Frag} {mg : Str → Option Value} {base : Heap} {x qual : Str} {st : Stmt} {f C : Addr} {fd : FuncData} {N ps ns : List Str} {k : Nat} {sf : Str}
theorem ok_init {g : Lf} (F : Fun K x qual st f fd) (S : FnScope N (sf :: ps) (defScope st)) (hnd : ns.Nodup) (hlen : ns.length ≤ 900)
    (hb : ∀ (cdv : Value) (A : Around) (outer : List Env) (s : Shared) (H : Hp) (E : XK), Room k (A.deeper (envOfC qual (defScope st) s.heap.objs.size f cdv)) → PSs (cxOf CX0 P w K mg base N qual (defScope st) f cdv A outer s H E).nox (defBody st) (tIni K C ns g)) :
    FnOk P w K mg base CX0 (k + 1) f fd (sf :: ps) (spI K C ns ps.length fun ds => g (startI N.length ds)) := by
  refine F.ok S (fun vs H Q E h => ?_) (fun cdv A outer s H vs Q E hr h => ⟨_, hb cdv A outer s H E hr, ?_⟩)
  · obtain ⟨p, dx, rest, G, H0, ds, xs, rfl, _, _, _, _, _, rs, hl, _⟩ := h
    rw [List.length_cons, List.length_cons, ← rs.length, hl]
  · obtain ⟨p, dx, rest, G, H0, ds, xs, rfl, rfl, h1, h2, h3, sub, rs, hl, hf, k⟩ := h
    have hne : p ≠ dx := h3.symm
    have hp1 : (upd H0 dx (.own p)) p = none := by rw [upd_ne hne]; exact h1
    have st1 : Step G H0 G (upd H0 dx (.own p)) := Step.own sub h2
    have st2 : Step G H0 G (upd (upd H0 dx (.own p)) p (.ins C dx [])) := st1.trans (Step.own st1.sub hp1)
    have good : Good K G H0 G (upd (upd H0 dx (.own p)) p (.ins C dx [])) (start N (.ref p :: rest)) (startI N.length ds) := by
      refine ⟨st2, ?_, fun i j a es es' q1 => absurd q1 (noow_fz _ ds i es)⟩
      unfold start startI
      rw [List.map_cons, List.length_cons, List.cons_append, ← rs.length]
      exact .cons .no (paired_fz _ rs)
    refine ⟨G, H0, G, _, p, dx, [], [], [], xs, good, noow_fz _ ds, rfl, upd_same, sub.free h1, h1, rfl, hnd, hlen, reps_nil.mpr rfl, hf, fun H' G' us s' q1 q2 q3 => k H' G' us s' q1 q2 q3⟩
end
section
variable {X : Cx} {a b c e tg elt iter : Expr} {es ifs : List Expr} {fa fb fc : Ef} {ga gb gi : Lf} {ta tc : Tf} {pos p : Pos} {st : Stmt}
/-! ### C(..) -/
def eMake (c : Str) (ns : List Str) (n : Nat) (f : List D → Option (List D)) (g : Lf) : Ef := fun ρ => (g ρ).bind fun ds => if ds.length = n then (f ds).bind fun xs => if ns.length = xs.length then some (.obj c ns xs) else none else none
theorem pf_make {k n : Nat} {C fI : Addr} {fd : FuncData} {ps ns : List Str} {c : Str} {f : List D → Option (List D)} (hC : ClsAt X.K c C) (M : Mk X.K C fI) (F : FnOk X.prog X.w X.K X.mg X.base CX0 k fI fd ps (spI X.K C ns n f)) (hr : Room (k + 1) X.A) (hm : X.mg c = some (.ref C)) (hb : Binds X.K fd ps []) (hg : Gl X c)
    (ha : PFA X (e :: es) ga) (hdb : (c == ("__debug__" : Str)) = false := by decide) (he : starEach (e :: es) X.env = (false, eval e X.env) :: starEach es X.env := by rfl) (hpl : (backTo pos (starEach es X.env)).any (·.1) = false := by rfl) :
    PF X (.Call (.Name c p) (e :: es) [] pos) (eMake c ns n f ga) := by
  refine PE.to (pe_make (E := E0) M F hr hg hm hb .nil pass0 ha hdb he hpl) ?_
  rintro σ H Q ⟨G0, H0, G, ρ, d, good, hf, k⟩
  unfold eMake at hf
  obtain ⟨ds, h1, hf⟩ := Option.bind_eq_some_iff.mp hf
  split at hf
  · rename_i hl
    obtain ⟨xs, h2, hf⟩ := Option.bind_eq_some_iff.mp hf
    split at hf
    · rename_i hn
      cases hf
      refine ⟨G0, H0, G, ρ, _, good, h1, fun vs H1 G1 s1 r1 x dx hx hdx hne => ?_⟩
      refine ⟨x, dx, vs ++ [], G1, H1, ds, xs, rfl, rfl, hx, hdx, hne, s1.sub, by rw [List.append_nil]; exact r1, hl, h2, fun H' G' us s' q1 q2 q3 => ⟨rfl, ?_⟩⟩
      exact k _ _ _ (s1.trans (s'.frz hx q1 q2)) (rep_obj.mpr ⟨C, x, dx, us, hC, rfl, upd_same, hn, q3.mono (Same.new q2)⟩)
    · cases hf
  · cases hf
/-! ### is True, is False, is None -/
def gIsC : D → D → Option Bool
  | d, .non => some (isNon d)
  | .bl x, .bl y => some (x == y)
  | .non, .bl _ => some false
  | .int _, .bl _ => some false
  | .str _, .bl _ => some false
  | .tup _, .bl _ => some false
  | .lst _, .bl _ => some false
  | .obj _ _ _, .bl _ => some false
  | .exc _ _ _, .bl _ => some false
  | _, _ => none
theorem op_isB : OpR X (compareOp .Is) (fun x y H Q => ∃ k, y = .bl k ∧ Q (.bl (decide (x = .bl k))) H) := by
  intro pins s σ H x y v u Q I rx ry h
  obtain ⟨k, rfl, q⟩ := h
  cases ry
  cases x with
  | bl z => cases rx; refine is_bool (fin_bl I q ?_); rw [dec_bl]
  | non => cases rx; refine wpAny_is_other (by rfl) (by intro z; cases z) (fin_bl I q (by simp))
  | int i => obtain ⟨t, rfl⟩ := rx; refine wpAny_is_other (by rfl) (by intro z; cases z) (fin_bl I q (by simp))
  | str i => obtain ⟨t, rfl⟩ := rx; refine wpAny_is_other (by rfl) (by intro z; cases z) (fin_bl I q (by simp))
  | byt i => obtain ⟨t, rfl⟩ := rx; refine wpAny_is_other (by rfl) (by intro z; cases z) (fin_bl I q (by simp))
  | flt i => obtain ⟨t, rfl⟩ := rx; refine wpAny_is_other (by rfl) (by intro z; cases z) (fin_bl I q (by simp))
  | ref i => cases rx; refine wpAny_is_other (by rfl) (by intro z; cases z) (fin_bl I q (by simp))
  | ty i => cases rx; refine wpAny_is_other (by rfl) (by intro z; cases z) (fin_bl I q (by simp))
theorem cm_isC : CmR X .Is gIsC := ⟨_, op_isN.or op_isB, fun d d' k G H x y Q h s rx ry q => by
  have fin : ∀ (z : Bool) (v : V), d' = .bl z → x = v → k = decide (v = .bl z) → (fun x y H Q => y = V.non ∧ Q (.bl (decide (x = .non))) H) x y H Q ∨ (∃ k, y = .bl k ∧ Q (.bl (decide (x = .bl k))) H) := fun z v e1 e2 e3 => by
    subst e1; subst e2
    exact .inr ⟨z, rep_bl.mp ry, by rw [← e3]; exact q H G (.refl s)⟩
  cases d' with
  | non =>
    have hk : isNon d = k := by cases d <;> (cases h; rfl)
    refine .inl ⟨rep_non.mp ry, ?_⟩
    rw [rep_isNon rx, hk]; exact q H G (.refl s)
  | bl z =>
    cases d with
    | bl w => cases h; exact fin z _ rfl (rep_bl.mp rx) (by rw [dec_bl])
    | non => cases h; exact fin z _ rfl (rep_non.mp rx) (by simp)
    | int i => cases h; exact fin z _ rfl (rep_int.mp rx) (by simp)
    | str i => cases h; exact fin z _ rfl (rep_str.mp rx) (by simp)
    | tup ds => cases h; obtain ⟨p, _, e, _⟩ := rep_tup.mp rx; exact fin z _ rfl e (by simp)
    | lst ds => cases h; obtain ⟨p, _, e, _⟩ := rep_lst.mp rx; exact fin z _ rfl e (by simp)
    | obj _ _ ds => cases h; obtain ⟨_, p, _, _, _, e, _⟩ := rep_obj.mp rx; exact fin z _ rfl e (by simp)
    | exc _ _ ds => cases h; obtain ⟨_, p, _, _, _, e, _⟩ := rep_exc.mp rx; exact fin z _ rfl e (by simp)
  | _ => cases d <;> cases h⟩
/-! ### a new list times an int -/
def lRep (g : Lf) (f : Ef) : Lf := fun ρ => (g ρ).bind fun ds => (f ρ).bind fun n => match n with | .int k => if decide (0 ≤ k) && decide (k ≤ 1000) && decide (ds.length ≤ 90) then some (List.replicate k.toNat ds).flatten else none | _ => none
theorem reps_rep {K : PySem.W.Frag} {G : Hp} {ds : List D} {vs : List V} (h : Reps K G ds vs) : ∀ k : Nat, Reps K G (List.replicate k ds).flatten (List.replicate k vs).flatten
  | 0 => reps_nil.mpr rfl
  | k + 1 => by
    rw [List.replicate_succ, List.replicate_succ, List.flatten_cons, List.flatten_cons]
    exact h.append (reps_rep h k)
theorem pl_rep (ha : PFr X a ga) (hb : PF X b fb) : PFr X (.BinOp a .Mult b pos) (lRep ga fb) := by
  refine PE.toR (pe_op op_rep ha hb) ?_
  rintro σ H Q ⟨G0, H0, G, ρ, d, good, hf, k⟩
  unfold lRep at hf
  obtain ⟨xs, h1, hf⟩ := Option.bind_eq_some_iff.mp hf
  obtain ⟨n, h2, hf⟩ := Option.bind_eq_some_iff.mp hf
  cases n with
  | int m =>
    dsimp only at hf
    split at hf
    · rename_i hc
      cases hf
      simp only [Bool.and_eq_true, decide_eq_true_eq] at hc
      refine ⟨G0, H0, G, ρ, _, good, h1, fun p vs H1 G1 s1 hn hp gp rs => ⟨G0, H0, G1, ρ, _, good.step s1, h2, fun q H2 G2 s2 r2 => ?_⟩⟩
      have hne : H1 p ≠ none := by rw [hp]; exact fun z => nomatch z
      refine ⟨p, m, vs, rfl, rep_int.mp r2, s2.hh _ _ hp, by omega, by omega, ?_, fun l hl => ?_⟩
      · rw [← rs.length]
        have : xs.length * m.toNat ≤ 90 * 1000 := Nat.mul_le_mul hc.2 (by omega)
        exact Nat.le_trans this (by decide)
      · have s3 := Step.own (o := .lst (List.replicate m.toNat vs).flatten) s2.sub hl
        exact k l _ _ G2 ((s1.trans s2).trans s3) ((s1.trans s2).hh.free hl) upd_same (s2.sub.free hl) (reps_rep (rs.mono s2.gg) _)
    · cases hf
  | _ => cases hf
/-! ### one's own list, is it empty -/
def tOwnNe (i : Nat) : Tf := fun ρ => match ρ[i]? with | some (.ow ds) => some (!ds.isEmpty) | _ => none
theorem op_neNil (hu : X.A.units < cLine) : OpR X (compareOp .NotEq) (fun x y H Q => ∃ l m xs, x = .ref l ∧ y = .ref m ∧ SqL X.K H l xs ∧ SqL X.K H m [] ∧ Q (.bl (!xs.isEmpty)) H) := by
  intro pins s σ H x y v u Q I rx ry h
  obtain ⟨l, m, xs, rfl, rfl, hl, hm, q⟩ := h
  cases rx
  cases ry
  obtain ⟨its, w1, t1, _⟩ := I.list hl
  obtain ⟨jts, w2, t2, _⟩ := I.list hm
  cases w2
  cases xs with
  | nil =>
    cases w1
    have R := SeqAt.RcNeAt.lists (A := X.A) (s := s) (e := fun _ => true) t1.isList t2.isList rfl hu (fun j h1 => absurd h1 (by simp))
    exact R X.prog X.w X.xe _ ⟨.bl false, H, I, rfl, q⟩
  | cons x r =>
    cases w1 with
    | cons r1 r2 =>
      have R := SeqAt.RcNeAt.lists_lengths (A := X.A) (s := s) t1.isList t2.isList (by simp) hu
      exact R X.prog X.w X.xe _ ⟨.bl true, H, I, rfl, q⟩
theorem pt_ownNe {k : Nat} (i : Nat) (hr : Room k X.A) {x : Str} {p1 p2 : Pos} (hN : X.N[i]? = some x := by rfl) (hv : Vis X.env.scope x := by first | exact Or.inl rfl | exact Or.inr (Or.inl rfl) | exact Or.inr (Or.inr rfl)) (hd : (x == ("__debug__" : Str)) = false := by decide) (hcd : (x == ("__classdict__" : Str)) = false := by decide) :
    PFT X (.Compare (.Name x p1) [.NotEq] [.List [] p2] pos) (tOwnNe i) := by
  refine PT.to (pt_cmpR (op_neNil hr.units0) (pe_var hN hv hd hcd) (pe_lst pa_nil) (nomark _)) ?_
  rintro σ H Q ⟨G0, H0, G, ρ, b, good, hf, k⟩
  unfold tOwnNe at hf
  split at hf
  · rename_i ds hi
    cases hf
    obtain ⟨q, vs, e1, e2, e3, e4, e5⟩ := good.addr hi
    refine ⟨.ref q, e1, Nat.zero_le _, fun z hz => ⟨q, z, vs, rfl, rfl, .of (by rw [upd_ne (ne_of_none e2 hz)]; exact e2), .of upd_same, _, rfl, ?_⟩⟩
    have e : (!vs.isEmpty) = !ds.isEmpty := by
      have hl := e5.length
      cases vs with
      | nil => cases ds with
        | nil => rfl
        | cons _ _ => simp at hl
      | cons _ _ => cases ds with
        | nil => simp at hl
        | cons _ _ => rfl
    rw [e]
    exact k _ G (Step.own good.sub hz)
  · cases hf
/-! ### list.index, of trees -/
end
section
variable {l : Addr} {its : Array Value} {n : Nat} {dd : Option Addr} {sl : Array (Option Value)} {y : Value} {q : Nat → Bool} {top : Int} {j : Nat}
theorem ix_loop (hj : j < its.size) (ht : (j : Int) < top) (hq : q j = true) : ∀ (k i : Nat), j - i = k → i ≤ j → (∀ m, i ≤ m → m < j → q m = false) → Meets (Builtin.«list.index.loop» ⟨[.ref l, y, rawInt i, rawInt top], []⟩)
    (fun A R s => s.heap.get? l = some { cls := .type "list", dict := dd, data := .seq its n, slots := sl } ∧ (∀ m (h : m < its.size), SeqAt.EqAt A.in1 s its[m] y (q m)) ∧ R (.ok (.ret (.int j s.toks))) { s with toks := s.toks + 1 })
  | 0, i, hk, hi, _ => by
    have e : i = j := by omega
    subst e
    intro P w A R s hyp
    obtain ⟨hp, g, d, tk, os⟩ := s
    obtain ⟨at_, eqs, fin⟩ := hyp
    wp_walk using wpAny_loadPart' at_
    rw [show (if (i : Int) < top then its[((i : Nat) : Int).toNat]? else none) = some its[i] by simp [ht, hj]]
    refine wpAny_bind (eqs i hj P w _ _ ?_)
    rw [hq]
    wp_walk
    exact fin
  | k + 1, i, hk, hi, hno => by
    intro P w A R s hyp
    obtain ⟨hp, g, d, tk, os⟩ := s
    obtain ⟨at_, eqs, fin⟩ := hyp
    have lt : i < its.size := by omega
    have lt2 : (i : Int) < top := by omega
    wp_walk using wpAny_loadPart' at_
    rw [show (if (i : Int) < top then its[((i : Nat) : Int).toNat]? else none) = some its[i] by simp [lt2, lt]]
    refine wpAny_bind (eqs i lt P w _ _ ?_)
    rw [hno i (Nat.le_refl _) (by omega)]
    wp_walk
    rw [show ((i : Int) + 1) = ((i + 1 : Nat) : Int) by push_cast; rfl]
    exact ⟨plainId_quiet MeetsSeq.plain_index_loop _, codeAny_builtin MeetsSeq.entry_index_loop (by
      rw [Around.under_plainId MeetsSeq.plain_index_loop _]
      exact ix_loop hj ht hq k (i + 1) (by omega) (by omega) (fun m h1 h2 => hno m (by omega) h2) P w A R _ ⟨at_, eqs, fin⟩)⟩
theorem ix_meets (hj : j < its.size) (hs : (j : Int) < 2 ^ 63 - 1) (hq : q j = true) (hno : ∀ m, m < j → q m = false) : Meets (Builtin.«list.index» ⟨[.ref l, y], []⟩)
    (fun A R s => s.heap.get? l = some { cls := .type "list", dict := dd, data := .seq its n, slots := sl } ∧ (∀ m (h : m < its.size), SeqAt.EqAt A.in1 s its[m] y (q m)) ∧ R (.ok (.ret (.int j s.toks))) { s with toks := s.toks + 1 }) := by
  intro P w A R s hyp
  obtain ⟨hp, g, d, tk, os⟩ := s
  obtain ⟨at_, eqs, fin⟩ := hyp
  wp_walk using wpAny_loadPart' at_
  rw [show ((fun i : Int => if i < 0 then max 0 (i + (its.size : Int)) else i) ((none : Option Int).getD 0)) = ((0 : Nat) : Int) by simp,
    show ((fun i : Int => if i < 0 then max 0 (i + (its.size : Int)) else i) ((none : Option Int).getD (2 ^ 63 - 1))) = 2 ^ 63 - 1 by simp]
  exact ⟨plainId_quiet MeetsSeq.plain_index_loop _, codeAny_builtin MeetsSeq.entry_index_loop (by
    rw [Around.under_plainId MeetsSeq.plain_index_loop _]
    exact ix_loop hj hs hq _ 0 rfl (Nat.zero_le _) (fun m _ h2 => hno m h2) P w A R _ ⟨at_, eqs, fin⟩)⟩
end
/-- where a tree stands first in a list, all of whose items can be asked -/
def ixD (d : D) : List D → Option Nat
  | [] => none
  | x :: r => (eqD 8 x d).bind fun b => if b = true then (if (r.all fun z => (eqD 8 z d).isSome) then some 0 else none) else (ixD d r).map (· + 1)
theorem ixD_spec {d : D} : ∀ {ds : List D} {j : Nat}, ixD d ds = some j → j < ds.length ∧ (∀ (m : Nat) (x : D), ds[m]? = some x → ∃ b, eqD 8 x d = some b ∧ (m < j → b = false) ∧ (m = j → b = true))
  | [], _, h => by cases h
  | x :: r, j, h => by
    unfold ixD at h
    obtain ⟨b, h1, h⟩ := Option.bind_eq_some_iff.mp h
    split at h
    · rename_i hb
      split at h
      · rename_i ha
        cases h
        refine ⟨by simp, fun m z hz => ?_⟩
        cases m with
        | zero => cases hz; exact ⟨b, h1, fun q => absurd q (Nat.lt_irrefl _), fun _ => hb⟩
        | succ m =>
          rw [List.getElem?_cons_succ] at hz
          have := List.all_eq_true.mp ha z (List.mem_of_getElem? hz)
          obtain ⟨b', hb'⟩ := Option.isSome_iff_exists.mp this
          exact ⟨b', hb', fun q => by omega, fun q => by omega⟩
      · cases h
    · rename_i hb
      obtain ⟨i, h2, rfl⟩ := Option.map_eq_some_iff.mp h
      obtain ⟨h3, h4⟩ := ixD_spec h2
      refine ⟨by rw [List.length_cons]; omega, fun m z hz => ?_⟩
      cases m with
      | zero => cases hz; exact ⟨b, h1, fun _ => by simpa using hb, fun q => by omega⟩
      | succ m =>
        rw [List.getElem?_cons_succ] at hz
        obtain ⟨b', q1, q2, q3⟩ := h4 m z hz
        exact ⟨b', q1, fun q => q2 (by omega), fun q => q3 (by omega)⟩
section
variable {X : Cx} {a b c e tg elt iter : Expr} {es ifs : List Expr} {fa fb fc : Ef} {ga gb gi : Lf} {ta tc : Tf} {pos p : Pos} {st : Stmt}
def rIndex (X : Cx) : V → List V → Hp → VK → Prop := fun x vs H Q => ∃ l y G ds ws d j, x = .ref l ∧ vs = [y] ∧ Same G H ∧ SqL X.K H l ws ∧ Reps X.K G ds ws ∧ Rep X.K G d y ∧ ixD d ds = some j ∧ ds.length ≤ 100000 ∧ Q (.int (j : Nat)) H
theorem mt_index {k : Nat} (hr : Room k X.A) : MtR X "list.index" (rIndex X) := by
  intro pins s σ H x xs v us Q I rx rv h
  obtain ⟨l, y, G, ds, ws, d, j, rfl, rfl, sub, hq, rs, rd, hj, hl, q⟩ := h
  cases rx
  obtain ⟨u, rfl, ru⟩ := rv.one
  obtain ⟨its, r, pl, _⟩ := I.list hq
  obtain ⟨⟨cls, dd, data, sl⟩, ho, hc, n, hd⟩ := pl.isList
  simp only at hc hd
  subst hc hd
  obtain ⟨h1, h2⟩ := ixD_spec hj
  have l1 := rs.length
  have l2 := r.length
  have hun := hr.units
  have bs : ∀ m, ∃ b : Bool, (m < j → b = false) ∧ (m = j → b = true) ∧ ∀ (h : m < its.toArray.size), SeqAt.EqAt X.A.in1 s its.toArray[m] u b := fun m => by
    by_cases hm : m < ds.length
    · obtain ⟨b, q1, q2, q3⟩ := h2 m _ (List.getElem?_eq_getElem hm)
      refine ⟨b, q2, q3, fun h => ?_⟩
      obtain ⟨v1, f1, g1⟩ := rs.get (List.getElem?_eq_getElem hm)
      obtain ⟨u1, f3, g3⟩ := r.get f1
      have x1 : its.toArray[m] = u1 := by
        have := (List.getElem?_eq_some_iff.mp f3).2
        simpa using this
      rw [x1]
      exact (at_D I sub 8 X.A.in1 _ _ v1 y u1 u _ (by show X.A.units + 1 + 8 < cLine; omega) q1 g1 rd g3 ru).2.2
    · exact ⟨decide (m = j), fun z => decide_eq_false (by omega), fun z => decide_eq_true z, fun h => absurd h (by rw [List.size_toArray, ← l2, ← l1]; exact hm)⟩
  have hjs : j < its.toArray.size := by rw [List.size_toArray, ← l2, ← l1]; exact h1
  refine call_meets F.slot_list_index ⟨_, ho, rfl⟩ F.entry_list_index (F.args_list_index_2 _ _) (ix_meets (l := l) (its := its.toArray) (n := n) (dd := dd) (sl := sl) (y := u) (q := fun m => (bs m).choose) (j := j) hjs (by omega) ((bs j).choose_spec.2.1 rfl) (fun m hm => (bs m).choose_spec.1 hm)) ⟨ho, fun m h => (bs m).choose_spec.2.2 h, ?_⟩
  exact ⟨.int (j : Nat), H, I.tok _, ⟨_, rfl⟩, q⟩
def eIndex (g : Lf) (f : Ef) : Ef := fun ρ => (g ρ).bind fun ds => (f ρ).bind fun d => if ds.length ≤ 100000 then (ixD d ds).map fun j => .int (j : Nat) else none
theorem pf_index {k : Nat} (hr : Room k X.A) (ht : PE X c (tBM X.K "list" (rIndex X) (tSrc X.K ga) (tCons (tF X.K fb) tNil))) : PF X c (eIndex ga fb) := by
  refine PE.to ht ?_
  rintro σ H Q ⟨G0, H0, G, ρ, d, good, hf, k⟩
  unfold eIndex at hf
  obtain ⟨ds, h1, hf⟩ := Option.bind_eq_some_iff.mp hf
  obtain ⟨y, h2, hf⟩ := Option.bind_eq_some_iff.mp hf
  split at hf
  · rename_i hl
    obtain ⟨j, h3, rfl⟩ := Option.map_eq_some_iff.mp hf
    refine ⟨G0, H0, G, ρ, _, good, h1, fun q vs H1 G1 s1 hq rs => ⟨.inl ⟨rfl, vs, s1.sub.seq hq⟩, G0, H0, G1, ρ, _, good.step s1, h2, fun v H2 G2 s2 r2 => ?_⟩⟩
    exact ⟨q, v, G2, ds, vs, y, j, rfl, rfl, s2.sub, (s1.sub.trans s2.hh).seq hq, rs.mono s2.gg, r2, h3, hl, k _ _ G2 (s1.trans s2) (rep_int.mpr rfl)⟩
  · cases hf
end
end L2

/-! zip of three tuples; max of three ints, min of two, max of a list of ints; tuples cut and joined. -/
namespace L2
open PySem PySem.Spec PyProof.Rows
abbrev IsTrip (h : Heap) (T : Addr) (a b c : Value) : Prop := h.get? T = some { cls := .type "tuple", data := .seq #[a, b, c] }
section
variable {prog : Program} {w : World} {A : Around} {E : Value → Shared → Prop} {s : Shared}
theorem updateSeq_trip {T : Addr} {a b c x : Value} {k : Nat} {Q : Unit → Shared → Prop} (hT : IsTrip s.heap T a b c)
    (h : ∀ h', h'.get? T = some { cls := .type "tuple", data := .seq ((#[a, b, c] : Array Value).setIfInBounds k x) } → Heap.SameBut T s.heap h' → Q () { s with heap := h' }) :
    wpAny (model prog w) A (updateSeq T (·.setIfInBounds k x)) Q E s := by
  refine wpAny_updateSeq hT rfl (h _ ?_ (Heap.SameBut.update ..))
  rw [Heap.get?_update_self _ hT rfl]
  simp [Obj.mapSeq]
/-- the records of a zip over three tuples, apart -/
structure Z3 (z TI TO i1 i2 i3 l1 l2 l3 : Addr) : Prop where
  TIz : TI ≠ z
  TOz : TO ≠ z
  i1z : i1 ≠ z
  i2z : i2 ≠ z
  i3z : i3 ≠ z
  TITO : TI ≠ TO
  TIi1 : TI ≠ i1
  TIi2 : TI ≠ i2
  TIi3 : TI ≠ i3
  TOi1 : TO ≠ i1
  TOi2 : TO ≠ i2
  TOi3 : TO ≠ i3
  i12 : i1 ≠ i2
  i13 : i1 ≠ i3
  i23 : i2 ≠ i3
  a1 : l1 ≠ z
  a2 : l1 ≠ TO
  a3 : l1 ≠ i1
  a4 : l1 ≠ i2
  a5 : l1 ≠ i3
  b1 : l2 ≠ z
  b2 : l2 ≠ TO
  b3 : l2 ≠ i1
  b4 : l2 ≠ i2
  b5 : l2 ≠ i3
  c1 : l3 ≠ z
  c2 : l3 ≠ TO
  c3 : l3 ≠ i1
  c4 : l3 ≠ i2
  c5 : l3 ≠ i3
theorem zip3_item {z TI TO i1 i2 i3 l1 l2 l3 : Addr} {k : Nat} {xs ys zs : Array Value} {x y v a b c : Value} {Q : Value → Shared → Prop} (D : Z3 z TI TO i1 i2 i3 l1 l2 l3) (hz : IsZip s.heap z TI TO .none) (hTI : IsTrip s.heap TI (.ref i1) (.ref i2) (.ref i3)) (hTO : IsTrip s.heap TO a b c)
    (h1 : s.heap.IsTupleIter i1 l1 k) (h2 : s.heap.IsTupleIter i2 l2 k) (h3 : s.heap.IsTupleIter i3 l3 k) (hl1 : s.heap.IsTuple l1 xs) (hl2 : s.heap.IsTuple l2 ys) (hl3 : s.heap.IsTuple l3 zs) (hx : xs[k]? = some x) (hy : ys[k]? = some y) (hv : zs[k]? = some v)
    (hQ : ∀ h', IsZip h' z TI TO (rawInt s.heap.objs.size) → IsTrip h' TO x y v → h'.IsTupleIter i1 l1 (k + 1) → h'.IsTupleIter i2 l2 (k + 1) → h'.IsTupleIter i3 l3 (k + 1) → IsTrip h' s.heap.objs.size x y v →
      (∀ c o, c ≠ z → c ≠ TO → c ≠ i1 → c ≠ i2 → c ≠ i3 → s.heap.get? c = some o → h'.get? c = some o) → Q (.ref s.heap.objs.size) { s with heap := h' }) :
    wpAny (model prog w) A (Builtin.«zip.__next__» ⟨[.ref z], []⟩) (fun fin s' => ∃ v, fin = .done (.ret v) ∧ Q v s') E s := by
  change wpAny _ _ (field (.ref z) 2 >>= _) _ _ _
  refine wpAny_bind (wpAny_field hz rfl (x := .bool false) rfl ?_)
  change wpAny _ _ (field (.ref z) 3 >>= _) _ _ _
  refine wpAny_bind (wpAny_field hz rfl (x := .ref TI) rfl (wpAny_bind (wpAny_seqItems hTI rfl ?_)))
  change wpAny _ _ (Builtin.SmallTypes.ownedTupleIsFree (.ref z) >>= _) _ _ _
  refine wpAny_bind ?_
  unfold Builtin.SmallTypes.ownedTupleIsFree
  refine wpAny_bind (wpAny_field hz rfl (x := .none) rfl (wpAny_pure ?_))
  simp only [if_true]
  refine wpAny_bind (wpAny_rule (wpAny_bind (wpAny_field hz rfl (x := .ref TO) rfl (wpAny_bind (wpAny_setField_rec hz (by simp) fun g1 z1 t1 => ?_)))))
  have z1 : IsZip g1 z TI TO .ellipsis := z1
  refine wpAny_bind ?_
  simp only [List.zipIdx_cons, List.zipIdx_nil, List.forIn_cons, List.forIn_nil]
  refine wpAny_bind (wpAny_bind (wpAny_onRaise ?_))
  change wpAny _ _ (Builtin.SmallTypes.nextOf (.ref i1) >>= _) _ _ _
  refine wpAny_bind (nextT_item (h1.extBut t1.extBut D.i1z) (hl1.extBut t1.extBut D.a1) hx fun g2 u1 t2 => wpAny_pure ?_)
  have o2 : IsTrip g2 TO a b c := t2.extBut _ _ D.TOi1 (t1.extBut _ _ D.TOz hTO)
  refine wpAny_bind (wpAny_seqItems o2 rfl (wpAny_bind (updateSeq_trip o2 fun g3 o3 t3 => ?_)))
  have o3 : IsTrip g3 TO x b c := o3
  refine wpAny_bind (wpAny_letGo (wpAny_pure (wpAny_bind (wpAny_bind (wpAny_onRaise ?_)))))
  change wpAny _ _ (Builtin.SmallTypes.nextOf (.ref i2) >>= _) _ _ _
  refine wpAny_bind (nextT_item (((h2.extBut t1.extBut D.i2z).extBut t2.extBut D.i12.symm).extBut t3.extBut D.TOi2.symm) (((hl2.extBut t1.extBut D.b1).extBut t2.extBut D.b3).extBut t3.extBut D.b2) hy fun g4 u2 t4 => wpAny_pure ?_)
  have o4 : IsTrip g4 TO x b c := t4.extBut _ _ D.TOi2 o3
  refine wpAny_bind (wpAny_seqItems o4 rfl (wpAny_bind (updateSeq_trip o4 fun g5 o5 t5 => ?_)))
  have o5 : IsTrip g5 TO x y c := o5
  refine wpAny_bind (wpAny_letGo (wpAny_pure (wpAny_bind (wpAny_bind (wpAny_onRaise ?_)))))
  change wpAny _ _ (Builtin.SmallTypes.nextOf (.ref i3) >>= _) _ _ _
  refine wpAny_bind (nextT_item (((((h3.extBut t1.extBut D.i3z).extBut t2.extBut D.i13.symm).extBut t3.extBut D.TOi3.symm).extBut t4.extBut D.i23.symm).extBut t5.extBut D.TOi3.symm) (((((hl3.extBut t1.extBut D.c1).extBut t2.extBut D.c3).extBut t3.extBut D.c2).extBut t4.extBut D.c4).extBut t5.extBut D.c2) hv fun g6 u3 t6 => wpAny_pure ?_)
  have o6 : IsTrip g6 TO x y c := t6.extBut _ _ D.TOi3 o5
  refine wpAny_bind (wpAny_seqItems o6 rfl (wpAny_bind (updateSeq_trip o6 fun g7 o7 t7 => ?_)))
  have o7 : IsTrip g7 TO x y v := o7
  refine wpAny_bind (wpAny_letGo (wpAny_pure (wpAny_pure (wpAny_bind (wpAny_seqItems o7 rfl (wpAny_bind (wpAny_newTuple ?_)))))))
  have esz : g7.objs.size = s.heap.objs.size := by rw [t7.1, t6.1, t5.1, t4.1, t3.1, t2.1, t1.1]
  have z5 : IsZip g7 z TI TO .ellipsis := t7.extBut _ _ D.TOz.symm (t6.extBut _ _ D.i3z.symm (t5.extBut _ _ D.TOz.symm (t4.extBut _ _ D.i2z.symm (t3.extBut _ _ D.TOz.symm (t2.extBut _ _ D.i1z.symm z1)))))
  have k5 : ∀ c o, c ≠ z → c ≠ TO → c ≠ i1 → c ≠ i2 → c ≠ i3 → s.heap.get? c = some o → g7.get? c = some o := fun c o c1 c2 c3 c4 c5 e => t7.extBut _ _ c2 (t6.extBut _ _ c5 (t5.extBut _ _ c2 (t4.extBut _ _ c4 (t3.extBut _ _ c2 (t2.extBut _ _ c3 (t1.extBut _ _ c1 e))))))
  have p1 : g7.IsTupleIter i1 l1 (k + 1) := ((((u1.extBut t3.extBut D.TOi1.symm).extBut t4.extBut D.i12).extBut t5.extBut D.TOi1.symm).extBut t6.extBut D.i13).extBut t7.extBut D.TOi1.symm
  have p2 : g7.IsTupleIter i2 l2 (k + 1) := ((u2.extBut t5.extBut D.TOi2.symm).extBut t6.extBut D.i23).extBut t7.extBut D.TOi2.symm
  have p3 : g7.IsTupleIter i3 l3 (k + 1) := u3.extBut t7.extBut D.TOi3.symm
  have lz : z < g7.objs.size := Heap.lt_size z5
  change wpAny _ _ (Builtin.SmallTypes.ownedTupleHandOut (.ref z) (.ref g7.objs.size) >>= _) _ _ _
  refine wpAny_bind ?_
  unfold Builtin.SmallTypes.ownedTupleHandOut
  have z6 : IsZip (g7.push { cls := .type "tuple", data := .seq #[x, y, v] }) z TI TO .ellipsis := Heap.get?_push_of_some _ z5
  refine wpAny_bind (wpAny_setField_rec z6 (by simp) fun g8 z7 t8 => ?_)
  have z7 : IsZip g8 z TI TO (rawInt g7.objs.size) := z7
  refine wpAny_setField_rec z7 (by simp) fun g9 z8 t9 => ?_
  have z8 : IsZip g9 z TI TO (rawInt g7.objs.size) := z8
  have up : ∀ c o, c ≠ z → g7.get? c = some o → g9.get? c = some o := fun c o c1 e => t9.extBut _ _ c1 (t8.extBut _ _ c1 (Heap.get?_push_of_some _ e))
  have n8 : IsTrip g9 g7.objs.size x y v := t9.extBut _ _ (Nat.ne_of_gt lz) (t8.extBut _ _ (Nat.ne_of_gt lz) (Heap.get?_push_size _ rfl))
  rw [esz] at z8 n8
  refine wpAny_pure ⟨_, rfl, ?_⟩
  change Q (.ref g7.objs.size) _
  rw [esz]
  obtain ⟨q1, r1, w1⟩ := p1
  obtain ⟨q2, r2, w2⟩ := p2
  obtain ⟨q3, r3, w3⟩ := p3
  exact hQ g9 z8 (up _ _ D.TOz o7) ⟨q1, up _ _ D.i1z r1, w1⟩ ⟨q2, up _ _ D.i2z r2, w2⟩ ⟨q3, up _ _ D.i3z r3, w3⟩ n8 fun c o c1 c2 c3 c4 c5 e => up c o c1 (k5 c o c1 c2 c3 c4 c5 e)
/-- all three are of one length: the first one ends it -/
theorem zip3_end {z TI TO i1 i2 i3 l1 : Addr} {k : Nat} {xs : Array Value} {Q : Fin → Shared → Prop} (hh : A.handled = none) (TIz : TI ≠ z) (i1z : i1 ≠ z) (a1 : l1 ≠ z) (hz : IsZip s.heap z TI TO .none) (hTI : IsTrip s.heap TI (.ref i1) (.ref i2) (.ref i3))
    (h1 : s.heap.IsTupleIter i1 l1 k) (hl1 : s.heap.IsTuple l1 xs) (hx : xs[k]? = none)
    (hE : ∀ h' e, (∀ c o, c ≠ z → c ≠ i1 → s.heap.get? c = some o → h'.get? c = some o) → (∃ o, h'.get? e = some o ∧ o.cls = .type "StopIteration") → E (.ref e) { s with heap := h' }) :
    wpAny (model prog w) A (Builtin.«zip.__next__» ⟨[.ref z], []⟩) Q E s := by
  change wpAny _ _ (field (.ref z) 2 >>= _) _ _ _
  refine wpAny_bind (wpAny_field hz rfl (x := .bool false) rfl ?_)
  change wpAny _ _ (field (.ref z) 3 >>= _) _ _ _
  refine wpAny_bind (wpAny_field hz rfl (x := .ref TI) rfl (wpAny_bind (wpAny_seqItems hTI rfl ?_)))
  change wpAny _ _ (Builtin.SmallTypes.ownedTupleIsFree (.ref z) >>= _) _ _ _
  refine wpAny_bind ?_
  unfold Builtin.SmallTypes.ownedTupleIsFree
  refine wpAny_bind (wpAny_field hz rfl (x := .none) rfl (wpAny_pure ?_))
  simp only [if_true]
  refine wpAny_bind (wpAny_rule (wpAny_bind (wpAny_field hz rfl (x := .ref TO) rfl (wpAny_bind (wpAny_setField_rec hz (by simp) fun g1 z1 t1 => ?_)))))
  have z1 : IsZip g1 z TI TO .ellipsis := z1
  refine wpAny_bind ?_
  simp only [List.zipIdx_cons, List.zipIdx_nil, List.forIn_cons, List.forIn_nil]
  refine wpAny_bind (wpAny_bind (wpAny_onRaise ?_))
  change wpAny _ _ (Builtin.SmallTypes.nextOf (.ref i1) >>= _) _ _ _
  refine wpAny_bind (nextT_end hh (h1.extBut t1.extBut i1z) (hl1.extBut t1.extBut a1) hx fun g2 e t2 he => ?_)
  obtain ⟨oe, he1, he2⟩ := he
  have z2 : IsZip g2 z TI TO .ellipsis := t2 _ _ i1z.symm z1
  have ne : e ≠ z := fun q => by subst q; rw [z2] at he1; cases he1; simp at he2
  exact wpAny_setField_rec z2 (by simp) fun g3 _ t3 => hE g3 e (fun c o c1 c3 q => t3.extBut _ _ c1 (t2 _ _ c3 (t1.extBut _ _ c1 q))) ⟨oe, t3.extBut _ _ ne he1, he2⟩
end
abbrev z3a (h : Heap) (l1 : Addr) : Heap := h.push { cls := .type "tuple_iterator", data := .fields #[.ref l1, .int 0 0] }
abbrev z3b (h : Heap) (l1 l2 : Addr) : Heap := (z3a h l1).push { cls := .type "tuple_iterator", data := .fields #[.ref l2, .int 0 0] }
abbrev z3c (h : Heap) (l1 l2 l3 : Addr) : Heap := (z3b h l1 l2).push { cls := .type "tuple_iterator", data := .fields #[.ref l3, .int 0 0] }
abbrev z3d (h : Heap) (l1 l2 l3 : Addr) : Heap := (z3c h l1 l2 l3).push { cls := .type "tuple", data := .seq #[.ref h.objs.size, .ref (z3a h l1).objs.size, .ref (z3b h l1 l2).objs.size] }
abbrev z3e (h : Heap) (l1 l2 l3 : Addr) : Heap := (z3d h l1 l2 l3).push { cls := .type "tuple", data := .seq #[.none, .none, .none] }
abbrev z3f (h : Heap) (l1 l2 l3 : Addr) : Heap := (z3e h l1 l2 l3).push { cls := .type "zip", data := .fields #[.none, .bool false, .bool false, .ref (z3c h l1 l2 l3).objs.size, .ref (z3d h l1 l2 l3).objs.size] }
set_option maxHeartbeats 4000000 in
/-- zip(t, u, v) is made -/
theorem zip3_new (l1 l2 l3 : Addr) (xs ys zs : Array Value) :
    Meets (Builtin.«zip.__new__» ⟨[.type "zip", .ref l1, .ref l2, .ref l3], []⟩) (fun _ R s => s.heap.IsTuple l1 xs ∧ s.heap.IsTuple l2 ys ∧ s.heap.IsTuple l3 zs ∧ R (.ok (.ret (.ref (z3e s.heap l1 l2 l3).objs.size))) { s with heap := z3f s.heap l1 l2 l3 }) :=
  .of_wp fun prog w A R s h => by
    obtain ⟨hp, g, d, tk, os⟩ := s; obtain ⟨q1, q2, q3, h⟩ := h
    have hsub := sub_zip
    have L1 : Heap.IsTuple (Shared.heap ⟨hp, g, d, tk, os⟩) l1 xs := q1
    have L2 : Heap.IsTuple (Shared.heap ⟨hp.push { cls := .type "tuple_iterator", data := .fields #[.ref l1, .int 0 0] }, g, d, tk, os⟩) l2 ys := Heap.IsTuple.push q2 _
    have L3 : Heap.IsTuple (Shared.heap ⟨(hp.push { cls := .type "tuple_iterator", data := .fields #[.ref l1, .int 0 0] }).push { cls := .type "tuple_iterator", data := .fields #[.ref l2, .int 0 0] }, g, d, tk, os⟩) l3 zs := Heap.IsTuple.push (Heap.IsTuple.push q3 _) _
    wp_walk using wpAny_pyIter_tuple L1, wpAny_pyIter_tuple L2, wpAny_pyIter_tuple L3
    exact ⟨_, rfl, h⟩
theorem typeCall_zip_3 (a b c : Value) : checkTypeCall "zip" ⟨[a, b, c], []⟩ = pure () := by kernel_rfl
theorem newCall_zip_3 (a b c : Value) : checkBuiltinCall "zip.__new__" ⟨[.type "zip", a, b, c], []⟩ = pure () := by kernel_rfl
theorem args_object_init_4 (a b c d : Value) : argsOk "object.__init__" ⟨[a, b, c, d], []⟩ := by unfold argsOk; kernel_rfl
section
variable {prog : Program} {w : World} {A : Around} {E : Value → Shared → Prop} {s : Shared}
theorem call_zip3 {l1 l2 l3 : Addr} {xs ys zs : Array Value} {Q : Value → Shared → Prop} (q1 : s.heap.IsTuple l1 xs) (q2 : s.heap.IsTuple l2 ys) (q3 : s.heap.IsTuple l3 zs)
    (h : ∀ h', IsZip h' (s.heap.objs.size + 5) (s.heap.objs.size + 3) (s.heap.objs.size + 4) .none → IsTrip h' (s.heap.objs.size + 3) (.ref s.heap.objs.size) (.ref (s.heap.objs.size + 1)) (.ref (s.heap.objs.size + 2)) → IsTrip h' (s.heap.objs.size + 4) .none .none .none →
      h'.IsTupleIter s.heap.objs.size l1 0 → h'.IsTupleIter (s.heap.objs.size + 1) l2 0 → h'.IsTupleIter (s.heap.objs.size + 2) l3 0 → (∀ c o, s.heap.get? c = some o → h'.get? c = some o) → Q (.ref (s.heap.objs.size + 5)) { s with heap := h' }) : wpAny (model prog w) A (call (.type "zip") [.ref l1, .ref l2, .ref l3]) Q E s := by
  refine callType_new F.called_zip (by decide) (typeCall_zip_3 _ _ _) (newCall_zip_3 _ _ _) (fun obj => args_object_init_4 obj _ _ _) F.entry_zip_new (zip3_new l1 l2 l3 xs ys zs) ⟨q1, q2, q3, ?_⟩
  have y1 : (z3a s.heap l1).objs.size = s.heap.objs.size + 1 := Heap.size_push ..
  have y2 : (z3b s.heap l1 l2).objs.size = s.heap.objs.size + 2 := by rw [Heap.size_push, y1]
  have y3 : (z3c s.heap l1 l2 l3).objs.size = s.heap.objs.size + 3 := by rw [Heap.size_push, y2]
  have y4 : (z3d s.heap l1 l2 l3).objs.size = s.heap.objs.size + 4 := by rw [Heap.size_push, y3]
  have y5 : (z3e s.heap l1 l2 l3).objs.size = s.heap.objs.size + 5 := by rw [Heap.size_push, y4]
  have f6 : (z3f s.heap l1 l2 l3).get? (z3e s.heap l1 l2 l3).objs.size = some _ := Heap.get?_push_size _ rfl
  have f5 : (z3f s.heap l1 l2 l3).get? (z3d s.heap l1 l2 l3).objs.size = some _ := Heap.get?_push_of_some _ (Heap.get?_push_size _ rfl)
  have f4 : (z3f s.heap l1 l2 l3).get? (z3c s.heap l1 l2 l3).objs.size = some _ := Heap.get?_push_of_some _ (Heap.get?_push_of_some _ (Heap.get?_push_size _ rfl))
  have f3 : (z3f s.heap l1 l2 l3).get? (z3b s.heap l1 l2).objs.size = some _ := Heap.get?_push_of_some _ (Heap.get?_push_of_some _ (Heap.get?_push_of_some _ (Heap.get?_push_size _ rfl)))
  have f2 : (z3f s.heap l1 l2 l3).get? (z3a s.heap l1).objs.size = some _ := Heap.get?_push_of_some _ (Heap.get?_push_of_some _ (Heap.get?_push_of_some _ (Heap.get?_push_of_some _ (Heap.get?_push_size _ rfl))))
  have f1 : (z3f s.heap l1 l2 l3).get? s.heap.objs.size = some _ := Heap.get?_push_of_some _ (Heap.get?_push_of_some _ (Heap.get?_push_of_some _ (Heap.get?_push_of_some _ (Heap.get?_push_of_some _ (Heap.get?_push_size _ rfl)))))
  change _ ∧ _
  rw [y3, y4, y5] at f6
  rw [y1, y2, y3] at f4
  rw [y4] at f5
  rw [y2] at f3
  rw [y1] at f2
  rw [y5]
  exact ⟨⟨_, f6, rfl⟩, h _ f6 f4 f5 ⟨_, f1, rfl, rfl⟩ ⟨_, f2, rfl, rfl⟩ ⟨_, f3, rfl, rfl⟩ fun c o x => Heap.get?_push_of_some _ (Heap.get?_push_of_some _ (Heap.get?_push_of_some _ (Heap.get?_push_of_some _ (Heap.get?_push_of_some _ (Heap.get?_push_of_some _ x)))))⟩
end
def Itz3 (K : PySem.W.Frag) (a b c : Addr) : It :=
  ⟨fun i H => ∃ xs ys zs x y z, SqT K H a xs ∧ SqT K H b ys ∧ SqT K H c zs ∧ xs[i]? = some x ∧ ys[i]? = some y ∧ zs[i]? = some z, fun i H x H' => ∃ p v u t, H p = none ∧ x = .ref p ∧ H' = upd H p (.tup [v, u, t]) ∧ (∀ xs, SqT K H a xs → xs[i]? = some v) ∧ (∀ ys, SqT K H b ys → ys[i]? = some u) ∧ ∀ zs, SqT K H c zs → zs[i]? = some t,
    fun i H => ∃ xs ys zs, SqT K H a xs ∧ SqT K H b ys ∧ SqT K H c zs ∧ xs.length ≤ i⟩
theorem z3_pyNext_item {prog : Program} {w : World} {A : Around} {E : Value → Shared → Prop} {s : Shared} {z TI TO i1 i2 i3 l1 l2 l3 : Addr} {k : Nat} {xs ys zs : Array Value} {x y v a b c : Value} {Q : Option Value → Shared → Prop} (D : Z3 z TI TO i1 i2 i3 l1 l2 l3) (hz : IsZip s.heap z TI TO .none) (hTI : IsTrip s.heap TI (.ref i1) (.ref i2) (.ref i3)) (hTO : IsTrip s.heap TO a b c)
    (h1 : s.heap.IsTupleIter i1 l1 k) (h2 : s.heap.IsTupleIter i2 l2 k) (h3 : s.heap.IsTupleIter i3 l3 k) (hl1 : s.heap.IsTuple l1 xs) (hl2 : s.heap.IsTuple l2 ys) (hl3 : s.heap.IsTuple l3 zs) (hx : xs[k]? = some x) (hy : ys[k]? = some y) (hv : zs[k]? = some v)
    (hQ : ∀ h', IsZip h' z TI TO (rawInt s.heap.objs.size) → IsTrip h' TO x y v → h'.IsTupleIter i1 l1 (k + 1) → h'.IsTupleIter i2 l2 (k + 1) → h'.IsTupleIter i3 l3 (k + 1) → IsTrip h' s.heap.objs.size x y v →
      (∀ c o, c ≠ z → c ≠ TO → c ≠ i1 → c ≠ i2 → c ≠ i3 → s.heap.get? c = some o → h'.get? c = some o) → Q (some (.ref s.heap.objs.size)) { s with heap := h' }) : wpAny (model prog w) A (pyNext (.ref z)) Q E s := by
  have hT : s.TypeIs (.ref z) "zip" := ⟨_, hz, rfl⟩
  unfold pyNext
  exact wpAny_bind (wpAny_attempt (wpAny_callSpecial?_slot (name := Str.ofString "__next__") hT F.slot_zip_next (wpAny_call_entry F.slot_zip_next hT F.entry_zip_next (zip3_item D hz hTI hTO h1 h2 h3 hl1 hl2 hl3 hx hy hv fun h' a1 a2 a3 a4 a5 a6 a7 => wpAny_pure (hQ h' a1 a2 a3 a4 a5 a6 a7)) (F.args_zip_next_1 _))))
theorem z3_pyNext_end {prog : Program} {w : World} {A : Around} {E : Value → Shared → Prop} {s : Shared} {z TI TO i1 i2 i3 l1 : Addr} {k : Nat} {xs : Array Value} {Q : Option Value → Shared → Prop} (hh : A.handled = none) (TIz : TI ≠ z) (i1z : i1 ≠ z) (a1 : l1 ≠ z) (hz : IsZip s.heap z TI TO .none) (hTI : IsTrip s.heap TI (.ref i1) (.ref i2) (.ref i3))
    (h1 : s.heap.IsTupleIter i1 l1 k) (hl1 : s.heap.IsTuple l1 xs) (hx : xs[k]? = none)
    (hQ : ∀ h', (∀ c o, c ≠ z → c ≠ i1 → s.heap.get? c = some o → h'.get? c = some o) → Q none { s with heap := h' }) : wpAny (model prog w) A (pyNext (.ref z)) Q E s := by
  have hT : s.TypeIs (.ref z) "zip" := ⟨_, hz, rfl⟩
  unfold pyNext
  refine wpAny_bind (wpAny_attempt (wpAny_callSpecial?_slot (name := Str.ofString "__next__") hT F.slot_zip_next (wpAny_call_entry F.slot_zip_next hT F.entry_zip_next (zip3_end hh TIz i1z a1 hz hTI h1 hl1 hx fun h' e hk he => ?_) (F.args_zip_next_1 _))))
  obtain ⟨o, q1, q2⟩ := he
  exact wpAny_bind (wpAny_isInstance (T := "StopIteration") (b := true) ⟨o, q1, q2⟩ isSubtype_stop (wpAny_pure (hQ _ hk)))
abbrev fp3 (n : Nat) : List Addr := [n + 5, n + 3, n + 4, n, n + 1, n + 2]
theorem z3_apart {X : Cx} {pins : List (Addr × Obj)} {σ : St} {H : Hp} {s : Shared} (I : Inv X pins σ H s) {n : Nat} (hf : ∀ c ∈ fp3 n, FpOk X pins H c) : ∀ c ∈ fp3 n, ∀ v : List V, ∀ d : Addr, SqT X.K H d v → d ≠ c := fun c hc v d hd z => by
  have e := (hf c hc).1
  rcases hd with (hd | ⟨ob, hd⟩) | hd
  · rw [z, e] at hd; cases hd
  · rw [z, e] at hd; cases hd
  · obtain ⟨ob, _, _, hk, _⟩ := hd
    have e3 := I.ok.mod.kin d ob hk
    obtain ⟨_, q1, _, q3, _⟩ := hf c hc
    rcases q3 with q3 | q3
    · exact I.ok.noex d ob e3 (z ▸ q3)
    · exact absurd (Nat.lt_of_lt_of_le (Heap.lt_size (I.ok.bs d ob e3).1) (z ▸ q3)) (Nat.lt_irrefl _)
theorem turn_zip3 {P : Program} {w : World} {K : PySem.W.Frag} {elts : List Expr} {k : Nat} {pos : Pos} (a b c n : Addr) : Turn P w K (.Tuple elts k pos) (Itz3 K a b c) (fp3 n) (n + 5)
    (fun i h => IsZip h (n + 5) (n + 3) (n + 4) .none ∧ IsTrip h (n + 3) (.ref n) (.ref (n + 1)) (.ref (n + 2)) ∧ (∃ p q r, IsTrip h (n + 4) p q r) ∧ h.IsTupleIter n a i ∧ h.IsTupleIter (n + 1) b i ∧ h.IsTupleIter (n + 2) c i) where
  mem := by simp
  obj := fun i h st d hd => by
    obtain ⟨h1, h2, ⟨p, q, r, h3⟩, ⟨o1, e1, _, d1⟩, ⟨o2, e2, _, d2⟩, ⟨o3, e3, _, d3⟩⟩ := st
    simp only [List.mem_cons, List.not_mem_nil, or_false] at hd
    rcases hd with z | z | z | z | z | z
    · subst z; exact ⟨_, h1, fun v q => nomatch q⟩
    · subst z; exact ⟨_, h2, fun v q => nomatch q⟩
    · subst z; exact ⟨_, h3, fun v q => nomatch q⟩
    · subst z; exact ⟨o1, e1, fun v q => by rw [d1] at q; cases q⟩
    · subst z; exact ⟨o2, e2, fun v q => by rw [d2] at q; cases q⟩
    · subst z; exact ⟨o3, e3, fun v q => by rw [d3] at q; cases q⟩
  keep := fun i h h' st kk => by
    obtain ⟨h1, h2, ⟨p, q, r, h3⟩, ⟨o1, e1, r1⟩, ⟨o2, e2, r2⟩, ⟨o3, e3, r3⟩⟩ := st
    exact ⟨kk _ (by simp) _ h1, kk _ (by simp) _ h2, ⟨p, q, r, kk _ (by simp) _ h3⟩, ⟨o1, kk _ (by simp) _ e1, r1⟩, ⟨o2, kk _ (by simp) _ e2, r2⟩, ⟨o3, kk _ (by simp) _ e3, r3⟩⟩
  item := by
    intro X hP hw hK hc i pins s σ H E I hf st hg
    subst hP hw hK
    obtain ⟨xs, ys, zs, x, y, t, hq, hq', hq2, hx, hy, ht⟩ := hg
    obtain ⟨its, rv, p1, hz⟩ := I.tuple hq
    obtain ⟨jts, rv', p2, hz'⟩ := I.tuple hq'
    obtain ⟨kts, rv2, p3, hz2⟩ := I.tuple hq2
    obtain ⟨u, hu, ru⟩ := rv.get hx
    obtain ⟨u', hu', ru'⟩ := rv'.get hy
    obtain ⟨u2, hu2, ru2⟩ := rv2.get ht
    obtain ⟨h1, h2, ⟨p, q, r, h3⟩, h4, h5, h6⟩ := st
    have ap := z3_apart I hf
    have D : Z3 (n + 5) (n + 3) (n + 4) n (n + 1) (n + 2) a b c := ⟨zne 3 5 (by decide), zne 4 5 (by decide), zne 0 5 (by decide), zne 1 5 (by decide), zne 2 5 (by decide), zne 3 4 (by decide), zne 3 0 (by decide), zne 3 1 (by decide), zne 3 2 (by decide), zne 4 0 (by decide), zne 4 1 (by decide), zne 4 2 (by decide), zne 0 1 (by decide), zne 0 2 (by decide), zne 1 2 (by decide),
      ap _ (by simp) xs a hq, ap _ (by simp) xs a hq, ap _ (by simp) xs a hq, ap _ (by simp) xs a hq, ap _ (by simp) xs a hq, ap _ (by simp) ys b hq', ap _ (by simp) ys b hq', ap _ (by simp) ys b hq', ap _ (by simp) ys b hq', ap _ (by simp) ys b hq', ap _ (by simp) zs c hq2, ap _ (by simp) zs c hq2, ap _ (by simp) zs c hq2, ap _ (by simp) zs c hq2, ap _ (by simp) zs c hq2⟩
    refine z3_pyNext_item D h1 h2 h3 h4 h5 h6 (show s.heap.IsTuple a its.toArray from p1) (show s.heap.IsTuple b jts.toArray from p2) (show s.heap.IsTuple c kts.toArray from p3) (x := u) (y := u') (v := u2) (by simpa using hu) (by simpa using hu') (by simpa using hu2) fun g g1 g2 g3 g4 g6 g5 hk => ?_
    have hk' : ∀ c o, c ∉ fp3 n → s.heap.get? c = some o → g.get? c = some o := fun c o hc e => hk c o (fun z => hc (by simp [z])) (fun z => hc (by simp [z])) (fun z => hc (by simp [z])) (fun z => hc (by simp [z])) (fun z => hc (by simp [z])) e
    have I1 : Inv X pins σ (upd H s.heap.objs.size (.tup [x, y, t])) { s with heap := g } := I.turnedNew (t' := s.toks) hk' hf (Nat.le_refl _) ⟨by show 3 ≤ sizeLine; exact Nat.le_of_lt (lim_ok (by decide)), [u, u', u2], .cons ru (.cons ru' (.cons ru2 .nil)), ⟨_, g5, rfl, _, rfl⟩⟩
    refine ⟨_, rfl, wpAny_letOwnedTupleGo_zip g1 fun g' z' t' => ?_⟩
    have t' : Heap.SameBut (n + 5) g g' := t'
    have neT : ∀ c ∈ fp3 n, c ≠ s.heap.objs.size := fun c hc z => by
      have lt : c < s.heap.objs.size := by
        obtain ⟨o1, e1, _⟩ := h4
        obtain ⟨o2, e2, _⟩ := h5
        obtain ⟨o3, e3, _⟩ := h6
        simp only [List.mem_cons, List.not_mem_nil, or_false] at hc
        rcases hc with q | q | q | q | q | q
        · rw [q]; exact Heap.lt_size h1
        · rw [q]; exact Heap.lt_size h2
        · rw [q]; exact Heap.lt_size h3
        · rw [q]; exact Heap.lt_size e1
        · rw [q]; exact Heap.lt_size e2
        · rw [q]; exact Heap.lt_size e3
      rw [z] at lt
      exact Nat.lt_irrefl _ lt
    have hf1 : ∀ c ∈ fp3 n, FpOk X pins (upd H s.heap.objs.size (.tup [x, y, t])) c := fun c hc => ⟨by rw [upd_ne (neT c hc)]; exact (hf c hc).1, (hf c hc).2⟩
    have I2 := I1.turnedL (h' := g') (t' := s.toks) (fp := fp3 n) (fun c o hc e => (t'.2 c (fun z => hc (by simp [z]))).trans e) hf1
    have g2' : IsTrip g (n + 3) (.ref n) (.ref (n + 1)) (.ref (n + 2)) := hk _ _ D.TIz D.TITO D.TIi1 D.TIi2 D.TIi3 h2
    obtain ⟨o3, e3, r3⟩ := g3
    obtain ⟨o4, e4, r4⟩ := g4
    obtain ⟨o6, e6, r6⟩ := g6
    exact ⟨.ref s.heap.objs.size, _, I2, rfl, ⟨s.heap.objs.size, x, y, t, I.fresh, rfl, rfl, fun zs hs => by rw [I.tuple_inj hs hq]; exact hx, fun zs hs => by rw [I.tuple_inj hs hq']; exact hy, fun zs hs => by rw [I.tuple_inj hs hq2]; exact ht⟩,
      ⟨z', (t'.2 _ D.TIz).trans g2', ⟨_, _, _, (t'.2 _ D.TOz).trans g2⟩, ⟨o3, (t'.2 _ D.i1z).trans e3, r3⟩, ⟨o4, (t'.2 _ D.i2z).trans e4, r4⟩, ⟨o6, (t'.2 _ D.i3z).trans e6, r6⟩⟩, fun c hc => (hf1 c hc).1⟩
  done := by
    intro X hP hw hK hc i pins s σ H E I hf st hg
    subst hP hw hK
    obtain ⟨xs, ys, zs, hq, hq', hq2, hx⟩ := hg
    obtain ⟨its, rv, p1, hz⟩ := I.tuple hq
    obtain ⟨h1, h2, ⟨p, q, r, h3⟩, h4, h5, h6⟩ := st
    have ap := z3_apart I hf
    have l1 := rv.length
    refine z3_pyNext_end (I.ok.hd hc) (zne 3 5 (by decide)) (zne 0 5 (by decide)) (ap _ (by simp) xs a hq) h1 h2 h4 (show s.heap.IsTuple a its.toArray from p1) (by simp; omega) fun g hk => ⟨rfl, I.turnedL (t' := s.toks) (fp := fp3 n) (fun c o hc e => hk c o (fun z => hc (by simp [z])) (fun z => hc (by simp [z])) e) hf⟩
  self := fun _ _ _ _ _ st h => wpAny_pyIter_zip st.1 h
def zip3D : List D → List D → List D → List D
  | x :: xs, y :: ys, z :: zs => .tup [x, y, z] :: zip3D xs ys zs
  | _, _, _ => []
theorem zip3D_get : ∀ {xs ys zs : List D} {i : Nat} {d : D}, (zip3D xs ys zs)[i]? = some d → ∃ x y z, xs[i]? = some x ∧ ys[i]? = some y ∧ zs[i]? = some z ∧ d = .tup [x, y, z]
  | [], _, _, _, _, h => by simp [zip3D] at h
  | _ :: _, [], _, _, _, h => by simp [zip3D] at h
  | _ :: _, _ :: _, [], _, _, h => by simp [zip3D] at h
  | x :: xs, y :: ys, z :: zs, 0, d, h => by simp [zip3D] at h; exact ⟨x, y, z, rfl, rfl, rfl, h.symm⟩
  | x :: xs, y :: ys, z :: zs, i + 1, d, h => by
    simp only [zip3D, List.getElem?_cons_succ] at h
    obtain ⟨a, b, c, h1, h2, h4, h3⟩ := zip3D_get h
    exact ⟨a, b, c, by simpa using h1, by simpa using h2, by simpa using h4, h3⟩
theorem zip3D_len : ∀ (xs ys zs : List D), xs.length = ys.length → xs.length = zs.length → (zip3D xs ys zs).length = xs.length
  | [], _, _, _, _ => by simp [zip3D]
  | _ :: _, [], _, h, _ => by simp at h
  | _ :: _, _ :: _, [], _, h => by simp at h
  | x :: xs, y :: ys, z :: zs, h, h' => by rw [zip3D, List.length_cons, zip3D_len xs ys zs (by simpa using h) (by simpa using h'), List.length_cons]
theorem yields_zip3 {K : PySem.W.Frag} {G : Hp} {a b c : Addr} {vs us ts : List V} {ds es fs : List D} (hl : ds.length = es.length) (hl' : ds.length = fs.length) (h : SqT K G a vs) (r : Reps K G ds vs) (h' : SqT K G b us) (r' : Reps K G es us) (h2 : SqT K G c ts) (r2 : Reps K G fs ts) : Yields K (Itz3 K a b c) G (zip3D ds es fs) := by
  intro i G2 H2 s1 s2
  have q : SqT K H2 a vs := (s1.trans s2).tup h
  have q' : SqT K H2 b us := (s1.trans s2).tup h'
  have q2 : SqT K H2 c ts := (s1.trans s2).tup h2
  refine ⟨fun d hd => ?_, fun hi => ⟨vs, us, ts, q, q', q2, ?_⟩⟩
  · obtain ⟨x, y, z, h1, h2, h3, rfl⟩ := zip3D_get hd
    obtain ⟨v, e1, rv⟩ := r.get h1
    obtain ⟨u, e2, ru⟩ := r'.get h2
    obtain ⟨t, e3, rt⟩ := r2.get h3
    refine ⟨⟨vs, us, ts, v, u, t, q, q', q2, e1, e2, e3⟩, fun x' H3 yy => ?_⟩
    obtain ⟨p, v', u', t', hp, rfl, rfl, y1, y2, y3⟩ := yy
    have f1 := y1 vs q
    rw [e1] at f1; cases f1
    have f2 := y2 us q'
    rw [e2] at f2; cases f2
    have f3 := y3 ts q2
    rw [e3] at f3; cases f3
    have s3 := Step.laid (o := .tup [v, u, t]) s2 hp
    exact ⟨_, s3, rep_tup.mpr ⟨p, _, rfl, .of upd_same, reps_cons.mpr ⟨_, _, rfl, (rv.mono s1).mono s3.gg, reps_cons.mpr ⟨_, _, rfl, (ru.mono s1).mono s3.gg, reps_cons.mpr ⟨_, _, rfl, (rt.mono s1).mono s3.gg, reps_nil.mpr rfl⟩⟩⟩⟩⟩
  · rw [zip3D_len _ _ _ hl hl'] at hi
    rw [← r.length]
    omega
section
variable {X : Cx} {a b c e tg elt iter : Expr} {fa fb fc : Ef} {ga : Lf} {pos p : Pos}
def iZip3 (f g h : Ef) : Lf := fun ρ => (f ρ).bind fun x => (g ρ).bind fun y => (h ρ).bind fun z => match x, y, z with | .tup xs, .tup ys, .tup zs => if xs.length = ys.length ∧ xs.length = zs.length then some (zip3D xs ys zs) else none | _, _, _ => none
theorem iZip3_inv {f g h : Ef} {ρ : List B} {ds : List D} (hf : iZip3 f g h ρ = some ds) : ∃ xs ys zs, f ρ = some (.tup xs) ∧ g ρ = some (.tup ys) ∧ h ρ = some (.tup zs) ∧ xs.length = ys.length ∧ xs.length = zs.length ∧ ds = zip3D xs ys zs := by
  unfold iZip3 at hf
  obtain ⟨x, h1, hf⟩ := Option.bind_eq_some_iff.mp hf
  obtain ⟨y, h2, hf⟩ := Option.bind_eq_some_iff.mp hf
  obtain ⟨z, h3, hf⟩ := Option.bind_eq_some_iff.mp hf
  cases x with
  | tup xs =>
    cases y with
    | tup ys =>
      cases z with
      | tup zs =>
        dsimp only at hf
        by_cases hl : xs.length = ys.length ∧ xs.length = zs.length
        · rw [if_pos hl] at hf
          cases hf
          exact ⟨xs, ys, zs, h1, h2, h3, hl.1, hl.2, rfl⟩
        · rw [if_neg hl] at hf; cases hf
      | _ => cases hf
    | _ => cases hf
  | _ => cases hf
theorem vals3 {x y z : V} {us : List Value} (h : Vals [x, y, z] us) : ∃ u v w, us = [u, v, w] ∧ RelV x u ∧ RelV y v ∧ RelV z w := by
  cases h with
  | cons h1 t => cases t with
    | cons h2 t => cases t with
      | cons h3 t => cases t; exact ⟨_, _, _, rfl, h1, h2, h3⟩
theorem pi_zip3 {elts : List Expr} {k : Nat} {pos' : Pos} (hg : Gl X "zip") (hm : X.mg "zip" = none) (ha : PF X a fa) (hb : PF X b fb) (hc : PF X c fc) (hs : starEach [a, b, c] X.env = [(false, eval a X.env), (false, eval b X.env), (false, eval c X.env)] := by rfl) (hs2 : starEach [b, c] X.env = [(false, eval b X.env), (false, eval c X.env)] := by rfl) (hs3 : starEach [c] X.env = [(false, eval c X.env)] := by rfl) :
    PFI X (.Tuple elts k pos') (.Call (.Name "zip" p) [a, b, c] [] pos) (iZip3 fa fb fc) := by
  intro pins s σ H R I q
  obtain ⟨G0, H0, G, ρ, ds, good, hf, kk⟩ := q
  obtain ⟨xs, ys, zs, h1, h2, h3, hl, hl', rfl⟩ := iZip3_inv hf
  have hA := pa_cons ha (pa_cons hb (pa_cons hc pa_nil (by rw [hs3]; rfl)) (by rw [hs2, hs3])) (by rw [hs, hs2]) pos pins s σ H (fun vs H' => ∃ a b c us ws ts G', vs = [.ref a, .ref b, .ref c] ∧ Step G H G' H' ∧ SqT X.K G' a us ∧ Reps X.K G' xs us ∧ SqT X.K G' b ws ∧ Reps X.K G' ys ws ∧ SqT X.K G' c ts ∧ Reps X.K G' zs ts) I
    ⟨G0, H0, G, ρ, _, good, h1, fun v H1 G1 s1 r1 => ⟨G0, H0, G1, ρ, _, good.step s1, h2, fun u H2 G2 s2 r2 => ⟨G0, H0, G2, ρ, _, (good.step s1).step s2, h3, fun t H3 G3 s3 r3 => by
      obtain ⟨a, us, rfl, q1, q2⟩ := rep_tup.mp ((r1.mono s2.gg).mono s3.gg)
      obtain ⟨b, ws, rfl, q3, q4⟩ := rep_tup.mp (r2.mono s3.gg)
      obtain ⟨c, ts, rfl, q5, q6⟩ := rep_tup.mp r3
      exact ⟨a, b, c, us, ws, ts, G3, rfl, (s1.trans s2).trans s3, q1, q2, q3, q4, q5, q6⟩⟩⟩⟩
  refine Call_ (ld_blt I hg hm (by rfl) (PyProof.Rows.callWith_type1 (thn hA fun us s1 ⟨vs, H1, I1, r1, l1, l2, l3, ws, zs', ts, G1, e1, st1, q1, q2, q3, q4, q5, q6⟩ => ?_) (by rw [hs, hs2]) (by rw [hs2]; rfl)))
  subst e1
  obtain ⟨u, u', u2, rfl, ru, ru', ru2⟩ := vals3 r1
  cases ru
  cases ru'
  cases ru2
  obtain ⟨its, rv, p1, _⟩ := I1.tuple (st1.sub.tup q1)
  obtain ⟨jts, rv', p2, _⟩ := I1.tuple (st1.sub.tup q3)
  obtain ⟨kts, rv2, p3, _⟩ := I1.tuple (st1.sub.tup q5)
  refine call_zip3 (show s1.heap.IsTuple l1 its.toArray from p1) (show s1.heap.IsTuple l2 jts.toArray from p2) (show s1.heap.IsTuple l3 kts.toArray from p3) fun h' z1 z2 z3 z4 z5 z6 hk => ?_
  have I2 : Inv X pins σ H1 { s1 with heap := h' } := I1.kept (t' := s1.toks) hk
  refine wpAny_pyIter_zip z1 ?_
  refine ⟨_, fp3 s1.heap.objs.size, _, _, H1, rfl, I2, turn_zip3 l1 l2 l3 s1.heap.objs.size, ⟨z1, z2, ⟨_, _, _, z3⟩, z4, z5, z6⟩, fun b hb => ?_, kk _ H1 G1 st1 (yields_zip3 hl hl' q1 q2 q3 q4 q5 q6)⟩
  have hb' : s1.heap.objs.size ≤ b := by
    simp only [List.mem_cons, List.not_mem_nil, or_false] at hb
    rcases hb with z | z | z | z | z | z <;> (rw [z]; first | exact Nat.le_refl _ | exact Nat.le_add_right _ _)
  exact I1.fpOk hb' (I1.hok.fresh hb')
end
end L2

/-! min, max of two and of three ints, of a list of ints; tuples joined and cut; one's own list read by index. -/
namespace L2
open PySem PySem.Spec PyProof.Rows
section
variable {X : Cx} {a b c e : Expr} {es : List Expr} {fa fb fc : Ef} {ga gb : Lf} {pos p : Pos}
/-! ### min, max -/
def eMin (fa fb : Ef) : Ef := fun ρ => (fa ρ).bind fun x => (fb ρ).bind fun y => match x, y with | .int i, .int j => some (.int (if j < i then j else i)) | _, _ => none
theorem pf_min (hc : X.calm = true) (hg : Gl X "min") (hm : X.mg "min" = none) (ha : PF X a fa) (hb : PF X b fb) (hs : starEach [a, b] X.env = [(false, eval a X.env), (false, eval b X.env)] := by rfl) (hs2 : starEach [b] X.env = [(false, eval b X.env)] := by rfl) :
    PF X (.Call (.Name "min" p) [a, b] [] pos) (eMin fa fb) := by
  refine PE.to (pe_callB (call_min2 hc) hg hm (by rfl) (pa_cons ha (pa_cons hb pa_nil (by rw [hs2]; rfl)) (by rw [hs, hs2])) (by decide) (by decide) (by rw [hs, hs2]) (by rw [hs2]; rfl)) ?_
  rintro σ H Q ⟨G0, H0, G, ρ, d, good, hf, k⟩
  unfold eMin at hf
  obtain ⟨x, h1, hf⟩ := Option.bind_eq_some_iff.mp hf
  obtain ⟨y, h2, hf⟩ := Option.bind_eq_some_iff.mp hf
  split at hf
  · rename_i i j _h
    cases hf
    exact ⟨G0, H0, G, ρ, _, good, h1, fun v H1 G1 s1 r1 => ⟨G0, H0, G1, ρ, _, good.step s1, h2, fun u H2 G2 s2 r2 => ⟨i, j, by rw [rep_int.mp r1, rep_int.mp r2], k _ _ G2 (s1.trans s2) (rep_int.mpr rfl)⟩⟩⟩
  · cases hf
theorem call_max3 (hc : X.calm = true) : CallR X (.builtin "max") (fun xs H Q => ∃ i j k, xs = [.int i, .int j, .int k] ∧ Q (.int (if j > i then (if k > j then k else j) else (if k > i then k else i))) H) := by
  intro pins s σ H xs us Q I r h
  obtain ⟨i, j, k, rfl, q⟩ := h
  obtain ⟨u, v, w, rfl, ⟨t, rfl⟩, ⟨t', rfl⟩, ⟨t2, rfl⟩⟩ := vals3 r
  refine max_three_ints (I.ok.hd hc) fun h' tk kk => ⟨_, H, I.kept kk, ?_, q⟩
  by_cases hj : j > i
  · rw [if_pos hj, if_pos hj]
    by_cases hk : k > j
    · rw [if_pos hk, if_pos hk]; exact ⟨_, rfl⟩
    · rw [if_neg hk, if_neg hk]; exact ⟨_, rfl⟩
  · rw [if_neg hj, if_neg hj]
    by_cases hk : k > i
    · rw [if_pos hk, if_pos hk]; exact ⟨_, rfl⟩
    · rw [if_neg hk, if_neg hk]; exact ⟨_, rfl⟩
def eMax3 (fa fb fc : Ef) : Ef := fun ρ => (fa ρ).bind fun x => (fb ρ).bind fun y => (fc ρ).bind fun z => match x, y, z with | .int i, .int j, .int k => some (.int (if j > i then (if k > j then k else j) else (if k > i then k else i))) | _, _, _ => none
theorem pf_max3 (hcm : X.calm = true) (hg : Gl X "max") (hm : X.mg "max" = none) (ha : PF X a fa) (hb : PF X b fb) (hc : PF X c fc) (hs : starEach [a, b, c] X.env = [(false, eval a X.env), (false, eval b X.env), (false, eval c X.env)] := by rfl) (hs2 : starEach [b, c] X.env = [(false, eval b X.env), (false, eval c X.env)] := by rfl) (hs3 : starEach [c] X.env = [(false, eval c X.env)] := by rfl) :
    PF X (.Call (.Name "max" p) [a, b, c] [] pos) (eMax3 fa fb fc) := by
  refine PE.to (pe_callB (call_max3 hcm) hg hm (by rfl) (pa_cons ha (pa_cons hb (pa_cons hc pa_nil (by rw [hs3]; rfl)) (by rw [hs2, hs3])) (by rw [hs, hs2])) (by decide) (by decide) (by rw [hs, hs2]) (by rw [hs2]; rfl)) ?_
  rintro σ H Q ⟨G0, H0, G, ρ, d, good, hf, k⟩
  unfold eMax3 at hf
  obtain ⟨x, h1, hf⟩ := Option.bind_eq_some_iff.mp hf
  obtain ⟨y, h2, hf⟩ := Option.bind_eq_some_iff.mp hf
  obtain ⟨z, h3, hf⟩ := Option.bind_eq_some_iff.mp hf
  split at hf
  · rename_i i j l _h _h2
    cases hf
    exact ⟨G0, H0, G, ρ, _, good, h1, fun v H1 G1 s1 r1 => ⟨G0, H0, G1, ρ, _, good.step s1, h2, fun u H2 G2 s2 r2 => ⟨G0, H0, G2, ρ, _, (good.step s1).step s2, h3, fun t H3 G3 s3 r3 => ⟨i, j, l, by rw [rep_int.mp r1, rep_int.mp r2, rep_int.mp r3], k _ _ G3 ((s1.trans s2).trans s3) (rep_int.mpr rfl)⟩⟩⟩⟩
  · cases hf
/-- the greatest of a list of ints, the earliest one, as the built-in finds it -/
def bestI (ns : List Int) : Int := ns.getD (argBest (fun i j => decide (ns.getD i 0 > ns.getD j 0)) (ns.length - 1)) 0
theorem vals_toks : ∀ {ns : List Int} {its : List Value}, Vals (ns.map V.int) its → ∃ ps : List (Int × Tok), its = ps.map (fun p => Value.int p.1 p.2) ∧ ps.map (·.1) = ns
  | [], _, h => by cases h; exact ⟨[], rfl, rfl⟩
  | n :: ns, _, h => by
    cases h with
    | cons h1 h2 =>
      obtain ⟨t, rfl⟩ := h1
      obtain ⟨ps, rfl, rfl⟩ := vals_toks h2
      exact ⟨(n, t) :: ps, rfl, rfl⟩
theorem call_maxL (hc : X.calm = true) : CallR X (.builtin "max") (fun xs H Q => ∃ (q : Addr) (ns : List Int), xs = [V.ref q] ∧ SqL X.K H q (ns.map V.int) ∧ 0 < ns.length ∧ Q (.int (bestI ns)) H) := by
  intro pins s σ H xs us Q I r h
  obtain ⟨l, ns, rfl, hq, hl, q⟩ := h
  obtain ⟨u, rfl, ru⟩ := vals1 r
  cases ru
  obtain ⟨its, rv, pl, hz⟩ := I.list hq
  obtain ⟨ps, rfl, rfl⟩ := vals_toks rv
  have hit : s.heap.IsList l (intItems ps.toArray) := by
    have := pl.isList
    unfold intItems
    rw [List.map_toArray]
    exact this
  have hn : ∀ i, numAt ps.toArray i = (ps.map (·.1)).getD i 0 := fun i => by
    unfold numAt
    rw [List.getElem?_toArray, List.getD_eq_getElem?_getD, List.getElem?_map]
  refine max_intList (I.ok.hd hc) hit (by simpa using hl) fun v h' tk hv hk => ?_
  obtain ⟨t, rfl⟩ := intItems_at hv
  refine ⟨.int _, H, I.kept hk, ⟨t, rfl⟩, ?_⟩
  have e : numAt ps.toArray (argBest (fun i j => decide (numAt ps.toArray i > numAt ps.toArray j)) (ps.toArray.size - 1)) = bestI (ps.map (·.1)) := by
    unfold bestI
    rw [hn, List.size_toArray, List.length_map]
    simp only [hn]
  rw [e]
  exact q
def eMaxL (g : Lf) : Ef := fun ρ => (g ρ).bind fun ds => (intsD ds).bind fun ns => if 0 < ns.length then some (.int (bestI ns)) else none
theorem pf_maxL (hcm : X.calm = true) (hg : Gl X "max") (hm : X.mg "max" = none) (h : PSrc X a ga) (hs : starEach [a] X.env = [(false, eval a X.env)] := by rfl) : PF X (.Call (.Name "max" p) [a] [] pos) (eMaxL ga) := by
  refine PE.to (pe_callB (call_maxL hcm) hg hm (by rfl) (pa_cons h pa_nil (by rw [hs]; rfl)) (by decide) (by decide) (by rw [hs]; rfl) (by rfl)) ?_
  rintro σ H Q ⟨G0, H0, G, ρ, d, good, hf, k⟩
  unfold eMaxL at hf
  obtain ⟨ds, h1, hf⟩ := Option.bind_eq_some_iff.mp hf
  obtain ⟨ns, h2, hf⟩ := Option.bind_eq_some_iff.mp hf
  split at hf
  · rename_i hl
    cases hf
    refine ⟨G0, H0, G, ρ, ds, good, h1, fun q vs H1 G1 s1 e1 r1 => ?_⟩
    rw [intsD_rep h2 r1] at e1
    exact ⟨q, ns, rfl, s1.sub.seq e1, hl, k _ _ G1 s1 (rep_int.mpr rfl)⟩
  · cases hf
end
/-! ### tuples joined -/
section
variable {prog : Program} {w : World} {A : Around} {E : Value → Shared → Prop} {s : Shared}
theorem cat_tupE {t b : Addr} {vs ws : List Value} {Q : Value → Shared → Prop} (ht : IsTup s.heap t vs.toArray) (hb : IsTup s.heap b ws.toArray) (hv : vs = []) (h : Q (.ref b) s) : wpAny (model prog w) A (binaryOp .Add (.ref t) (.ref b)) Q E s := by
  obtain ⟨⟨cls, dd, data, sl⟩, ho, hc, n, hd⟩ := id ht
  obtain ⟨⟨cls2, dd2, data2, sl2⟩, ho2, hc2, n2, hd2⟩ := id hb
  simp only at hc hd hc2 hd2
  subst hc hd hc2 hd2
  exact concat_meets ⟨_, ho, rfl⟩ ⟨_, ho2, rfl⟩ noFill_tuple_add seq_tuple_add PySem.F.slot_tuple_add PySem.F.entry_tuple_add (PySem.F.args_tuple_add_2 _ _)
      (tuple_addW0 t b vs.toArray ws.toArray n n2 dd dd2 sl sl2 (by simp [hv])) ⟨ho, ho2, h⟩
open HT in
theorem getItem_tuple_whole {t sl : Addr} {items : Array Value} {vl vu : Value} {lo hi : Option Int} {Q : Value → Shared → Prop} (ht : IsTup s.heap t items) (hs : s.heap.IsSliceOf sl vl vu .none) (pl : IsPart vl lo) (pu : IsPart vu hi)
    (hw : sIx items.size 0 lo = 0 ∧ sIx items.size items.size hi = items.size)
    (h : Q (.ref t) s) : wpAny (model prog w) A (getItem (.ref t) (.ref sl)) Q E s := by
  obtain ⟨os, hos, hcs, hds⟩ := id hs
  have hTs : s.TypeIs (.ref sl) "slice" := ⟨os, hos, hcs⟩
  unfold getItem
  try with_reducible refine wpAny_holding ?_
  first | refine wpAny_bind (wpAny_pure ?_) | skip
  refine wpAny_bind (wpAny_sequenceKey ht.typeIs (by decide) ?_)
  refine wpAny_bind (wpAny_callSpecial?_slot (name := Str.ofString "__getitem__") ht.typeIs PyProof.Rows.slot_tuple_getitem
    (wpAny_call_entry PyProof.Rows.slot_tuple_getitem ht.typeIs entry_tuple_getitem ?_ (args_tuple_getitem _ _)))
  show wpAny _ _ (Builtin.Tuple.tupleItemsOf (.ref t) >>= _) _ _ s
  refine wpAny_bind (tupleItemsOf_ ht ?_)
  refine wpAny_bind (wpAny_typeOf hTs ?_)
  rw [if_pos (by decide)]
  refine wpAny_bind (sliceApplied_gen hs pl pu ?_)
  show wpAny _ _ (if (((sIx items.size 0 lo : Nat) : Int) == 0 && (1 : Int) == 1 && (sIx items.size items.size hi - sIx items.size 0 lo) == items.size) = true then _ else _) _ _ s
  rw [if_pos (by rw [hw.1, hw.2]; simp)]
  unfold Builtin.Tuple.tupleIsExact
  refine wpAny_bind (wpAny_bind (wpAny_typeOf ht.typeIs (wpAny_pure ?_)))
  rw [if_pos (by decide)]
  refine wpAny_bind (wpAny_rule ?_)
  exact wpAny_pure ⟨_, rfl, wpAny_pure h⟩
end
section
variable {X : Cx} {a b c e : Expr} {es : List Expr} {fa fb fc : Ef} {ga gb : Lf} {pos p : Pos}
theorem op_catE : OpR X (binaryOp .Add) (fun x y H Q => ∃ a b ys, x = .ref a ∧ y = .ref b ∧ SqT X.K H a [] ∧ SqT X.K H b ys ∧ Q (.ref b) H) := by
  intro pins s σ H x y v u Q I rx ry h
  obtain ⟨a, b, ys, rfl, rfl, ha, hb, q⟩ := h
  cases rx
  cases ry
  obtain ⟨its, r1, p1, _⟩ := I.tuple ha
  obtain ⟨its2, r2, p2, _⟩ := I.tuple hb
  exact cat_tupE p1 p2 (r1.nil_iff.mpr rfl) ⟨.ref b, H, I, rfl, q⟩
def eTCat (fa fb : Ef) : Ef := fun ρ => (fa ρ).bind fun x => (fb ρ).bind fun y => match x, y with | .tup xs, .tup ys => if xs.length + ys.length ≤ 1000 then some (.tup (xs ++ ys)) else none | _, _ => none
theorem pf_tcat (ha : PF X a fa) (hb : PF X b fb) : PF X (.BinOp a .Add b pos) (eTCat fa fb) := by
  refine PE.to (pe_op (op_catT.or op_catE) ha hb) ?_
  rintro σ H Q ⟨G0, H0, G, ρ, d, good, hf, k⟩
  unfold eTCat at hf
  obtain ⟨x, h1, hf⟩ := Option.bind_eq_some_iff.mp hf
  obtain ⟨y, h2, hf⟩ := Option.bind_eq_some_iff.mp hf
  split at hf
  · rename_i xs ys _h
    split at hf
    · rename_i hl
      cases hf
      refine ⟨G0, H0, G, ρ, _, good, h1, fun v H1 G1 s1 r1 => ⟨G0, H0, G1, ρ, _, good.step s1, h2, fun u H2 G2 s2 r2 => ?_⟩⟩
      obtain ⟨q, vs, rfl, q1, q2⟩ := rep_tup.mp (r1.mono s2.gg)
      obtain ⟨t, us, rfl, t1, t2⟩ := rep_tup.mp r2
      have s3 := s1.trans s2
      cases xs with
      | nil =>
        rw [reps_nil] at q2
        subst q2
        exact .inr ⟨q, t, us, rfl, rfl, s2.sub.tup q1, s2.sub.tup t1, k _ _ G2 s3 (rep_tup.mpr ⟨t, us, rfl, t1, t2⟩)⟩
      | cons d0 xr =>
        have hsl : 1001 ≤ sizeLine := Nat.le_of_lt (lim_ok (by decide))
        have e1 := q2.length
        have e2 := t2.length
        refine .inl ⟨q, t, vs, us, rfl, rfl, s2.sub.tup q1, s2.sub.tup t1, fun z => by rw [z] at e1; simp at e1, by rw [← e1, ← e2]; omega, fun z => ?_, fun z p hp => ?_⟩
        · subst z
          have z2 : ys = [] := List.length_eq_zero_iff.mp (by rw [e2]; rfl)
          subst z2
          rw [List.append_nil] at k
          exact k _ _ G2 s3 (rep_tup.mpr ⟨q, vs, rfl, q1, q2⟩)
        · have s4 := Step.laid (o := .tup (vs ++ us)) s2.sub hp
          exact k _ _ _ (s3.trans s4) (rep_tup.mpr ⟨p, _, rfl, .of upd_same, (q2.mono s4.gg).append (t2.mono s4.gg)⟩)
    · cases hf
  · cases hf
/-! ### tuples cut -/
theorem sl_tupW : SlR X (fun x lo hi H Q => ∃ a xs, x = .ref a ∧ SqT X.K H a xs ∧ (HT.sIx xs.length 0 lo = 0 ∧ HT.sIx xs.length xs.length hi = xs.length) ∧ Q (.ref a) H) := by
  intro pins s σ H x v vl vu lo hi sl Q I rx hs pl pu h
  obtain ⟨a, xs, rfl, hx, hw, q⟩ := h
  cases rx
  obtain ⟨its, r, ht, hz⟩ := I.tuple hx
  have hlen : its.toArray.size = xs.length := by rw [List.size_toArray]; exact r.length.symm
  refine ⟨"tuple", _, PyProof.Rows.slot_tuple_getitem.lookup, ht.typeIs, ?_⟩
  exact getItem_tuple_whole ht hs pl pu (by rw [hlen]; exact hw) ⟨.ref a, H, I, rfl, q⟩
def eTCut (f : Ef) (lo hi : Of) : Ef := fun ρ => (f ρ).bind fun d => (lo ρ).bind fun l => (hi ρ).bind fun u => match d with | .tup ds => some (.tup (cutD ds l u)) | _ => none
theorem pf_tcut {lo hi : Option Expr} {fl fh : Of} {p2 : Pos} (ha : PF X a fa) (hl : PFO X lo fl) (hh : PFO X hi fh) : PF X (.Subscript a (.Slice lo hi none p2) pos) (eTCut fa fl fh) := by
  refine PE.to (pe_slice (sl_tup.or sl_tupW) ha hl hh) ?_
  rintro σ H Q ⟨G0, H0, G, ρ, d, good, hf, k⟩
  unfold eTCut at hf
  obtain ⟨x, h1, hf⟩ := Option.bind_eq_some_iff.mp hf
  obtain ⟨l, h2, hf⟩ := Option.bind_eq_some_iff.mp hf
  obtain ⟨u, h3, hf⟩ := Option.bind_eq_some_iff.mp hf
  cases x with
  | tup ds =>
    cases hf
    refine ⟨G0, H0, G, ρ, _, good, h1, fun v H1 G1 s1 r1 => ⟨G0, H0, G1, ρ, _, good.step s1, h2, fun H2 G2 s2 => ⟨G0, H0, G2, ρ, _, (good.step s1).step s2, h3, fun H3 G3 s3 => ?_⟩⟩⟩
    obtain ⟨q, vs, rfl, hq, rs⟩ := rep_tup.mp r1
    have s23 := s2.trans s3
    have hqq : SqT X.K H3 q vs := (s1.sub.trans s23.hh).tup hq
    by_cases hw : HT.sIx vs.length 0 l = 0 ∧ HT.sIx vs.length vs.length u = vs.length
    · refine .inr ⟨q, vs, rfl, hqq, hw, ?_⟩
      have e : cutD ds l u = ds := by
        unfold cutD
        rw [rs.length, hw.1, hw.2, List.drop_zero, Nat.sub_zero, ← rs.length, List.take_length]
      rw [e] at k
      exact k _ _ G3 (s1.trans s23) (rep_tup.mpr ⟨q, vs, rfl, s23.gg.tup hq, rs.mono s23.gg⟩)
    · refine .inl ⟨q, vs, rfl, hqq, hw, fun p hp => ?_⟩
      have s4 := Step.laid (o := .tup (cutV vs l u)) s23.sub hp
      have e : Reps X.K G3 (cutD ds l u) (cutV vs l u) := by
        unfold cutV cutD
        rw [← rs.length]
        exact ((rs.mono s23.gg).drop _).take _
      exact k _ _ _ ((s1.trans s23).trans s4) (rep_tup.mpr ⟨p, _, rfl, .of upd_same, e.mono s4.gg⟩)
  | _ => cases hf
/-! ### one's own list read by index -/
def eIxO (i : Nat) (fb : Ef) : Ef := fun ρ => match ρ[i]? with | some (.ow ds) => (fb ρ).bind (fun y => match y with | .int k => atI ds k | _ => none) | _ => none
theorem pf_ixO (i : Nat) {x : Str} {p1 : Pos} (hb : PF X b fb) (hN : X.N[i]? = some x := by rfl) (hv : Vis X.env.scope x := by first | exact Or.inl rfl | exact Or.inr (Or.inl rfl) | exact Or.inr (Or.inr rfl)) (hd : (x == ("__debug__" : Str)) = false := by decide) (hcd : (x == ("__classdict__" : Str)) = false := by decide) (hs : PlainIx b := by exact fun _ _ => rfl) :
    PF X (.Subscript (.Name x p1) b pos) (eIxO i fb) := by
  refine PE.to (pe_ix ix_list (pe_var hN hv hd hcd) hb hs) ?_
  rintro σ H Q ⟨G0, H0, G, ρ, d, good, hf, k⟩
  unfold eIxO at hf
  split at hf
  · rename_i ds hi
    obtain ⟨q, vs, e1, e2, e3, e4, e5⟩ := good.addr hi
    obtain ⟨y, h2, hf⟩ := Option.bind_eq_some_iff.mp hf
    cases y with
    | int m =>
      refine ⟨.ref q, e1, G0, H0, G, ρ, _, good, h2, fun v H2 G2 s2 r2 => ?_⟩
      obtain ⟨w, e, rw'⟩ := atI_reps (e5.mono s2.gg) hf
      exact ⟨q, vs, m, w, rfl, rep_int.mp r2, .of (s2.hh _ _ e2), e, k _ _ G2 s2 rw'⟩
    | _ => cases hf
  · cases hf
end
end L2

/-! Words over the worths: loops by an invariant, comprehensions as maps, texts. -/
namespace L2
open PySem PySem.Spec PyProof.Rows
theorem rt_out (o : Option D) : (o.map Out.rt).bind outD = o := by cases o <;> rfl
theorem sSeq_nx {f g : Sf} {ρ ρ' : List B} (h : f ρ = some (.nx ρ')) : sSeq f g ρ = g ρ' := by unfold sSeq; rw [h]; rfl
theorem seq_out {f g : Sf} {ρ ρ' : List B} {r : Option D} (h : f ρ = some (.nx ρ')) (k : (g ρ').bind outD = r) : (sSeq f g ρ).bind outD = r := by rw [sSeq_nx h]; exact k
theorem sSeq_rt {f g : Sf} {ρ : List B} {d : D} (h : f ρ = some (.rt d)) : sSeq f g ρ = some (.rt d) := by unfold sSeq; rw [h]; rfl
theorem forF_nx {g : Gf} {body : Sf} {d : D} {r : List D} {ρ ρ1 ρ2 : List B} (h1 : g d ρ = some ρ1) (h2 : body ρ1 = some (.nx ρ2)) : forF g body (d :: r) ρ = forF g body r ρ2 := by
  rw [forF, h1, Option.bind_some, h2, Option.bind_some]
theorem aCons_eq {f : Ef} {g : Lf} {ρ : List B} {d : D} {ds : List D} (h1 : f ρ = some d) (h2 : g ρ = some ds) : aCons f g ρ = some (d :: ds) := by unfold aCons; rw [h1, h2]; rfl
theorem eL_eq {g : Lf} {ρ : List B} {ds : List D} (h : g ρ = some ds) : eL g ρ = some (.lst ds) := by unfold eL; rw [h]; rfl
theorem eCall_eq {n : Nat} {f : List D → Option D} {g : Lf} {ρ : List B} {ds : List D} (h : g ρ = some ds) (hl : ds.length = n) : eCall n f g ρ = f ds := by unfold eCall; rw [h, Option.bind_some, if_pos hl]
theorem eMake_eq {c : Str} {ns : List Str} {n : Nat} {f : List D → Option (List D)} {g : Lf} {ρ : List B} {ds xs : List D} (h : g ρ = some ds) (hl : ds.length = n) (hf : f ds = some xs) (hn : ns.length = xs.length) : eMake c ns n f g ρ = some (.obj c ns xs) := by
  unfold eMake; rw [h, Option.bind_some, if_pos hl, hf, Option.bind_some, if_pos hn]
/-- a loop that goes through all its items, by an invariant -/
theorem forF_all {g : Gf} {body : Sf} {P : List B → Prop} : ∀ (ds : List D), (∀ d ∈ ds, ∀ ρ, P ρ → ∃ ρ1 ρ2, g d ρ = some ρ1 ∧ body ρ1 = some (.nx ρ2) ∧ P ρ2) → ∀ ρ, P ρ → ∃ ρ', forF g body ds ρ = some (.nx ρ') ∧ P ρ'
  | [], _, ρ, h => ⟨ρ, rfl, h⟩
  | d :: r, hs, ρ, h => by
    obtain ⟨ρ1, ρ2, e1, e2, h2⟩ := hs d List.mem_cons_self ρ h
    obtain ⟨ρ', e, h'⟩ := forF_all r (fun d hd => hs d (List.mem_cons_of_mem _ hd)) ρ2 h2
    exact ⟨ρ', by rw [forF_nx e1 e2]; exact e, h'⟩
/-- .., by an invariant over the turn's number -/
theorem forF_ix {g : Gf} {body : Sf} {P : Nat → List B → Prop} : ∀ (ds : List D) (n : Nat), (∀ (i : Nat) (d : D), ds[i]? = some d → ∀ ρ, P (n + i) ρ → ∃ ρ1 ρ2, g d ρ = some ρ1 ∧ body ρ1 = some (.nx ρ2) ∧ P (n + i + 1) ρ2) → ∀ ρ, P n ρ → ∃ ρ', forF g body ds ρ = some (.nx ρ') ∧ P (n + ds.length) ρ'
  | [], _, _, ρ, h => ⟨ρ, rfl, h⟩
  | d :: r, n, hs, ρ, h => by
    obtain ⟨ρ1, ρ2, e1, e2, h2⟩ := hs 0 d rfl ρ h
    obtain ⟨ρ', e, h'⟩ := forF_ix r (n + 1) (fun i d hd ρ hρ => by
      have q := hs (i + 1) d (by simpa using hd) ρ (by rw [show n + (i + 1) = n + 1 + i by omega]; exact hρ)
      rw [show n + (i + 1) + 1 = n + 1 + i + 1 by omega] at q
      exact q) ρ2 h2
    exact ⟨ρ', by rw [forF_nx e1 e2]; exact e, by rw [List.length_cons, show n + (r.length + 1) = n + 1 + r.length by omega]; exact h'⟩
theorem mem_upto {lo : Int} {n : Nat} {d : D} (h : d ∈ upto lo n) : ∃ i : Nat, i < n ∧ d = .int (lo + i) := by
  unfold upto at h
  obtain ⟨i, hi, rfl⟩ := List.mem_map.mp h
  exact ⟨i, List.mem_range.mp hi, rfl⟩
theorem upto_get {lo : Int} {n i : Nat} {d : D} (h : (upto lo n)[i]? = some d) : i < n ∧ d = .int (lo + i) := by
  have hl : (upto lo n).length = n := by simp [upto]
  have hi : i < n := by rw [← hl]; exact (List.getElem?_eq_some_iff.mp h).1
  unfold upto at h
  rw [List.getElem?_map, List.getElem?_range hi] at h
  exact ⟨hi, (Option.some.inj h).symm⟩
theorem upto_len (lo : Int) (n : Nat) : (upto lo n).length = n := by simp [upto]
/-- [elt for x in ds] -/
theorem mapF_one {elt : Ef} {h : D → D} {rest : List B} : ∀ (ds : List D) (x0 : B) (acc : List D), (∀ d ∈ ds, elt (.fz d :: rest) = some (h d)) → mapF (gN 0) tOK elt ds (x0 :: rest) acc = some (acc ++ ds.map h)
  | [], _, acc, _ => by simp [mapF]
  | d :: r, x0, acc, hh => by
    unfold mapF
    have e1 : gN 0 d (x0 :: rest) = some (.fz d :: rest) := rfl
    have e2 : tOK (.fz d :: rest) = some true := rfl
    rw [e1, Option.bind_some, e2, Option.bind_some, if_pos rfl, hh d List.mem_cons_self, Option.bind_some, mapF_one r _ _ fun q hq => hh q (List.mem_cons_of_mem _ hq)]
    simp
theorem blsD_map {α : Type} (p : α → Bool) : ∀ l : List α, blsD (l.map fun c => .bl (p c)) = some (l.map p)
  | [] => rfl
  | x :: r => by rw [List.map_cons, blsD, blsD_map p r]; rfl
theorem okL_le {t : List D} (h : t.length ≤ 100000) : okL t = some t := by
  unfold okL
  rw [if_pos h]
theorem lenD_str {x : Str} (h : x.length ≤ 100000) : lenD (.str x) = some (.int x.length) := by
  show (if x.length ≤ lim then _ else none) = _
  rw [if_pos h]
theorem atI_getD {α : Type} (xs : List α) (i : Int) (d : α) (h0 : 0 ≤ i) (h1 : i < xs.length) : atI xs i = some (xs.getD i.toNat d) := by
  unfold atI ixN
  rw [if_pos h0, if_pos h1]
  have : i.toNat < xs.length := by omega
  simp [List.getD, this]
theorem atI_map {α β : Type} (f : α → β) (xs : List α) (i : Int) : atI (xs.map f) i = (atI xs i).map f := by
  unfold atI
  rw [List.length_map]
  cases ixN xs.length i with
  | none => rfl
  | some j => simp
theorem cMul_l {i j : Int} (h1 : -18446744073709551616 < i) (h2 : i < 18446744073709551616) : cMul i j = true := by
  unfold cMul; simp only [Bool.or_eq_true, Bool.and_eq_true, decide_eq_true_eq]; exact .inl ⟨by omega, by omega⟩
theorem cMul_r {i j : Int} (h1 : -18446744073709551616 < j) (h2 : j < 18446744073709551616) : cMul i j = true := by
  unfold cMul; simp only [Bool.or_eq_true, Bool.and_eq_true, decide_eq_true_eq]; exact .inr ⟨by omega, by omega⟩
theorem str_len_append (x y : Str) : (x ++ y).length = x.length + y.length := Str.length_append x y
/-! texts -/
theorem gIn_one (c : Nat) (y : Str) : gIn (.str ⟨#[c]⟩) (.str y) = some (decide (c ∈ y.cps.toList)) := by
  show some (!(Builtin.Str.occurrences y ⟨#[c]⟩ 0 y.length 1).isEmpty) = _
  rw [StrLaws.found_one]
theorem find_one_neg (x : Str) (c : Nat) : decide (Txt.find x ⟨#[c]⟩ < 0) = !decide (c ∈ x.cps.toList) := by
  have h := StrLaws.found_one x c
  unfold Txt.find
  cases ho : Builtin.Str.occurrences x ⟨#[c]⟩ 0 x.length 1 with
  | nil => rw [ho] at h; rw [← h]; rfl
  | cons i r =>
    rw [ho] at h; rw [← h]
    have : ¬ ((i : Int) < 0) := by omega
    simp [this]
theorem add_str_le {x y : Str} (h : x.length + y.length ≤ 100000) : addD (.str x) (.str y) = some (.str (x ++ y)) := by
  show (if x.length + y.length ≤ lim then _ else none) = _
  rw [if_pos h]
theorem atD_str {x : Str} {i : Int} (h0 : 0 ≤ i) (h1 : i < x.length) (h : x.length ≤ 100000) : atD (.str x) (.int i) = some (.str ⟨#[x.cps.toList.getD i.toNat 0]⟩) := by
  have hl : x.cps.toList.length = x.length := Array.length_toList
  show (if x.length ≤ lim then _ else none) = _
  rw [if_pos h, atI_getD _ i 0 h0 (by rw [hl]; exact h1)]
  rfl
end L2

namespace My
open PySem L2
def top (i : Nat) : Stmt := PySem.Challenge.pw_curveyard_k20_boxes_on_floors.main.body.getD i (.Pass ⟨0, 0, 0, 0⟩)
abbrev s_law_mix : Stmt := top 10
abbrev s_law_large : Stmt := top 12
abbrev s_law_box : Stmt := top 13
abbrev s_full : Stmt := top 1
abbrev s_grown : Stmt := top 7
abbrev s_law_place : Stmt := top 18
abbrev s_gap : Stmt := top 8
abbrev s_law_moved : Stmt := top 15
abbrev s_law_told : Stmt := top 14
abbrev s_has_place : Stmt := top 2
abbrev s_on_floor : Stmt := top 5
abbrev s_law_floors : Stmt := top 16
abbrev s_law_whole : Stmt := top 11
abbrev s_law_far : Stmt := top 17
abbrev s_not_beyond : Stmt := top 4
abbrev s_holds : Stmt := top 6
abbrev s_law_good : Stmt := top 19
abbrev s_law : Stmt := top 20
/-- the text behind its top -/
structure Txt (K : PySem.W.Frag) (mg : Str → Option Value) where
  f_law_mix : Addr
  fd_law_mix : FuncData
  F_law_mix : Fun K "_law_mix" "_law_mix" s_law_mix f_law_mix fd_law_mix
  b_law_mix : Binds K fd_law_mix ["_law_cell", "_law_one", "_law_prime"] []
  m_law_mix : mg "_law_mix" = some (.ref f_law_mix)
  f_law_large : Addr
  fd_law_large : FuncData
  F_law_large : Fun K "_law_large" "_law_large" s_law_large f_law_large fd_law_large
  b_law_large : Binds K fd_law_large ["_law_cell", "_law_one", "_law_many"] []
  m_law_large : mg "_law_large" = some (.ref f_law_large)
  f_law_box : Addr
  fd_law_box : FuncData
  F_law_box : Fun K "_law_box" "_law_box" s_law_box f_law_box fd_law_box
  b_law_box : Binds K fd_law_box ["_law_cell", "_law_dims", "_law_level", "_law_most"] []
  m_law_box : mg "_law_box" = some (.ref f_law_box)
  f_full : Addr
  fd_full : FuncData
  F_full : Fun K "full" "full" s_full f_full fd_full
  b_full : Binds K fd_full ["dims", "level"] []
  m_full : mg "full" = some (.ref f_full)
  f_grown : Addr
  fd_grown : FuncData
  F_grown : Fun K "grown" "grown" s_grown f_grown fd_grown
  b_grown : Binds K fd_grown ["box", "by", "level"] []
  m_grown : mg "grown" = some (.ref f_grown)
  f_law_place : Addr
  fd_law_place : FuncData
  F_law_place : Fun K "_law_place" "_law_place" s_law_place f_law_place fd_law_place
  b_law_place : Binds K fd_law_place ["_law_cell", "_law_box_here", "_law_level"] []
  m_law_place : mg "_law_place" = some (.ref f_law_place)
  f_gap : Addr
  fd_gap : FuncData
  F_gap : Fun K "gap" "gap" s_gap f_gap fd_gap
  b_gap : Binds K fd_gap ["place", "box"] []
  m_gap : mg "gap" = some (.ref f_gap)
  f_law_moved : Addr
  fd_law_moved : FuncData
  F_law_moved : Fun K "_law_moved" "_law_moved" s_law_moved f_law_moved fd_law_moved
  b_law_moved : Binds K fd_law_moved ["_law_box_here", "_law_axis", "_law_by"] []
  m_law_moved : mg "_law_moved" = some (.ref f_law_moved)
  f_law_told : Addr
  fd_law_told : FuncData
  F_law_told : Fun K "_law_told" "_law_told" s_law_told f_law_told fd_law_told
  b_law_told : Binds K fd_law_told ["_law_found", "_law_due"] []
  m_law_told : mg "_law_told" = some (.ref f_law_told)
  f_has_place : Addr
  fd_has_place : FuncData
  F_has_place : Fun K "has_place" "has_place" s_has_place f_has_place fd_has_place
  b_has_place : Binds K fd_has_place ["dims", "level", "place"] []
  m_has_place : mg "has_place" = some (.ref f_has_place)
  f_on_floor : Addr
  fd_on_floor : FuncData
  F_on_floor : Fun K "on_floor" "on_floor" s_on_floor f_on_floor fd_on_floor
  b_on_floor : Binds K fd_on_floor ["box", "dims", "level"] []
  m_on_floor : mg "on_floor" = some (.ref f_on_floor)
  f_law_floors : Addr
  fd_law_floors : FuncData
  F_law_floors : Fun K "_law_floors" "_law_floors" s_law_floors f_law_floors fd_law_floors
  b_law_floors : Binds K fd_law_floors ["_law_box_here", "_law_dims", "_law_level", "_law_cell"] []
  m_law_floors : mg "_law_floors" = some (.ref f_law_floors)
  f_law_whole : Addr
  fd_law_whole : FuncData
  F_law_whole : Fun K "_law_whole" "_law_whole" s_law_whole f_law_whole fd_law_whole
  b_law_whole : Binds K fd_law_whole ["_law_found"] []
  m_law_whole : mg "_law_whole" = some (.ref f_law_whole)
  f_law_far : Addr
  fd_law_far : FuncData
  F_law_far : Fun K "_law_far" "_law_far" s_law_far f_law_far fd_law_far
  b_law_far : Binds K fd_law_far ["_law_place_here", "_law_box_here"] []
  m_law_far : mg "_law_far" = some (.ref f_law_far)
  f_not_beyond : Addr
  fd_not_beyond : FuncData
  F_not_beyond : Fun K "not_beyond" "not_beyond" s_not_beyond f_not_beyond fd_not_beyond
  b_not_beyond : Binds K fd_not_beyond ["low", "high"] []
  m_not_beyond : mg "not_beyond" = some (.ref f_not_beyond)
  f_holds : Addr
  fd_holds : FuncData
  F_holds : Fun K "holds" "holds" s_holds f_holds fd_holds
  b_holds : Binds K fd_holds ["box", "place"] []
  m_holds : mg "holds" = some (.ref f_holds)
  f_law_good : Addr
  fd_law_good : FuncData
  F_law_good : Fun K "_law_good" "_law_good" s_law_good f_law_good fd_law_good
  b_law_good : Binds K fd_law_good ["_law_cell"] []
  m_law_good : mg "_law_good" = some (.ref f_law_good)
  f_law : Addr
  fd_law : FuncData
  F_law : Fun K "law" "law" s_law f_law fd_law
  b_law : Binds K fd_law ["_law_script"] []
  m_law : mg "law" = some (.ref f_law)
  z_all : mg "all" = none
  z_bool : mg "bool" = none
  z_int : mg "int" = none
  z_isinstance : mg "isinstance" = none
  z_len : mg "len" = none
  z_max : mg "max" = none
  z_min : mg "min" = none
  z_range : mg "range" = none
  z_tuple : mg "tuple" = none
  z_zip : mg "zip" = none
section
seal PySem.Sem.wp
variable {P : Program} {w : World} {K : PySem.W.Frag} {mg : Str → Option Value} {base : Heap}
/-! ### _law_mix -/
theorem sc_law_mix : FnScope ["_law_cell", "_law_one", "_law_prime", "_law_drawn"] ["_law_cell", "_law_one", "_law_prime"] (defScope s_law_mix) := ⟨rfl, rfl, rfl, by decide +kernel, rfl, by decide +kernel, by decide +kernel⟩
def B_law_mix_1 : Sf := (sRet (eDiv (eMod (eMul (eV 3) (eV 3)) (eC (.int 998244353))) (eC (.int 3))))
def B_law_mix_0 : Sf := (sSeq (sSet 3 (eMod (eMul (eAdd (eAdd (eAdd (eMod (eV 0) (eV 2)) (eC (.int 12345))) (eMul (eMul (eC (.int 31)) (eV 1)) (eV 1))) (eV 1)) (eC (.int 48271))) (eV 2)))
    (B_law_mix_1))
def b_law_mix : Sf :=
    (B_law_mix_0)
def d_law_mix : List D → Option D := fnF 4 b_law_mix
theorem ok_law_mix (T : Txt K mg) : FnOk P w K mg base CX0 1 T.f_law_mix T.fd_law_mix ["_law_cell", "_law_one", "_law_prime"] (spF K 3 d_law_mix) :=
  ok_fn (k := 0) T.F_law_mix sc_law_mix fun cdv A outer s H E hr =>
    (pss_consF (f := (sSet 3 (eMod (eMul (eAdd (eAdd (eAdd (eMod (eV 0) (eV 2)) (eC (.int 12345))) (eMul (eMul (eC (.int 31)) (eV 1)) (eV 1))) (eV 1)) (eC (.int 48271))) (eV 2)))) (g := (B_law_mix_1)) (ps_setF 3 sc_law_mix.nd (pf_mod (pf_mul (pf_add (pf_add (pf_add (pf_mod (pf_v 0) (pf_v 2)) pf_int) (pf_mul (pf_mul pf_int (pf_v 1)) (pf_v 1))) (pf_v 1)) pf_int) (pf_v 2)))
      (pss_oneF (ps_retF (pf_div (pf_mod (pf_mul (pf_v 3) (pf_v 3)) pf_int) pf_int))))
/-! ### _law_large -/
theorem sc_law_large : FnScope ["_law_cell", "_law_one", "_law_many", "_law_drawn"] ["_law_cell", "_law_one", "_law_many"] (defScope s_law_large) := ⟨rfl, rfl, rfl, by decide +kernel, rfl, by decide +kernel, by decide +kernel⟩
def B_law_large_2 : Sf := (sRet (eMod (eDiv (eMod (eMulB (eV 3) (eV 3)) (eC (.int 1000000000000000000000007))) (eC (.int 7))) (eV 2)))
def B_law_large_1 : Sf := (sSeq (sSet 3 (eMod (eMulB (eV 3) (eC (.int 69067))) (eC (.int 100000000000000000039))))
    (B_law_large_2))
def B_law_large_0 : Sf := (sSeq (sSet 3 (eAdd (eAdd (eMod (eV 0) (eC (.int 100000000000000000039))) (eMulB (eMulB (eC (.int 7919)) (eV 1)) (eV 1))) (eC (.int 77777))))
    (B_law_large_1))
def b_law_large : Sf :=
    (B_law_large_0)
def d_law_large : List D → Option D := fnF 4 b_law_large
theorem ok_law_large (T : Txt K mg) : FnOk P w K mg base CX0 1 T.f_law_large T.fd_law_large ["_law_cell", "_law_one", "_law_many"] (spF K 3 d_law_large) :=
  ok_fn (k := 0) T.F_law_large sc_law_large fun cdv A outer s H E hr =>
    (pss_consF (f := (sSet 3 (eAdd (eAdd (eMod (eV 0) (eC (.int 100000000000000000039))) (eMulB (eMulB (eC (.int 7919)) (eV 1)) (eV 1))) (eC (.int 77777))))) (g := (B_law_large_1)) (ps_setF 3 sc_law_large.nd (pf_add (pf_add (pf_mod (pf_v 0) pf_int) (pf_mulB (pf_mulB pf_int (pf_v 1)) (pf_v 1))) pf_int))
      (pss_consF (f := (sSet 3 (eMod (eMulB (eV 3) (eC (.int 69067))) (eC (.int 100000000000000000039))))) (g := (B_law_large_2)) (ps_setF 3 sc_law_large.nd (pf_mod (pf_mulB (pf_v 3) pf_int) pf_int))
      (pss_oneF (ps_retF (pf_mod (pf_div (pf_mod (pf_mulB (pf_v 3) (pf_v 3)) pf_int) pf_int) (pf_v 2))))))
/-! ### _law_box -/
theorem sc_law_box : FnScope ["_law_cell", "_law_dims", "_law_level", "_law_most", "_law_low", "_law_high", "_law_side", "_law_k", "_law_drawn", "_law_size", "_law_free", "_law_middle", "_law_spots"] ["_law_cell", "_law_dims", "_law_level", "_law_most"] (defScope s_law_box) := ⟨rfl, rfl, rfl, by decide +kernel, rfl, by decide +kernel, by decide +kernel⟩
def L1_law_box_6 : Sf := (sApp 5 (eSub (eAdd (eIxO 4 (eV 7)) (eV 9)) (eC (.int 1))))
def L1_law_box_5 : Sf := (sSeq (sApp 4 (eIx (eV 12) (eMod (eV 8) (eC (.int 4)))))
    (L1_law_box_6))
def L1_law_box_4 : Sf := (sSeq (sSet 12 (eL (lDisp (aCons (eC (.int 0)) (aCons (eV 10) (aCons (eMin (eV 10) (eV 11)) (aCons (eCall 3 d_law_large (aCons (eV 0) (aCons (eV 7) (aCons (eAdd (eV 10) (eC (.int 1))) aNil)))) aNil)))))))
    (L1_law_box_5))
def L1_law_box_3 : Sf := (sSeq (sSet 11 (eMax (eC (.int 0)) (eSub (eShr (eV 6) (eC (.int 1))) (eDiv (eV 9) (eC (.int 2))))))
    (L1_law_box_4))
def L1_law_box_2 : Sf := (sSeq (sSet 10 (eSub (eV 6) (eV 9)))
    (L1_law_box_3))
def L1_law_box_1 : Sf := (sSeq (sSet 9 (eMin (eV 6) (eAdd (eC (.int 1)) (eMod (eDiv (eV 8) (eC (.int 4))) (eV 3)))))
    (L1_law_box_2))
def L1_law_box_0 : Sf := (sSeq (sSet 8 (eCall 3 d_law_mix (aCons (eV 0) (aCons (eAdd (eC (.int 50)) (eV 7)) (aCons (eC (.int 1000037)) aNil)))))
    (L1_law_box_1))
def B_law_box_4 : Sf := (sFrz 4 (sFrz 5 (sRet (eTup (aCons (eTupOf (eV 4)) (aCons (eTupOf (eV 5)) aNil))))))
def B_law_box_3 : Sf := (sSeq (sFor (iR (eV 1)) (gN 7) (L1_law_box_0))
    (B_law_box_4))
def B_law_box_2 : Sf := (sSeq (sSet 6 (eShl (eC (.int 1)) (eV 2)))
    (B_law_box_3))
def B_law_box_1 : Sf := (sSeq (sOwn 5 (lDisp aNil))
    (B_law_box_2))
def B_law_box_0 : Sf := (sSeq (sOwn 4 (lDisp aNil))
    (B_law_box_1))
def b_law_box : Sf :=
    (B_law_box_0)
def d_law_box : List D → Option D := fnF 13 b_law_box
theorem ok_law_box (T : Txt K mg) : FnOk P w K mg base CX0 2 T.f_law_box T.fd_law_box ["_law_cell", "_law_dims", "_law_level", "_law_most"] (spF K 4 d_law_box) :=
  ok_fn (k := 1) T.F_law_box sc_law_box fun cdv A outer s H E hr =>
    (pss_consF (f := (sOwn 4 (lDisp aNil))) (g := (B_law_box_1)) (ps_own 4 sc_law_box.nd (pl_disp pa_nilF))
      (pss_consF (f := (sOwn 5 (lDisp aNil))) (g := (B_law_box_2)) (ps_own 5 sc_law_box.nd (pl_disp pa_nilF))
      (pss_consF (f := (sSet 6 (eShl (eC (.int 1)) (eV 2)))) (g := (B_law_box_3)) (ps_setF 6 sc_law_box.nd (pf_shl pf_int (pf_v 2)))
      (pss_consF (f := (sFor (iR (eV 1)) (gN 7) (L1_law_box_0))) (g := (B_law_box_4)) (ps_forF PassesOwn.never rfl (pi_r rfl T.z_range (pf_v 1)) (pg_n 7 sc_law_box.nd) (pss_consF (f := (sSet 8 (eCall 3 d_law_mix (aCons (eV 0) (aCons (eAdd (eC (.int 50)) (eV 7)) (aCons (eC (.int 1000037)) aNil)))))) (g := (L1_law_box_1)) (ps_setF 8 sc_law_box.nd (pf_call (ok_law_mix T) (hr.mono (by omega)) T.m_law_mix T.F_law_mix.kp T.b_law_mix rfl (pa_consF (pf_v 0) (pa_consF (pf_add pf_int (pf_v 7)) (pa_consF pf_int pa_nilF)))))
      (pss_consF (f := (sSet 9 (eMin (eV 6) (eAdd (eC (.int 1)) (eMod (eDiv (eV 8) (eC (.int 4))) (eV 3)))))) (g := (L1_law_box_2)) (ps_setF 9 sc_law_box.nd (pf_min rfl rfl T.z_min (pf_v 6) (pf_add pf_int (pf_mod (pf_div (pf_v 8) pf_int) (pf_v 3)))))
      (pss_consF (f := (sSet 10 (eSub (eV 6) (eV 9)))) (g := (L1_law_box_3)) (ps_setF 10 sc_law_box.nd (pf_sub (pf_v 6) (pf_v 9)))
      (pss_consF (f := (sSet 11 (eMax (eC (.int 0)) (eSub (eShr (eV 6) (eC (.int 1))) (eDiv (eV 9) (eC (.int 2))))))) (g := (L1_law_box_4)) (ps_setF 11 sc_law_box.nd (pf_max rfl rfl T.z_max pf_int (pf_sub (pf_shr (pf_v 6) pf_int) (pf_div (pf_v 9) pf_int))))
      (pss_consF (f := (sSet 12 (eL (lDisp (aCons (eC (.int 0)) (aCons (eV 10) (aCons (eMin (eV 10) (eV 11)) (aCons (eCall 3 d_law_large (aCons (eV 0) (aCons (eV 7) (aCons (eAdd (eV 10) (eC (.int 1))) aNil)))) aNil)))))))) (g := (L1_law_box_5)) (ps_setF 12 sc_law_box.nd (pf_l (pl_disp (pa_consF pf_int (pa_consF (pf_v 10) (pa_consF (pf_min rfl rfl T.z_min (pf_v 10) (pf_v 11)) (pa_consF (pf_call (ok_law_large T) (hr.mono (by omega)) T.m_law_large T.F_law_large.kp T.b_law_large rfl (pa_consF (pf_v 0) (pa_consF (pf_v 7) (pa_consF (pf_add (pf_v 10) pf_int) pa_nilF)))) pa_nilF)))))))
      (pss_consF (f := (sApp 4 (eIx (eV 12) (eMod (eV 8) (eC (.int 4)))))) (g := (L1_law_box_6)) (ps_app 4 (pe_bm PySem.F.plainAttrs_list PySem.F.slot_list_append PySem.F.type_list_append mt_append (pv 4) (pa_cons (pf_ix (pf_v 12) (pf_mod (pf_v 8) pf_int)) pa_nil)))
      (pss_oneF (ps_app 5 (pe_bm PySem.F.plainAttrs_list PySem.F.slot_list_append PySem.F.type_list_append mt_append (pv 5) (pa_cons (pf_sub (pf_add (pf_ixO 4 (pf_v 7)) (pf_v 9)) pf_int) pa_nil)))))))))))
      (pss_oneF (ps_frz 4 (ps_frz 5 (ps_retF (pf_tup (pa_consF (pf_tupOf rfl T.z_tuple (pf_v 4)) (pa_consF (pf_tupOf rfl T.z_tuple (pf_v 5)) pa_nilF)))))))))))
/-! ### full -/
theorem sc_full : FnScope ["dims", "level", "places", "halving"] ["dims", "level"] (defScope s_full) := ⟨rfl, rfl, rfl, by decide +kernel, rfl, by decide +kernel, by decide +kernel⟩
def L1_full_0 : Sf := (sSet 2 (eMul (eV 2) (eC (.int 2))))
def B_full_2 : Sf := (sRet (eV 2))
def B_full_1 : Sf := (sSeq (sFor (iR (eMul (eV 0) (eV 1))) (gN 3) (L1_full_0))
    (B_full_2))
def B_full_0 : Sf := (sSeq (sSet 2 (eC (.int 1)))
    (B_full_1))
def b_full : Sf :=
    (B_full_0)
def d_full : List D → Option D := fnF 4 b_full
theorem ok_full (T : Txt K mg) : FnOk P w K mg base CX0 1 T.f_full T.fd_full ["dims", "level"] (spF K 2 d_full) :=
  ok_fn (k := 0) T.F_full sc_full fun cdv A outer s H E hr =>
    (pss_consF (f := (sSet 2 (eC (.int 1)))) (g := (B_full_1)) (ps_setF 2 sc_full.nd pf_int)
      (pss_consF (f := (sFor (iR (eMul (eV 0) (eV 1))) (gN 3) (L1_full_0))) (g := (B_full_2)) (ps_forF PassesOwn.never rfl (pi_r rfl T.z_range (pf_mul (pf_v 0) (pf_v 1))) (pg_n 3 sc_full.nd) (pss_oneF (ps_setF 2 sc_full.nd (pf_mul (pf_v 2) pf_int))))
      (pss_oneF (ps_retF (pf_v 2)))))
/-! ### grown -/
theorem sc_grown : FnScope ["box", "by", "level", "low", "high", "edge", "lower", "upper"] ["box", "by", "level"] (defScope s_grown) := ⟨rfl, rfl, rfl, by decide +kernel, rfl, by decide +kernel, by decide +kernel⟩
def B_grown_4 : Sf := (sRet (eTup (aCons (eV 6) (aCons (eV 7) aNil))))
def B_grown_3 : Sf := (sSeq (sSet 7 (eTupOf (eL (lComp (iT (eV 4)) 1 [5, 1] (gN 0) tOK (eMin (eV 1) (eAdd (eV 0) (eV 2)))))))
    (B_grown_4))
def B_grown_2 : Sf := (sSeq (sSet 6 (eTupOf (eL (lComp (iT (eV 3)) 1 [1] (gN 0) tOK (eMax (eC (.int 0)) (eSub (eV 0) (eV 1)))))))
    (B_grown_3))
def B_grown_1 : Sf := (sSeq (sSet 5 (eSub (eCall 2 d_full (aCons (eC (.int 1)) (aCons (eV 2) aNil))) (eC (.int 1))))
    (B_grown_2))
def B_grown_0 : Sf := (sSeq (sAsg (eV 0) (gT (gsCons (gN 3) (gsCons (gN 4) gsNil))))
    (B_grown_1))
def b_grown : Sf :=
    (B_grown_0)
def d_grown : List D → Option D := fnF 8 b_grown
theorem ok_grown (T : Txt K mg) : FnOk P w K mg base CX0 2 T.f_grown T.fd_grown ["box", "by", "level"] (spF K 3 d_grown) :=
  ok_fn (k := 1) T.F_grown sc_grown fun cdv A outer s H E hr =>
    (pss_consF (f := (sAsg (eV 0) (gT (gsCons (gN 3) (gsCons (gN 4) gsNil))))) (g := (B_grown_1)) (ps_asgF (pf_v 0) (pg_t 2 rfl (pgs_consF (pg_n 3 sc_grown.nd) (pgs_consF (pg_n 4 sc_grown.nd) pgs_nilF)) (gs_len1 (gs_len1 gs_len0))))
      (pss_consF (f := (sSet 5 (eSub (eCall 2 d_full (aCons (eC (.int 1)) (aCons (eV 2) aNil))) (eC (.int 1))))) (g := (B_grown_2)) (ps_setF 5 sc_grown.nd (pf_sub (pf_call (ok_full T) (hr.mono (by omega)) T.m_full T.F_full.kp T.b_full rfl (pa_consF pf_int (pa_consF (pf_v 2) pa_nilF))) pf_int))
      (pss_consF (f := (sSet 6 (eTupOf (eL (lComp (iT (eV 3)) 1 [1] (gN 0) tOK (eMax (eC (.int 0)) (eSub (eV 0) (eV 1)))))))) (g := (B_grown_3)) (ps_setF 6 sc_grown.nd (pf_tupOf rfl T.z_tuple (pf_l (pl_comp (defScope s_grown) ["box", "by", "level", "low", "high", "edge", "lower", "upper"] ["least"] ["by"] [1] (go_n 0) (pi_t (pf_v 3)) rfl rfl rfl (by decide +kernel) (fun _ _ _ _ => (pg_n 0 (show (List.Nodup (α := PySem.Str) ["least", "by"]) from by decide +kernel))) (fun _ _ _ _ => pifs_nilF) (fun _ _ _ _ => (pf_max rfl rfl T.z_max pf_int (pf_sub (pf_v 0) (pf_v 1))))))))
      (pss_consF (f := (sSet 7 (eTupOf (eL (lComp (iT (eV 4)) 1 [5, 1] (gN 0) tOK (eMin (eV 1) (eAdd (eV 0) (eV 2)))))))) (g := (B_grown_4)) (ps_setF 7 sc_grown.nd (pf_tupOf rfl T.z_tuple (pf_l (pl_comp (defScope s_grown) ["box", "by", "level", "low", "high", "edge", "lower", "upper"] ["most"] ["edge", "by"] [5, 1] (go_n 0) (pi_t (pf_v 4)) rfl rfl rfl (by decide +kernel) (fun _ _ _ _ => (pg_n 0 (show (List.Nodup (α := PySem.Str) ["most", "edge", "by"]) from by decide +kernel))) (fun _ _ _ _ => pifs_nilF) (fun _ _ _ _ => (pf_min rfl rfl T.z_min (pf_v 1) (pf_add (pf_v 0) (pf_v 2))))))))
      (pss_oneF (ps_retF (pf_tup (pa_consF (pf_v 6) (pa_consF (pf_v 7) pa_nilF)))))))))
/-! ### _law_place -/
theorem sc_law_place : FnScope ["_law_cell", "_law_box_here", "_law_level", "_law_side", "_law_place_here", "_law_k", "_law_drawn", "_law_near"] ["_law_cell", "_law_box_here", "_law_level"] (defScope s_law_place) := ⟨rfl, rfl, rfl, by decide +kernel, rfl, by decide +kernel, by decide +kernel⟩
def L1_law_place_2 : Sf := (sApp 4 (eIx (eL (lDisp (aCons (eMax (eC (.int 0)) (eMin (eSub (eV 3) (eC (.int 1))) (eV 7))) (aCons (eCall 3 d_law_large (aCons (eV 0) (aCons (eAdd (eC (.int 9)) (eV 5)) (aCons (eV 3) aNil)))) (aCons (eSub (eV 3) (eC (.int 1))) aNil))))) (eMod (eV 6) (eC (.int 3)))))
def L1_law_place_1 : Sf := (sSeq (sSet 7 (eSub (eAdd (eIx (eIx (eV 1) (eC (.int 0))) (eV 5)) (eMod (eDiv (eV 6) (eC (.int 3))) (eC (.int 9)))) (eC (.int 4))))
    (L1_law_place_2))
def L1_law_place_0 : Sf := (sSeq (sSet 6 (eCall 3 d_law_mix (aCons (eV 0) (aCons (eAdd (eC (.int 20)) (eV 5)) (aCons (eC (.int 1000033)) aNil)))))
    (L1_law_place_1))
def B_law_place_3 : Sf := (sFrz 4 (sRet (eTupOf (eV 4))))
def B_law_place_2 : Sf := (sSeq (sFor (iR (eLen (eIx (eV 1) (eC (.int 0))))) (gN 5) (L1_law_place_0))
    (B_law_place_3))
def B_law_place_1 : Sf := (sSeq (sOwn 4 (lDisp aNil))
    (B_law_place_2))
def B_law_place_0 : Sf := (sSeq (sSet 3 (eShl (eC (.int 1)) (eV 2)))
    (B_law_place_1))
def b_law_place : Sf :=
    (B_law_place_0)
def d_law_place : List D → Option D := fnF 8 b_law_place
theorem ok_law_place (T : Txt K mg) : FnOk P w K mg base CX0 2 T.f_law_place T.fd_law_place ["_law_cell", "_law_box_here", "_law_level"] (spF K 3 d_law_place) :=
  ok_fn (k := 1) T.F_law_place sc_law_place fun cdv A outer s H E hr =>
    (pss_consF (f := (sSet 3 (eShl (eC (.int 1)) (eV 2)))) (g := (B_law_place_1)) (ps_setF 3 sc_law_place.nd (pf_shl pf_int (pf_v 2)))
      (pss_consF (f := (sOwn 4 (lDisp aNil))) (g := (B_law_place_2)) (ps_own 4 sc_law_place.nd (pl_disp pa_nilF))
      (pss_consF (f := (sFor (iR (eLen (eIx (eV 1) (eC (.int 0))))) (gN 5) (L1_law_place_0))) (g := (B_law_place_3)) (ps_forF PassesOwn.never rfl (pi_r rfl T.z_range (pf_len rfl T.z_len (pf_ix (pf_v 1) pf_int))) (pg_n 5 sc_law_place.nd) (pss_consF (f := (sSet 6 (eCall 3 d_law_mix (aCons (eV 0) (aCons (eAdd (eC (.int 20)) (eV 5)) (aCons (eC (.int 1000033)) aNil)))))) (g := (L1_law_place_1)) (ps_setF 6 sc_law_place.nd (pf_call (ok_law_mix T) (hr.mono (by omega)) T.m_law_mix T.F_law_mix.kp T.b_law_mix rfl (pa_consF (pf_v 0) (pa_consF (pf_add pf_int (pf_v 5)) (pa_consF pf_int pa_nilF)))))
      (pss_consF (f := (sSet 7 (eSub (eAdd (eIx (eIx (eV 1) (eC (.int 0))) (eV 5)) (eMod (eDiv (eV 6) (eC (.int 3))) (eC (.int 9)))) (eC (.int 4))))) (g := (L1_law_place_2)) (ps_setF 7 sc_law_place.nd (pf_sub (pf_add (pf_ix (pf_ix (pf_v 1) pf_int) (pf_v 5)) (pf_mod (pf_div (pf_v 6) pf_int) pf_int)) pf_int))
      (pss_oneF (ps_app 4 (pe_bm PySem.F.plainAttrs_list PySem.F.slot_list_append PySem.F.type_list_append mt_append (pv 4) (pa_cons (pf_ix (pf_l (pl_disp (pa_consF (pf_max rfl rfl T.z_max pf_int (pf_min rfl rfl T.z_min (pf_sub (pf_v 3) pf_int) (pf_v 7))) (pa_consF (pf_call (ok_law_large T) (hr.mono (by omega)) T.m_law_large T.F_law_large.kp T.b_law_large rfl (pa_consF (pf_v 0) (pa_consF (pf_add pf_int (pf_v 5)) (pa_consF (pf_v 3) pa_nilF)))) (pa_consF (pf_sub (pf_v 3) pf_int) pa_nilF))))) (pf_mod (pf_v 6) pf_int)) pa_nil)))))))
      (pss_oneF (ps_frz 4 (ps_retF (pf_tupOf rfl T.z_tuple (pf_v 4))))))))
/-! ### gap -/
theorem sc_gap : FnScope ["place", "box", "low", "high", "gaps"] ["place", "box"] (defScope s_gap) := ⟨rfl, rfl, rfl, by decide +kernel, rfl, by decide +kernel, by decide +kernel⟩
def B_gap_2 : Sf := (sFrz 4 (sRet (eMaxL (iL (eV 4)))))
def B_gap_1 : Sf := (sSeq (sOwn 4 (lComp (iZip3 (eV 0) (eV 2) (eV 3)) 3 [] (gT (gsCons (gN 0) (gsCons (gN 1) (gsCons (gN 2) gsNil)))) tOK (eMax3 (eC (.int 0)) (eSub (eV 1) (eV 0)) (eSub (eV 0) (eV 2)))))
    (B_gap_2))
def B_gap_0 : Sf := (sSeq (sAsg (eV 1) (gT (gsCons (gN 2) (gsCons (gN 3) gsNil))))
    (B_gap_1))
def b_gap : Sf :=
    (B_gap_0)
def d_gap : List D → Option D := fnF 5 b_gap
theorem ok_gap (T : Txt K mg) : FnOk P w K mg base CX0 1 T.f_gap T.fd_gap ["place", "box"] (spF K 2 d_gap) :=
  ok_fn (k := 0) T.F_gap sc_gap fun cdv A outer s H E hr =>
    (pss_consF (f := (sAsg (eV 1) (gT (gsCons (gN 2) (gsCons (gN 3) gsNil))))) (g := (B_gap_1)) (ps_asgF (pf_v 1) (pg_t 2 rfl (pgs_consF (pg_n 2 sc_gap.nd) (pgs_consF (pg_n 3 sc_gap.nd) pgs_nilF)) (gs_len1 (gs_len1 gs_len0))))
      (pss_consF (f := (sOwn 4 (lComp (iZip3 (eV 0) (eV 2) (eV 3)) 3 [] (gT (gsCons (gN 0) (gsCons (gN 1) (gsCons (gN 2) gsNil)))) tOK (eMax3 (eC (.int 0)) (eSub (eV 1) (eV 0)) (eSub (eV 0) (eV 2)))))) (g := (B_gap_2)) (ps_compOwn (defScope s_gap) ["place", "box", "low", "high", "gaps"] ["along", "least", "most"] [] [] (go_t (gso_cons (go_n 0) (gso_cons (go_n 1) (gso_cons (go_n 2) gso_nil)))) 4 sc_gap.nd rfl rfl (pi_zip3 rfl T.z_zip (pf_v 0) (pf_v 2) (pf_v 3)) rfl rfl rfl (by decide +kernel) (fun _ _ _ _ => (pg_t 3 rfl (pgs_consF (pg_n 0 (show (List.Nodup (α := PySem.Str) ["along", "least", "most"]) from by decide +kernel)) (pgs_consF (pg_n 1 (show (List.Nodup (α := PySem.Str) ["along", "least", "most"]) from by decide +kernel)) (pgs_consF (pg_n 2 (show (List.Nodup (α := PySem.Str) ["along", "least", "most"]) from by decide +kernel)) pgs_nilF))) (gs_len1 (gs_len1 (gs_len1 gs_len0))))) (fun _ _ _ _ => pifs_nilF) (fun _ _ _ _ => (pf_max3 rfl rfl T.z_max pf_int (pf_sub (pf_v 1) (pf_v 0)) (pf_sub (pf_v 0) (pf_v 2)))))
      (pss_oneF (ps_frz 4 (ps_retF (pf_maxL rfl rfl T.z_max (src_l (pf_v 4))))))))
/-! ### _law_moved -/
theorem sc_law_moved : FnScope ["_law_box_here", "_law_axis", "_law_by", "_law_low", "_law_high"] ["_law_box_here", "_law_axis", "_law_by"] (defScope s_law_moved) := ⟨rfl, rfl, rfl, by decide +kernel, rfl, by decide +kernel, by decide +kernel⟩
def B_law_moved_2 : Sf := (sRet (eTup (aCons (eV 3) (aCons (eV 4) aNil))))
def B_law_moved_1 : Sf := (sSeq (sSet 4 (eTCat (eTCat (eTCut (eIx (eV 0) (eC (.int 1))) oNo (oSome (eV 1))) (eTup (aCons (eAdd (eIx (eIx (eV 0) (eC (.int 1))) (eV 1)) (eV 2)) aNil))) (eTCut (eIx (eV 0) (eC (.int 1))) (oSome (eAdd (eV 1) (eC (.int 1)))) oNo)))
    (B_law_moved_2))
def B_law_moved_0 : Sf := (sSeq (sSet 3 (eTCat (eTCat (eTCut (eIx (eV 0) (eC (.int 0))) oNo (oSome (eV 1))) (eTup (aCons (eAdd (eIx (eIx (eV 0) (eC (.int 0))) (eV 1)) (eV 2)) aNil))) (eTCut (eIx (eV 0) (eC (.int 0))) (oSome (eAdd (eV 1) (eC (.int 1)))) oNo)))
    (B_law_moved_1))
def b_law_moved : Sf :=
    (B_law_moved_0)
def d_law_moved : List D → Option D := fnF 5 b_law_moved
theorem ok_law_moved (T : Txt K mg) : FnOk P w K mg base CX0 1 T.f_law_moved T.fd_law_moved ["_law_box_here", "_law_axis", "_law_by"] (spF K 3 d_law_moved) :=
  ok_fn (k := 0) T.F_law_moved sc_law_moved fun cdv A outer s H E hr =>
    (pss_consF (f := (sSet 3 (eTCat (eTCat (eTCut (eIx (eV 0) (eC (.int 0))) oNo (oSome (eV 1))) (eTup (aCons (eAdd (eIx (eIx (eV 0) (eC (.int 0))) (eV 1)) (eV 2)) aNil))) (eTCut (eIx (eV 0) (eC (.int 0))) (oSome (eAdd (eV 1) (eC (.int 1)))) oNo)))) (g := (B_law_moved_1)) (ps_setF 3 sc_law_moved.nd (pf_tcat (pf_tcat (pf_tcut (pf_ix (pf_v 0) pf_int) po_no (po_sm (pf_v 1))) (pf_tup (pa_consF (pf_add (pf_ix (pf_ix (pf_v 0) pf_int) (pf_v 1)) (pf_v 2)) pa_nilF))) (pf_tcut (pf_ix (pf_v 0) pf_int) (po_sm (pf_add (pf_v 1) pf_int)) po_no)))
      (pss_consF (f := (sSet 4 (eTCat (eTCat (eTCut (eIx (eV 0) (eC (.int 1))) oNo (oSome (eV 1))) (eTup (aCons (eAdd (eIx (eIx (eV 0) (eC (.int 1))) (eV 1)) (eV 2)) aNil))) (eTCut (eIx (eV 0) (eC (.int 1))) (oSome (eAdd (eV 1) (eC (.int 1)))) oNo)))) (g := (B_law_moved_2)) (ps_setF 4 sc_law_moved.nd (pf_tcat (pf_tcat (pf_tcut (pf_ix (pf_v 0) pf_int) po_no (po_sm (pf_v 1))) (pf_tup (pa_consF (pf_add (pf_ix (pf_ix (pf_v 0) pf_int) (pf_v 1)) (pf_v 2)) pa_nilF))) (pf_tcut (pf_ix (pf_v 0) pf_int) (po_sm (pf_add (pf_v 1) pf_int)) po_no)))
      (pss_oneF (ps_retF (pf_tup (pa_consF (pf_v 3) (pa_consF (pf_v 4) pa_nilF)))))))
/-! ### _law_told -/
theorem sc_law_told : FnScope ["_law_found", "_law_due"] ["_law_found", "_law_due"] (defScope s_law_told) := ⟨rfl, rfl, rfl, by decide +kernel, rfl, by decide +kernel, by decide +kernel⟩
def B_law_told_0 : Sf := (sRet (eAndV (isTy isBool (eV 0)) (eOfT (eB2 gEqD (eV 0) (eV 1)))))
def b_law_told : Sf :=
    (B_law_told_0)
def d_law_told : List D → Option D := fnF 2 b_law_told
theorem ok_law_told (T : Txt K mg) : FnOk P w K mg base CX0 1 T.f_law_told T.fd_law_told ["_law_found", "_law_due"] (spF K 2 d_law_told) :=
  ok_fn (k := 0) T.F_law_told sc_law_told fun cdv A outer s H E hr =>
    (pss_oneF (ps_retF (pf_and (pf_isi (T := "bool") (TT := "bool") rfl hq_bool rfl T.z_isinstance rfl T.z_bool (pf_v 0)) (pf_one (pf_cmp (cm_eqD hr) (pf_v 0) (pf_v 1))))))
/-! ### has_place -/
theorem sc_has_place : FnScope ["dims", "level", "place", "side"] ["dims", "level", "place"] (defScope s_has_place) := ⟨rfl, rfl, rfl, by decide +kernel, rfl, by decide +kernel, by decide +kernel⟩
def B_has_place_1 : Sf := (sRet (eAndV (eOfT (eB2 gEq (eLen (eV 2)) (eV 0))) (eAll (eL (lComp (iT (eV 2)) 1 [3] (gN 0) tOK (eOfT (eB3 gLe gLt (eC (.int 0)) (eV 0) (eV 1))))))))
def B_has_place_0 : Sf := (sSeq (sSet 3 (eCall 2 d_full (aCons (eC (.int 1)) (aCons (eV 1) aNil))))
    (B_has_place_1))
def b_has_place : Sf :=
    (B_has_place_0)
def d_has_place : List D → Option D := fnF 4 b_has_place
theorem ok_has_place (T : Txt K mg) : FnOk P w K mg base CX0 2 T.f_has_place T.fd_has_place ["dims", "level", "place"] (spF K 3 d_has_place) :=
  ok_fn (k := 1) T.F_has_place sc_has_place fun cdv A outer s H E hr =>
    (pss_consF (f := (sSet 3 (eCall 2 d_full (aCons (eC (.int 1)) (aCons (eV 1) aNil))))) (g := (B_has_place_1)) (ps_setF 3 sc_has_place.nd (pf_call (ok_full T) (hr.mono (by omega)) T.m_full T.F_full.kp T.b_full rfl (pa_consF pf_int (pa_consF (pf_v 1) pa_nilF))))
      (pss_oneF (ps_retF (pf_and (pf_cmp cm_eq (pf_len rfl T.z_len (pf_v 2)) (pf_v 0)) (pf_one (pf_all rfl rfl T.z_all (pf_l (pl_comp (defScope s_has_place) ["dims", "level", "place", "side"] ["along"] ["side"] [3] (go_n 0) (pi_t (pf_v 2)) rfl rfl rfl (by decide +kernel) (fun _ _ _ _ => (pg_n 0 (show (List.Nodup (α := PySem.Str) ["along", "side"]) from by decide +kernel))) (fun _ _ _ _ => pifs_nilF) (fun _ _ _ _ => (pf_chain cm_le cm_lt pf_int (pf_v 0) (pf_v 1)))))))))))
/-! ### on_floor -/
theorem sc_on_floor : FnScope ["box", "dims", "level", "low", "high"] ["box", "dims", "level"] (defScope s_on_floor) := ⟨rfl, rfl, rfl, by decide +kernel, rfl, by decide +kernel, by decide +kernel⟩
def B_on_floor_1 : Sf := (sRet (eAndV (eCall 3 d_has_place (aCons (eV 1) (aCons (eV 2) (aCons (eV 3) aNil)))) (eCall 3 d_has_place (aCons (eV 1) (aCons (eV 2) (aCons (eV 4) aNil))))))
def B_on_floor_0 : Sf := (sSeq (sAsg (eV 0) (gT (gsCons (gN 3) (gsCons (gN 4) gsNil))))
    (B_on_floor_1))
def b_on_floor : Sf :=
    (B_on_floor_0)
def d_on_floor : List D → Option D := fnF 5 b_on_floor
theorem ok_on_floor (T : Txt K mg) : FnOk P w K mg base CX0 3 T.f_on_floor T.fd_on_floor ["box", "dims", "level"] (spF K 3 d_on_floor) :=
  ok_fn (k := 2) T.F_on_floor sc_on_floor fun cdv A outer s H E hr =>
    (pss_consF (f := (sAsg (eV 0) (gT (gsCons (gN 3) (gsCons (gN 4) gsNil))))) (g := (B_on_floor_1)) (ps_asgF (pf_v 0) (pg_t 2 rfl (pgs_consF (pg_n 3 sc_on_floor.nd) (pgs_consF (pg_n 4 sc_on_floor.nd) pgs_nilF)) (gs_len1 (gs_len1 gs_len0))))
      (pss_oneF (ps_retF (pf_and (pf_call (ok_has_place T) (hr.mono (by omega)) T.m_has_place T.F_has_place.kp T.b_has_place rfl (pa_consF (pf_v 1) (pa_consF (pf_v 2) (pa_consF (pf_v 3) pa_nilF)))) (pf_one (pf_call (ok_has_place T) (hr.mono (by omega)) T.m_has_place T.F_has_place.kp T.b_has_place rfl (pa_consF (pf_v 1) (pa_consF (pf_v 2) (pa_consF (pf_v 4) pa_nilF)))))))))
/-! ### _law_floors -/
theorem sc_law_floors : FnScope ["_law_box_here", "_law_dims", "_law_level", "_law_cell", "_law_side", "_law_axis", "_law_over", "_law_under", "_law_other"] ["_law_box_here", "_law_dims", "_law_level", "_law_cell"] (defScope s_law_floors) := ⟨rfl, rfl, rfl, by decide +kernel, rfl, by decide +kernel, by decide +kernel⟩
def B_law_floors_8 : Sf := (sRet (eAndV (eCall 2 d_law_told (aCons (eCall 3 d_on_floor (aCons (eV 8) (aCons (eV 1) (aCons (eV 2) aNil)))) (aCons (eC (.bl false)) aNil))) (eCall 2 d_law_told (aCons (eCall 3 d_on_floor (aCons (eV 8) (aCons (eSub (eC (.int 5)) (eV 1)) (aCons (eV 2) aNil)))) (aCons (eC (.bl true)) aNil)))))
def B_law_floors_7 : Sf := (sSeq (sIf (eB2 gEq (eV 1) (eC (.int 2))) (sSet 8 (eTup (aCons (eTCat (eIx (eV 0) (eC (.int 0))) (eTup (aCons (eC (.int 0)) aNil))) (aCons (eTCat (eIx (eV 0) (eC (.int 1))) (eTup (aCons (eC (.int 0)) aNil))) aNil)))) sNil)
    (B_law_floors_8))
def B_law_floors_6 : Sf := (sSeq (sSet 8 (eTup (aCons (eTCut (eIx (eV 0) (eC (.int 0))) oNo (oSome (eC (.int 2)))) (aCons (eTCut (eIx (eV 0) (eC (.int 1))) oNo (oSome (eC (.int 2)))) aNil))))
    (B_law_floors_7))
def B_law_floors_5 : Sf := (sSeq (sIf (tOrF (tNotF (tB1 (eCall 2 d_law_told (aCons (eCall 3 d_on_floor (aCons (eV 6) (aCons (eV 1) (aCons (eV 2) aNil)))) (aCons (eC (.bl false)) aNil))))) (tNotF (tB1 (eCall 2 d_law_told (aCons (eCall 3 d_on_floor (aCons (eV 7) (aCons (eV 1) (aCons (eV 2) aNil)))) (aCons (eC (.bl false)) aNil)))))) (sRet (eC (.bl false))) sNil)
    (B_law_floors_6))
def B_law_floors_4 : Sf := (sSeq (sSet 7 (eCall 3 d_law_moved (aCons (eV 0) (aCons (eV 5) (aCons (eSub (eSub (eNeg (eC (.int 1))) (eIx (eIx (eV 0) (eC (.int 0))) (eV 5))) (eMod (eDiv (eV 3) (eC (.int 3))) (eC (.int 1000)))) aNil)))))
    (B_law_floors_5))
def B_law_floors_3 : Sf := (sSeq (sSet 6 (eCall 3 d_law_moved (aCons (eV 0) (aCons (eV 5) (aCons (eAdd (eSub (eV 4) (eIx (eIx (eV 0) (eC (.int 1))) (eV 5))) (eMod (eDiv (eV 3) (eC (.int 3))) (eC (.int 1000)))) aNil)))))
    (B_law_floors_4))
def B_law_floors_2 : Sf := (sSeq (sIf (tNotF (tB1 (eCall 2 d_law_told (aCons (eCall 3 d_on_floor (aCons (eV 0) (aCons (eV 1) (aCons (eV 2) aNil)))) (aCons (eC (.bl true)) aNil))))) (sRet (eC (.bl false))) sNil)
    (B_law_floors_3))
def B_law_floors_1 : Sf := (sSeq (sSet 5 (eMod (eV 3) (eV 1)))
    (B_law_floors_2))
def B_law_floors_0 : Sf := (sSeq (sSet 4 (eShl (eC (.int 1)) (eV 2)))
    (B_law_floors_1))
def b_law_floors : Sf :=
    (B_law_floors_0)
def d_law_floors : List D → Option D := fnF 9 b_law_floors
theorem ok_law_floors (T : Txt K mg) : FnOk P w K mg base CX0 4 T.f_law_floors T.fd_law_floors ["_law_box_here", "_law_dims", "_law_level", "_law_cell"] (spF K 4 d_law_floors) :=
  ok_fn (k := 3) T.F_law_floors sc_law_floors fun cdv A outer s H E hr =>
    (pss_consF (f := (sSet 4 (eShl (eC (.int 1)) (eV 2)))) (g := (B_law_floors_1)) (ps_setF 4 sc_law_floors.nd (pf_shl pf_int (pf_v 2)))
      (pss_consF (f := (sSet 5 (eMod (eV 3) (eV 1)))) (g := (B_law_floors_2)) (ps_setF 5 sc_law_floors.nd (pf_mod (pf_v 3) (pf_v 1)))
      (pss_consF (f := (sIf (tNotF (tB1 (eCall 2 d_law_told (aCons (eCall 3 d_on_floor (aCons (eV 0) (aCons (eV 1) (aCons (eV 2) aNil)))) (aCons (eC (.bl true)) aNil))))) (sRet (eC (.bl false))) sNil)) (g := (B_law_floors_3)) (ps_ifF (pt_notF (pt_valF (pf_call (ok_law_told T) (hr.mono (by omega)) T.m_law_told T.F_law_told.kp T.b_law_told rfl (pa_consF (pf_call (ok_on_floor T) (hr.mono (by omega)) T.m_on_floor T.F_on_floor.kp T.b_on_floor rfl (pa_consF (pf_v 0) (pa_consF (pf_v 1) (pa_consF (pf_v 2) pa_nilF)))) (pa_consF pf_bl pa_nilF))))) (pss_oneF (ps_retF pf_bl)) pss_nilF)
      (pss_consF (f := (sSet 6 (eCall 3 d_law_moved (aCons (eV 0) (aCons (eV 5) (aCons (eAdd (eSub (eV 4) (eIx (eIx (eV 0) (eC (.int 1))) (eV 5))) (eMod (eDiv (eV 3) (eC (.int 3))) (eC (.int 1000)))) aNil)))))) (g := (B_law_floors_4)) (ps_setF 6 sc_law_floors.nd (pf_call (ok_law_moved T) (hr.mono (by omega)) T.m_law_moved T.F_law_moved.kp T.b_law_moved rfl (pa_consF (pf_v 0) (pa_consF (pf_v 5) (pa_consF (pf_add (pf_sub (pf_v 4) (pf_ix (pf_ix (pf_v 0) pf_int) (pf_v 5))) (pf_mod (pf_div (pf_v 3) pf_int) pf_int)) pa_nilF)))))
      (pss_consF (f := (sSet 7 (eCall 3 d_law_moved (aCons (eV 0) (aCons (eV 5) (aCons (eSub (eSub (eNeg (eC (.int 1))) (eIx (eIx (eV 0) (eC (.int 0))) (eV 5))) (eMod (eDiv (eV 3) (eC (.int 3))) (eC (.int 1000)))) aNil)))))) (g := (B_law_floors_5)) (ps_setF 7 sc_law_floors.nd (pf_call (ok_law_moved T) (hr.mono (by omega)) T.m_law_moved T.F_law_moved.kp T.b_law_moved rfl (pa_consF (pf_v 0) (pa_consF (pf_v 5) (pa_consF (pf_sub (pf_sub (pf_neg pf_int) (pf_ix (pf_ix (pf_v 0) pf_int) (pf_v 5))) (pf_mod (pf_div (pf_v 3) pf_int) pf_int)) pa_nilF)))))
      (pss_consF (f := (sIf (tOrF (tNotF (tB1 (eCall 2 d_law_told (aCons (eCall 3 d_on_floor (aCons (eV 6) (aCons (eV 1) (aCons (eV 2) aNil)))) (aCons (eC (.bl false)) aNil))))) (tNotF (tB1 (eCall 2 d_law_told (aCons (eCall 3 d_on_floor (aCons (eV 7) (aCons (eV 1) (aCons (eV 2) aNil)))) (aCons (eC (.bl false)) aNil)))))) (sRet (eC (.bl false))) sNil)) (g := (B_law_floors_6)) (ps_ifF (pt_w (pw_orF (pt_notF (pt_valF (pf_call (ok_law_told T) (hr.mono (by omega)) T.m_law_told T.F_law_told.kp T.b_law_told rfl (pa_consF (pf_call (ok_on_floor T) (hr.mono (by omega)) T.m_on_floor T.F_on_floor.kp T.b_on_floor rfl (pa_consF (pf_v 6) (pa_consF (pf_v 1) (pa_consF (pf_v 2) pa_nilF)))) (pa_consF pf_bl pa_nilF))))) (pw_or1F (pt_notF (pt_valF (pf_call (ok_law_told T) (hr.mono (by omega)) T.m_law_told T.F_law_told.kp T.b_law_told rfl (pa_consF (pf_call (ok_on_floor T) (hr.mono (by omega)) T.m_on_floor T.F_on_floor.kp T.b_on_floor rfl (pa_consF (pf_v 7) (pa_consF (pf_v 1) (pa_consF (pf_v 2) pa_nilF)))) (pa_consF pf_bl pa_nilF)))))))) (pss_oneF (ps_retF pf_bl)) pss_nilF)
      (pss_consF (f := (sSet 8 (eTup (aCons (eTCut (eIx (eV 0) (eC (.int 0))) oNo (oSome (eC (.int 2)))) (aCons (eTCut (eIx (eV 0) (eC (.int 1))) oNo (oSome (eC (.int 2)))) aNil))))) (g := (B_law_floors_7)) (ps_setF 8 sc_law_floors.nd (pf_tup (pa_consF (pf_tcut (pf_ix (pf_v 0) pf_int) po_no (po_sm pf_int)) (pa_consF (pf_tcut (pf_ix (pf_v 0) pf_int) po_no (po_sm pf_int)) pa_nilF))))
      (pss_consF (f := (sIf (eB2 gEq (eV 1) (eC (.int 2))) (sSet 8 (eTup (aCons (eTCat (eIx (eV 0) (eC (.int 0))) (eTup (aCons (eC (.int 0)) aNil))) (aCons (eTCat (eIx (eV 0) (eC (.int 1))) (eTup (aCons (eC (.int 0)) aNil))) aNil)))) sNil)) (g := (B_law_floors_8)) (ps_ifF (pt_cmpF cm_eq (pf_v 1) pf_int) (pss_oneF (ps_setF 8 sc_law_floors.nd (pf_tup (pa_consF (pf_tcat (pf_ix (pf_v 0) pf_int) (pf_tup (pa_consF pf_int pa_nilF))) (pa_consF (pf_tcat (pf_ix (pf_v 0) pf_int) (pf_tup (pa_consF pf_int pa_nilF))) pa_nilF))))) pss_nilF)
      (pss_oneF (ps_retF (pf_and (pf_call (ok_law_told T) (hr.mono (by omega)) T.m_law_told T.F_law_told.kp T.b_law_told rfl (pa_consF (pf_call (ok_on_floor T) (hr.mono (by omega)) T.m_on_floor T.F_on_floor.kp T.b_on_floor rfl (pa_consF (pf_v 8) (pa_consF (pf_v 1) (pa_consF (pf_v 2) pa_nilF)))) (pa_consF pf_bl pa_nilF))) (pf_one (pf_call (ok_law_told T) (hr.mono (by omega)) T.m_law_told T.F_law_told.kp T.b_law_told rfl (pa_consF (pf_call (ok_on_floor T) (hr.mono (by omega)) T.m_on_floor T.F_on_floor.kp T.b_on_floor rfl (pa_consF (pf_v 8) (pa_consF (pf_sub pf_int (pf_v 1)) (pa_consF (pf_v 2) pa_nilF)))) (pa_consF pf_bl pa_nilF)))))))))))))))
/-! ### _law_whole -/
theorem sc_law_whole : FnScope ["_law_found"] ["_law_found"] (defScope s_law_whole) := ⟨rfl, rfl, rfl, by decide +kernel, rfl, by decide +kernel, by decide +kernel⟩
def B_law_whole_0 : Sf := (sRet (eAndV (isTy isInt (eV 0)) (eOfT (tNotF (tB1 (isTy isBool (eV 0)))))))
def b_law_whole : Sf :=
    (B_law_whole_0)
def d_law_whole : List D → Option D := fnF 1 b_law_whole
theorem ok_law_whole (T : Txt K mg) : FnOk P w K mg base CX0 1 T.f_law_whole T.fd_law_whole ["_law_found"] (spF K 1 d_law_whole) :=
  ok_fn (k := 0) T.F_law_whole sc_law_whole fun cdv A outer s H E hr =>
    (pss_oneF (ps_retF (pf_and (pf_isi (T := "int") (TT := "int") rfl hq_int rfl T.z_isinstance rfl T.z_int (pf_v 0)) (pf_one (pf_not (pf_isi (T := "bool") (TT := "bool") rfl hq_bool rfl T.z_isinstance rfl T.z_bool (pf_v 0)))))))
/-! ### _law_far -/
theorem sc_law_far : FnScope ["_law_place_here", "_law_box_here", "_law_far_here", "_law_k"] ["_law_place_here", "_law_box_here"] (defScope s_law_far) := ⟨rfl, rfl, rfl, by decide +kernel, rfl, by decide +kernel, by decide +kernel⟩
def L1_law_far_1 : Sf := (sIf (eB2 gGt (eIx (eV 0) (eV 3)) (eIx (eIx (eV 1) (eC (.int 1))) (eV 3))) (sSet 2 (eMax (eV 2) (eSub (eIx (eV 0) (eV 3)) (eIx (eIx (eV 1) (eC (.int 1))) (eV 3))))) sNil)
def L1_law_far_0 : Sf := (sSeq (sIf (eB2 gLt (eIx (eV 0) (eV 3)) (eIx (eIx (eV 1) (eC (.int 0))) (eV 3))) (sSet 2 (eMax (eV 2) (eSub (eIx (eIx (eV 1) (eC (.int 0))) (eV 3)) (eIx (eV 0) (eV 3))))) sNil)
    (L1_law_far_1))
def B_law_far_2 : Sf := (sRet (eV 2))
def B_law_far_1 : Sf := (sSeq (sFor (iR (eLen (eV 0))) (gN 3) (L1_law_far_0))
    (B_law_far_2))
def B_law_far_0 : Sf := (sSeq (sSet 2 (eC (.int 0)))
    (B_law_far_1))
def b_law_far : Sf :=
    (B_law_far_0)
def d_law_far : List D → Option D := fnF 4 b_law_far
theorem ok_law_far (T : Txt K mg) : FnOk P w K mg base CX0 1 T.f_law_far T.fd_law_far ["_law_place_here", "_law_box_here"] (spF K 2 d_law_far) :=
  ok_fn (k := 0) T.F_law_far sc_law_far fun cdv A outer s H E hr =>
    (pss_consF (f := (sSet 2 (eC (.int 0)))) (g := (B_law_far_1)) (ps_setF 2 sc_law_far.nd pf_int)
      (pss_consF (f := (sFor (iR (eLen (eV 0))) (gN 3) (L1_law_far_0))) (g := (B_law_far_2)) (ps_forF PassesOwn.never rfl (pi_r rfl T.z_range (pf_len rfl T.z_len (pf_v 0))) (pg_n 3 sc_law_far.nd) (pss_consF (f := (sIf (eB2 gLt (eIx (eV 0) (eV 3)) (eIx (eIx (eV 1) (eC (.int 0))) (eV 3))) (sSet 2 (eMax (eV 2) (eSub (eIx (eIx (eV 1) (eC (.int 0))) (eV 3)) (eIx (eV 0) (eV 3))))) sNil)) (g := (L1_law_far_1)) (ps_ifF (pt_cmpF cm_lt (pf_ix (pf_v 0) (pf_v 3)) (pf_ix (pf_ix (pf_v 1) pf_int) (pf_v 3))) (pss_oneF (ps_setF 2 sc_law_far.nd (pf_max rfl rfl T.z_max (pf_v 2) (pf_sub (pf_ix (pf_ix (pf_v 1) pf_int) (pf_v 3)) (pf_ix (pf_v 0) (pf_v 3)))))) pss_nilF)
      (pss_oneF (ps_ifF (pt_cmpF cm_gt (pf_ix (pf_v 0) (pf_v 3)) (pf_ix (pf_ix (pf_v 1) pf_int) (pf_v 3))) (pss_oneF (ps_setF 2 sc_law_far.nd (pf_max rfl rfl T.z_max (pf_v 2) (pf_sub (pf_ix (pf_v 0) (pf_v 3)) (pf_ix (pf_ix (pf_v 1) pf_int) (pf_v 3)))))) pss_nilF))))
      (pss_oneF (ps_retF (pf_v 2)))))
/-! ### not_beyond -/
theorem sc_not_beyond : FnScope ["low", "high"] ["low", "high"] (defScope s_not_beyond) := ⟨rfl, rfl, rfl, by decide +kernel, rfl, by decide +kernel, by decide +kernel⟩
def B_not_beyond_0 : Sf := (sRet (eAll (eL (lComp (iZip (eV 0) (eV 1)) 2 [] (gT (gsCons (gN 0) (gsCons (gN 1) gsNil))) tOK (eOfT (eB2 gLe (eV 0) (eV 1)))))))
def b_not_beyond : Sf :=
    (B_not_beyond_0)
def d_not_beyond : List D → Option D := fnF 2 b_not_beyond
theorem ok_not_beyond (T : Txt K mg) : FnOk P w K mg base CX0 1 T.f_not_beyond T.fd_not_beyond ["low", "high"] (spF K 2 d_not_beyond) :=
  ok_fn (k := 0) T.F_not_beyond sc_not_beyond fun cdv A outer s H E hr =>
    (pss_oneF (ps_retF (pf_all rfl rfl T.z_all (pf_l (pl_comp (defScope s_not_beyond) ["low", "high"] ["least", "most"] [] [] (go_t (gso_cons (go_n 0) (gso_cons (go_n 1) gso_nil))) (pi_zip rfl T.z_zip (pf_v 0) (pf_v 1)) rfl rfl rfl (by decide +kernel) (fun _ _ _ _ => (pg_t 2 rfl (pgs_consF (pg_n 0 (show (List.Nodup (α := PySem.Str) ["least", "most"]) from by decide +kernel)) (pgs_consF (pg_n 1 (show (List.Nodup (α := PySem.Str) ["least", "most"]) from by decide +kernel)) pgs_nilF)) (gs_len1 (gs_len1 gs_len0)))) (fun _ _ _ _ => pifs_nilF) (fun _ _ _ _ => (pf_cmp cm_le (pf_v 0) (pf_v 1))))))))
/-! ### holds -/
theorem sc_holds : FnScope ["box", "place", "low", "high"] ["box", "place"] (defScope s_holds) := ⟨rfl, rfl, rfl, by decide +kernel, rfl, by decide +kernel, by decide +kernel⟩
def B_holds_1 : Sf := (sRet (eAndV (eCall 2 d_not_beyond (aCons (eV 2) (aCons (eV 1) aNil))) (eCall 2 d_not_beyond (aCons (eV 1) (aCons (eV 3) aNil)))))
def B_holds_0 : Sf := (sSeq (sAsg (eV 0) (gT (gsCons (gN 2) (gsCons (gN 3) gsNil))))
    (B_holds_1))
def b_holds : Sf :=
    (B_holds_0)
def d_holds : List D → Option D := fnF 4 b_holds
theorem ok_holds (T : Txt K mg) : FnOk P w K mg base CX0 2 T.f_holds T.fd_holds ["box", "place"] (spF K 2 d_holds) :=
  ok_fn (k := 1) T.F_holds sc_holds fun cdv A outer s H E hr =>
    (pss_consF (f := (sAsg (eV 0) (gT (gsCons (gN 2) (gsCons (gN 3) gsNil))))) (g := (B_holds_1)) (ps_asgF (pf_v 0) (pg_t 2 rfl (pgs_consF (pg_n 2 sc_holds.nd) (pgs_consF (pg_n 3 sc_holds.nd) pgs_nilF)) (gs_len1 (gs_len1 gs_len0))))
      (pss_oneF (ps_retF (pf_and (pf_call (ok_not_beyond T) (hr.mono (by omega)) T.m_not_beyond T.F_not_beyond.kp T.b_not_beyond rfl (pa_consF (pf_v 2) (pa_consF (pf_v 1) pa_nilF))) (pf_one (pf_call (ok_not_beyond T) (hr.mono (by omega)) T.m_not_beyond T.F_not_beyond.kp T.b_not_beyond rfl (pa_consF (pf_v 1) (pa_consF (pf_v 3) pa_nilF))))))))
/-! ### _law_good -/
theorem sc_law_good : FnScope ["_law_cell", "_law_drawn", "_law_dims", "_law_level", "_law_box_here", "_law_by", "_law_found", "_law_side", "_law_low", "_law_high", "_law_place_here", "_law_far_here"] ["_law_cell"] (defScope s_law_good) := ⟨rfl, rfl, rfl, by decide +kernel, rfl, by decide +kernel, by decide +kernel⟩
def B_law_good_14 : Sf := (sRet (eAndV (eOfT (eB2 gEqD (eCall 2 d_holds (aCons (eV 6) (aCons (eV 10) aNil))) (eOfT (eB2 gLe (eV 11) (eV 5))))) (eOfT (eB2 gEqD (eCall 2 d_holds (aCons (eV 4) (aCons (eV 10) aNil))) (eOfT (eB2 gEqD (eV 11) (eC (.int 0))))))))
def B_law_good_13 : Sf := (sSeq (sIf (tOrF (tNotF (tB1 (eCall 1 d_law_whole (aCons (eV 11) aNil)))) (eB2 gNeD (eV 11) (eCall 2 d_law_far (aCons (eV 10) (aCons (eV 4) aNil))))) (sRet (eC (.bl false))) sNil)
    (B_law_good_14))
def B_law_good_12 : Sf := (sSeq (sSet 11 (eCall 2 d_gap (aCons (eV 10) (aCons (eV 4) aNil))))
    (B_law_good_13))
def B_law_good_11 : Sf := (sSeq (sSet 10 (eCall 3 d_law_place (aCons (eV 0) (aCons (eV 4) (aCons (eV 3) aNil)))))
    (B_law_good_12))
def B_law_good_10 : Sf := (sSeq (sIf (tOrF (tNotF (tB1 (isTy isTup (eV 6)))) (eB2 gNeD (eV 6) (eTup (aCons (eV 8) (aCons (eV 9) aNil))))) (sRet (eC (.bl false))) sNil)
    (B_law_good_11))
def B_law_good_9 : Sf := (sSeq (sSet 9 (eTupOf (eL (lComp (iT (eIx (eV 4) (eC (.int 1)))) 1 [7, 5] (gN 0) tOK (eMin (eSub (eV 1) (eC (.int 1))) (eAdd (eV 0) (eV 2)))))))
    (B_law_good_10))
def B_law_good_8 : Sf := (sSeq (sSet 8 (eTupOf (eL (lComp (iT (eIx (eV 4) (eC (.int 0)))) 1 [5] (gN 0) tOK (eMax (eC (.int 0)) (eSub (eV 0) (eV 1)))))))
    (B_law_good_9))
def B_law_good_7 : Sf := (sSeq (sSet 7 (eShl (eC (.int 1)) (eV 3)))
    (B_law_good_8))
def B_law_good_6 : Sf := (sSeq (sSet 6 (eCall 3 d_grown (aCons (eV 4) (aCons (eV 5) (aCons (eV 3) aNil)))))
    (B_law_good_7))
def B_law_good_5 : Sf := (sSeq (sSet 5 (eIx (eL (lDisp (aCons (eMod (eV 0) (eC (.int 6))) (aCons (eMod (eV 0) (eC (.int 6))) (aCons (eShl (eC (.int 1)) (eV 3)) (aCons (eMod (eV 0) (ePow (eC (.int 10)) (eC (.int 20)))) aNil)))))) (eMod (eDiv (eV 1) (eC (.int 20))) (eC (.int 4)))))
    (B_law_good_6))
def B_law_good_4 : Sf := (sSeq (sIf (tNotF (tB1 (eCall 4 d_law_floors (aCons (eV 4) (aCons (eV 2) (aCons (eV 3) (aCons (eMod (eV 0) (ePow (eC (.int 10)) (eC (.int 9)))) aNil))))))) (sRet (eC (.bl false))) sNil)
    (B_law_good_5))
def B_law_good_3 : Sf := (sSeq (sSet 4 (eCall 4 d_law_box (aCons (eV 0) (aCons (eV 2) (aCons (eV 3) (aCons (eC (.int 5)) aNil))))))
    (B_law_good_4))
def B_law_good_2 : Sf := (sSeq (sSet 3 (eIx (eL (lDisp (aCons (eC (.int 0)) (aCons (eC (.int 1)) (aCons (eC (.int 2)) (aCons (eC (.int 3)) (aCons (eC (.int 5)) (aCons (eC (.int 7)) (aCons (eC (.int 17)) (aCons (eC (.int 31)) (aCons (eC (.int 59)) (aCons (eC (.int 60)) aNil)))))))))))) (eMod (eDiv (eV 1) (eC (.int 2))) (eC (.int 10)))))
    (B_law_good_3))
def B_law_good_1 : Sf := (sSeq (sSet 2 (eAdd (eC (.int 2)) (eMod (eV 1) (eC (.int 2)))))
    (B_law_good_2))
def B_law_good_0 : Sf := (sSeq (sSet 1 (eCall 3 d_law_mix (aCons (eV 0) (aCons (eC (.int 0)) (aCons (eC (.int 1000003)) aNil)))))
    (B_law_good_1))
def b_law_good : Sf :=
    (B_law_good_0)
def d_law_good : List D → Option D := fnF 12 b_law_good
theorem ok_law_good (T : Txt K mg) : FnOk P w K mg base CX0 5 T.f_law_good T.fd_law_good ["_law_cell"] (spF K 1 d_law_good) :=
  ok_fn (k := 4) T.F_law_good sc_law_good fun cdv A outer s H E hr =>
    (pss_consF (f := (sSet 1 (eCall 3 d_law_mix (aCons (eV 0) (aCons (eC (.int 0)) (aCons (eC (.int 1000003)) aNil)))))) (g := (B_law_good_1)) (ps_setF 1 sc_law_good.nd (pf_call (ok_law_mix T) (hr.mono (by omega)) T.m_law_mix T.F_law_mix.kp T.b_law_mix rfl (pa_consF (pf_v 0) (pa_consF pf_int (pa_consF pf_int pa_nilF)))))
      (pss_consF (f := (sSet 2 (eAdd (eC (.int 2)) (eMod (eV 1) (eC (.int 2)))))) (g := (B_law_good_2)) (ps_setF 2 sc_law_good.nd (pf_add pf_int (pf_mod (pf_v 1) pf_int)))
      (pss_consF (f := (sSet 3 (eIx (eL (lDisp (aCons (eC (.int 0)) (aCons (eC (.int 1)) (aCons (eC (.int 2)) (aCons (eC (.int 3)) (aCons (eC (.int 5)) (aCons (eC (.int 7)) (aCons (eC (.int 17)) (aCons (eC (.int 31)) (aCons (eC (.int 59)) (aCons (eC (.int 60)) aNil)))))))))))) (eMod (eDiv (eV 1) (eC (.int 2))) (eC (.int 10)))))) (g := (B_law_good_3)) (ps_setF 3 sc_law_good.nd (pf_ix (pf_l (pl_disp (pa_consF pf_int (pa_consF pf_int (pa_consF pf_int (pa_consF pf_int (pa_consF pf_int (pa_consF pf_int (pa_consF pf_int (pa_consF pf_int (pa_consF pf_int (pa_consF pf_int pa_nilF)))))))))))) (pf_mod (pf_div (pf_v 1) pf_int) pf_int)))
      (pss_consF (f := (sSet 4 (eCall 4 d_law_box (aCons (eV 0) (aCons (eV 2) (aCons (eV 3) (aCons (eC (.int 5)) aNil))))))) (g := (B_law_good_4)) (ps_setF 4 sc_law_good.nd (pf_call (ok_law_box T) (hr.mono (by omega)) T.m_law_box T.F_law_box.kp T.b_law_box rfl (pa_consF (pf_v 0) (pa_consF (pf_v 2) (pa_consF (pf_v 3) (pa_consF pf_int pa_nilF))))))
      (pss_consF (f := (sIf (tNotF (tB1 (eCall 4 d_law_floors (aCons (eV 4) (aCons (eV 2) (aCons (eV 3) (aCons (eMod (eV 0) (ePow (eC (.int 10)) (eC (.int 9)))) aNil))))))) (sRet (eC (.bl false))) sNil)) (g := (B_law_good_5)) (ps_ifF (pt_notF (pt_valF (pf_call (ok_law_floors T) (hr.mono (by omega)) T.m_law_floors T.F_law_floors.kp T.b_law_floors rfl (pa_consF (pf_v 4) (pa_consF (pf_v 2) (pa_consF (pf_v 3) (pa_consF (pf_mod (pf_v 0) (pf_pow pf_int pf_int)) pa_nilF))))))) (pss_oneF (ps_retF pf_bl)) pss_nilF)
      (pss_consF (f := (sSet 5 (eIx (eL (lDisp (aCons (eMod (eV 0) (eC (.int 6))) (aCons (eMod (eV 0) (eC (.int 6))) (aCons (eShl (eC (.int 1)) (eV 3)) (aCons (eMod (eV 0) (ePow (eC (.int 10)) (eC (.int 20)))) aNil)))))) (eMod (eDiv (eV 1) (eC (.int 20))) (eC (.int 4)))))) (g := (B_law_good_6)) (ps_setF 5 sc_law_good.nd (pf_ix (pf_l (pl_disp (pa_consF (pf_mod (pf_v 0) pf_int) (pa_consF (pf_mod (pf_v 0) pf_int) (pa_consF (pf_shl pf_int (pf_v 3)) (pa_consF (pf_mod (pf_v 0) (pf_pow pf_int pf_int)) pa_nilF)))))) (pf_mod (pf_div (pf_v 1) pf_int) pf_int)))
      (pss_consF (f := (sSet 6 (eCall 3 d_grown (aCons (eV 4) (aCons (eV 5) (aCons (eV 3) aNil)))))) (g := (B_law_good_7)) (ps_setF 6 sc_law_good.nd (pf_call (ok_grown T) (hr.mono (by omega)) T.m_grown T.F_grown.kp T.b_grown rfl (pa_consF (pf_v 4) (pa_consF (pf_v 5) (pa_consF (pf_v 3) pa_nilF)))))
      (pss_consF (f := (sSet 7 (eShl (eC (.int 1)) (eV 3)))) (g := (B_law_good_8)) (ps_setF 7 sc_law_good.nd (pf_shl pf_int (pf_v 3)))
      (pss_consF (f := (sSet 8 (eTupOf (eL (lComp (iT (eIx (eV 4) (eC (.int 0)))) 1 [5] (gN 0) tOK (eMax (eC (.int 0)) (eSub (eV 0) (eV 1)))))))) (g := (B_law_good_9)) (ps_setF 8 sc_law_good.nd (pf_tupOf rfl T.z_tuple (pf_l (pl_comp (defScope s_law_good) ["_law_cell", "_law_drawn", "_law_dims", "_law_level", "_law_box_here", "_law_by", "_law_found", "_law_side", "_law_low", "_law_high", "_law_place_here", "_law_far_here"] ["_law_at"] ["_law_by"] [5] (go_n 0) (pi_t (pf_ix (pf_v 4) pf_int)) rfl rfl rfl (by decide +kernel) (fun _ _ _ _ => (pg_n 0 (show (List.Nodup (α := PySem.Str) ["_law_at", "_law_by"]) from by decide +kernel))) (fun _ _ _ _ => pifs_nilF) (fun _ _ _ _ => (pf_max rfl rfl T.z_max pf_int (pf_sub (pf_v 0) (pf_v 1))))))))
      (pss_consF (f := (sSet 9 (eTupOf (eL (lComp (iT (eIx (eV 4) (eC (.int 1)))) 1 [7, 5] (gN 0) tOK (eMin (eSub (eV 1) (eC (.int 1))) (eAdd (eV 0) (eV 2)))))))) (g := (B_law_good_10)) (ps_setF 9 sc_law_good.nd (pf_tupOf rfl T.z_tuple (pf_l (pl_comp (defScope s_law_good) ["_law_cell", "_law_drawn", "_law_dims", "_law_level", "_law_box_here", "_law_by", "_law_found", "_law_side", "_law_low", "_law_high", "_law_place_here", "_law_far_here"] ["_law_at"] ["_law_side", "_law_by"] [7, 5] (go_n 0) (pi_t (pf_ix (pf_v 4) pf_int)) rfl rfl rfl (by decide +kernel) (fun _ _ _ _ => (pg_n 0 (show (List.Nodup (α := PySem.Str) ["_law_at", "_law_side", "_law_by"]) from by decide +kernel))) (fun _ _ _ _ => pifs_nilF) (fun _ _ _ _ => (pf_min rfl rfl T.z_min (pf_sub (pf_v 1) pf_int) (pf_add (pf_v 0) (pf_v 2))))))))
      (pss_consF (f := (sIf (tOrF (tNotF (tB1 (isTy isTup (eV 6)))) (eB2 gNeD (eV 6) (eTup (aCons (eV 8) (aCons (eV 9) aNil))))) (sRet (eC (.bl false))) sNil)) (g := (B_law_good_11)) (ps_ifF (pt_w (pw_orF (pt_notF (pt_valF (pf_isi (T := "tuple") (TT := "tuple") rfl hq_tup rfl T.z_isinstance rfl T.z_tuple (pf_v 6)))) (pw_or1F (pt_cmpF (cm_neD hr) (pf_v 6) (pf_tup (pa_consF (pf_v 8) (pa_consF (pf_v 9) pa_nilF))))))) (pss_oneF (ps_retF pf_bl)) pss_nilF)
      (pss_consF (f := (sSet 10 (eCall 3 d_law_place (aCons (eV 0) (aCons (eV 4) (aCons (eV 3) aNil)))))) (g := (B_law_good_12)) (ps_setF 10 sc_law_good.nd (pf_call (ok_law_place T) (hr.mono (by omega)) T.m_law_place T.F_law_place.kp T.b_law_place rfl (pa_consF (pf_v 0) (pa_consF (pf_v 4) (pa_consF (pf_v 3) pa_nilF)))))
      (pss_consF (f := (sSet 11 (eCall 2 d_gap (aCons (eV 10) (aCons (eV 4) aNil))))) (g := (B_law_good_13)) (ps_setF 11 sc_law_good.nd (pf_call (ok_gap T) (hr.mono (by omega)) T.m_gap T.F_gap.kp T.b_gap rfl (pa_consF (pf_v 10) (pa_consF (pf_v 4) pa_nilF))))
      (pss_consF (f := (sIf (tOrF (tNotF (tB1 (eCall 1 d_law_whole (aCons (eV 11) aNil)))) (eB2 gNeD (eV 11) (eCall 2 d_law_far (aCons (eV 10) (aCons (eV 4) aNil))))) (sRet (eC (.bl false))) sNil)) (g := (B_law_good_14)) (ps_ifF (pt_w (pw_orF (pt_notF (pt_valF (pf_call (ok_law_whole T) (hr.mono (by omega)) T.m_law_whole T.F_law_whole.kp T.b_law_whole rfl (pa_consF (pf_v 11) pa_nilF)))) (pw_or1F (pt_cmpF (cm_neD hr) (pf_v 11) (pf_call (ok_law_far T) (hr.mono (by omega)) T.m_law_far T.F_law_far.kp T.b_law_far rfl (pa_consF (pf_v 10) (pa_consF (pf_v 4) pa_nilF))))))) (pss_oneF (ps_retF pf_bl)) pss_nilF)
      (pss_oneF (ps_retF (pf_and (pf_cmp (cm_eqD hr) (pf_call (ok_holds T) (hr.mono (by omega)) T.m_holds T.F_holds.kp T.b_holds rfl (pa_consF (pf_v 6) (pa_consF (pf_v 10) pa_nilF))) (pf_cmp cm_le (pf_v 11) (pf_v 5))) (pf_one (pf_cmp (cm_eqD hr) (pf_call (ok_holds T) (hr.mono (by omega)) T.m_holds T.F_holds.kp T.b_holds rfl (pa_consF (pf_v 4) (pa_consF (pf_v 10) pa_nilF))) (pf_cmp (cm_eqD hr) (pf_v 11) pf_int))))))))))))))))))))
/-! ### law -/
theorem sc_law : FnScope ["_law_script", "_law_cell"] ["_law_script"] (defScope s_law) := ⟨rfl, rfl, rfl, by decide +kernel, rfl, by decide +kernel, by decide +kernel⟩
def L1_law_0 : Sf := (sIf (tNotF (tB1 (eCall 1 d_law_good (aCons (eV 1) aNil)))) (sRet (eC (.bl false))) sNil)
def B_law_1 : Sf := (sRet (eC (.bl true)))
def B_law_0 : Sf := (sSeq (sFor (lCat (lDisp (aCons (eLen (eV 0)) aNil)) (lSlice (eV 0) oNo (oSome (eC (.int 60))))) (gN 1) (L1_law_0))
    (B_law_1))
def b_law : Sf :=
    (B_law_0)
def d_law : List D → Option D := fnF 2 b_law
theorem ok_law (T : Txt K mg) : FnOk P w K mg base CX0 6 T.f_law T.fd_law ["_law_script"] (spF K 1 d_law) :=
  ok_fn (k := 5) T.F_law sc_law fun cdv A outer s H E hr =>
    (pss_consF (f := (sFor (lCat (lDisp (aCons (eLen (eV 0)) aNil)) (lSlice (eV 0) oNo (oSome (eC (.int 60))))) (gN 1) (L1_law_0))) (g := (B_law_1)) (ps_forF PassesOwn.never rfl (pi_lr (pl_cat (pl_disp (pa_consF (pf_len rfl T.z_len (pf_v 0)) pa_nilF)) (pl_slice (pf_v 0) po_no (po_sm pf_int)))) (pg_n 1 sc_law.nd) (pss_oneF (ps_ifF (pt_notF (pt_valF (pf_call (ok_law_good T) (hr.mono (by omega)) T.m_law_good T.F_law_good.kp T.b_law_good rfl (pa_consF (pf_v 1) pa_nilF)))) (pss_oneF (ps_retF pf_bl)) pss_nilF)))
      (pss_oneF (ps_retF pf_bl)))
end
theorem all_mk {l : PySem.W.OpenLaw} {w : World} {K : PySem.W.Frag} {h : Heap} {mg : Str → Option Value} {fa : Addr}
    {f0 : Addr} {od0 an0 : Option Addr} {sl0 : Array (Option Value)} {oc0 kV0 dc0 pm0 cd0 ct0 : Value}
    {f1 : Addr} {od1 an1 : Option Addr} {sl1 : Array (Option Value)} {oc1 kV1 dc1 pm1 cd1 ct1 : Value}
    {f2 : Addr} {od2 an2 : Option Addr} {sl2 : Array (Option Value)} {oc2 kV2 dc2 pm2 cd2 ct2 : Value}
    {f3 : Addr} {od3 an3 : Option Addr} {sl3 : Array (Option Value)} {oc3 kV3 dc3 pm3 cd3 ct3 : Value}
    {f4 : Addr} {od4 an4 : Option Addr} {sl4 : Array (Option Value)} {oc4 kV4 dc4 pm4 cd4 ct4 : Value}
    {f5 : Addr} {od5 an5 : Option Addr} {sl5 : Array (Option Value)} {oc5 kV5 dc5 pm5 cd5 ct5 : Value}
    {f6 : Addr} {od6 an6 : Option Addr} {sl6 : Array (Option Value)} {oc6 kV6 dc6 pm6 cd6 ct6 : Value}
    {f7 : Addr} {od7 an7 : Option Addr} {sl7 : Array (Option Value)} {oc7 kV7 dc7 pm7 cd7 ct7 : Value}
    {f8 : Addr} {od8 an8 : Option Addr} {sl8 : Array (Option Value)} {oc8 kV8 dc8 pm8 cd8 ct8 : Value}
    {f9 : Addr} {od9 an9 : Option Addr} {sl9 : Array (Option Value)} {oc9 kV9 dc9 pm9 cd9 ct9 : Value}
    {f10 : Addr} {od10 an10 : Option Addr} {sl10 : Array (Option Value)} {oc10 kV10 dc10 pm10 cd10 ct10 : Value}
    {f11 : Addr} {od11 an11 : Option Addr} {sl11 : Array (Option Value)} {oc11 kV11 dc11 pm11 cd11 ct11 : Value}
    {f12 : Addr} {od12 an12 : Option Addr} {sl12 : Array (Option Value)} {oc12 kV12 dc12 pm12 cd12 ct12 : Value}
    {f13 : Addr} {od13 an13 : Option Addr} {sl13 : Array (Option Value)} {oc13 kV13 dc13 pm13 cd13 ct13 : Value}
    {f14 : Addr} {od14 an14 : Option Addr} {sl14 : Array (Option Value)} {oc14 kV14 dc14 pm14 cd14 ct14 : Value}
    {f15 : Addr} {od15 an15 : Option Addr} {sl15 : Array (Option Value)} {oc15 kV15 dc15 pm15 cd15 ct15 : Value}
    {f16 : Addr} {od16 an16 : Option Addr} {sl16 : Array (Option Value)} {oc16 kV16 dc16 pm16 cd16 ct16 : Value}
    {f17 : Addr} {od17 an17 : Option Addr} {sl17 : Array (Option Value)} {oc17 kV17 dc17 pm17 cd17 ct17 : Value} (X : K.In h) (G : h.Ns mainGlobals mg) (hfa : mg "law" = some (.ref fa))
    (a0 : PySem.W.nsIn K mainGlobals "_law_mix" = some (some (.ref f0))) (l0 : K.lookup f0 = some ⟨oc0, od0, .func (PySem.W.fnOf "_law_mix" "_law_mix" (defArgs s_law_mix) (defBody s_law_mix) (defScope s_law_mix) .none kV0 dc0 pm0 an0 cd0 ct0), sl0⟩) (c0 : PySem.W.codeIn K cd0 "_law_mix" = true) (k0 : PySem.W.keepIn K (.ref f0) = true)
    (a1 : PySem.W.nsIn K mainGlobals "_law_large" = some (some (.ref f1))) (l1 : K.lookup f1 = some ⟨oc1, od1, .func (PySem.W.fnOf "_law_large" "_law_large" (defArgs s_law_large) (defBody s_law_large) (defScope s_law_large) .none kV1 dc1 pm1 an1 cd1 ct1), sl1⟩) (c1 : PySem.W.codeIn K cd1 "_law_large" = true) (k1 : PySem.W.keepIn K (.ref f1) = true)
    (a2 : PySem.W.nsIn K mainGlobals "_law_box" = some (some (.ref f2))) (l2 : K.lookup f2 = some ⟨oc2, od2, .func (PySem.W.fnOf "_law_box" "_law_box" (defArgs s_law_box) (defBody s_law_box) (defScope s_law_box) .none kV2 dc2 pm2 an2 cd2 ct2), sl2⟩) (c2 : PySem.W.codeIn K cd2 "_law_box" = true) (k2 : PySem.W.keepIn K (.ref f2) = true)
    (a3 : PySem.W.nsIn K mainGlobals "full" = some (some (.ref f3))) (l3 : K.lookup f3 = some ⟨oc3, od3, .func (PySem.W.fnOf "full" "full" (defArgs s_full) (defBody s_full) (defScope s_full) .none kV3 dc3 pm3 an3 cd3 ct3), sl3⟩) (c3 : PySem.W.codeIn K cd3 "full" = true) (k3 : PySem.W.keepIn K (.ref f3) = true)
    (a4 : PySem.W.nsIn K mainGlobals "grown" = some (some (.ref f4))) (l4 : K.lookup f4 = some ⟨oc4, od4, .func (PySem.W.fnOf "grown" "grown" (defArgs s_grown) (defBody s_grown) (defScope s_grown) .none kV4 dc4 pm4 an4 cd4 ct4), sl4⟩) (c4 : PySem.W.codeIn K cd4 "grown" = true) (k4 : PySem.W.keepIn K (.ref f4) = true)
    (a5 : PySem.W.nsIn K mainGlobals "_law_place" = some (some (.ref f5))) (l5 : K.lookup f5 = some ⟨oc5, od5, .func (PySem.W.fnOf "_law_place" "_law_place" (defArgs s_law_place) (defBody s_law_place) (defScope s_law_place) .none kV5 dc5 pm5 an5 cd5 ct5), sl5⟩) (c5 : PySem.W.codeIn K cd5 "_law_place" = true) (k5 : PySem.W.keepIn K (.ref f5) = true)
    (a6 : PySem.W.nsIn K mainGlobals "gap" = some (some (.ref f6))) (l6 : K.lookup f6 = some ⟨oc6, od6, .func (PySem.W.fnOf "gap" "gap" (defArgs s_gap) (defBody s_gap) (defScope s_gap) .none kV6 dc6 pm6 an6 cd6 ct6), sl6⟩) (c6 : PySem.W.codeIn K cd6 "gap" = true) (k6 : PySem.W.keepIn K (.ref f6) = true)
    (a7 : PySem.W.nsIn K mainGlobals "_law_moved" = some (some (.ref f7))) (l7 : K.lookup f7 = some ⟨oc7, od7, .func (PySem.W.fnOf "_law_moved" "_law_moved" (defArgs s_law_moved) (defBody s_law_moved) (defScope s_law_moved) .none kV7 dc7 pm7 an7 cd7 ct7), sl7⟩) (c7 : PySem.W.codeIn K cd7 "_law_moved" = true) (k7 : PySem.W.keepIn K (.ref f7) = true)
    (a8 : PySem.W.nsIn K mainGlobals "_law_told" = some (some (.ref f8))) (l8 : K.lookup f8 = some ⟨oc8, od8, .func (PySem.W.fnOf "_law_told" "_law_told" (defArgs s_law_told) (defBody s_law_told) (defScope s_law_told) .none kV8 dc8 pm8 an8 cd8 ct8), sl8⟩) (c8 : PySem.W.codeIn K cd8 "_law_told" = true) (k8 : PySem.W.keepIn K (.ref f8) = true)
    (a9 : PySem.W.nsIn K mainGlobals "has_place" = some (some (.ref f9))) (l9 : K.lookup f9 = some ⟨oc9, od9, .func (PySem.W.fnOf "has_place" "has_place" (defArgs s_has_place) (defBody s_has_place) (defScope s_has_place) .none kV9 dc9 pm9 an9 cd9 ct9), sl9⟩) (c9 : PySem.W.codeIn K cd9 "has_place" = true) (k9 : PySem.W.keepIn K (.ref f9) = true)
    (a10 : PySem.W.nsIn K mainGlobals "on_floor" = some (some (.ref f10))) (l10 : K.lookup f10 = some ⟨oc10, od10, .func (PySem.W.fnOf "on_floor" "on_floor" (defArgs s_on_floor) (defBody s_on_floor) (defScope s_on_floor) .none kV10 dc10 pm10 an10 cd10 ct10), sl10⟩) (c10 : PySem.W.codeIn K cd10 "on_floor" = true) (k10 : PySem.W.keepIn K (.ref f10) = true)
    (a11 : PySem.W.nsIn K mainGlobals "_law_floors" = some (some (.ref f11))) (l11 : K.lookup f11 = some ⟨oc11, od11, .func (PySem.W.fnOf "_law_floors" "_law_floors" (defArgs s_law_floors) (defBody s_law_floors) (defScope s_law_floors) .none kV11 dc11 pm11 an11 cd11 ct11), sl11⟩) (c11 : PySem.W.codeIn K cd11 "_law_floors" = true) (k11 : PySem.W.keepIn K (.ref f11) = true)
    (a12 : PySem.W.nsIn K mainGlobals "_law_whole" = some (some (.ref f12))) (l12 : K.lookup f12 = some ⟨oc12, od12, .func (PySem.W.fnOf "_law_whole" "_law_whole" (defArgs s_law_whole) (defBody s_law_whole) (defScope s_law_whole) .none kV12 dc12 pm12 an12 cd12 ct12), sl12⟩) (c12 : PySem.W.codeIn K cd12 "_law_whole" = true) (k12 : PySem.W.keepIn K (.ref f12) = true)
    (a13 : PySem.W.nsIn K mainGlobals "_law_far" = some (some (.ref f13))) (l13 : K.lookup f13 = some ⟨oc13, od13, .func (PySem.W.fnOf "_law_far" "_law_far" (defArgs s_law_far) (defBody s_law_far) (defScope s_law_far) .none kV13 dc13 pm13 an13 cd13 ct13), sl13⟩) (c13 : PySem.W.codeIn K cd13 "_law_far" = true) (k13 : PySem.W.keepIn K (.ref f13) = true)
    (a14 : PySem.W.nsIn K mainGlobals "not_beyond" = some (some (.ref f14))) (l14 : K.lookup f14 = some ⟨oc14, od14, .func (PySem.W.fnOf "not_beyond" "not_beyond" (defArgs s_not_beyond) (defBody s_not_beyond) (defScope s_not_beyond) .none kV14 dc14 pm14 an14 cd14 ct14), sl14⟩) (c14 : PySem.W.codeIn K cd14 "not_beyond" = true) (k14 : PySem.W.keepIn K (.ref f14) = true)
    (a15 : PySem.W.nsIn K mainGlobals "holds" = some (some (.ref f15))) (l15 : K.lookup f15 = some ⟨oc15, od15, .func (PySem.W.fnOf "holds" "holds" (defArgs s_holds) (defBody s_holds) (defScope s_holds) .none kV15 dc15 pm15 an15 cd15 ct15), sl15⟩) (c15 : PySem.W.codeIn K cd15 "holds" = true) (k15 : PySem.W.keepIn K (.ref f15) = true)
    (a16 : PySem.W.nsIn K mainGlobals "_law_good" = some (some (.ref f16))) (l16 : K.lookup f16 = some ⟨oc16, od16, .func (PySem.W.fnOf "_law_good" "_law_good" (defArgs s_law_good) (defBody s_law_good) (defScope s_law_good) .none kV16 dc16 pm16 an16 cd16 ct16), sl16⟩) (c16 : PySem.W.codeIn K cd16 "_law_good" = true) (k16 : PySem.W.keepIn K (.ref f16) = true)
    (a17 : PySem.W.nsIn K mainGlobals "law" = some (some (.ref f17))) (l17 : K.lookup f17 = some ⟨oc17, od17, .func (PySem.W.fnOf "law" "law" (defArgs s_law) (defBody s_law) (defScope s_law) .none kV17 dc17 pm17 an17 cd17 ct17), sl17⟩) (c17 : PySem.W.codeIn K cd17 "law" = true) (k17 : PySem.W.keepIn K (.ref f17) = true)
    (z_all : PySem.W.nsIn K mainGlobals "all" = some none)
    (z_bool : PySem.W.nsIn K mainGlobals "bool" = some none)
    (z_int : PySem.W.nsIn K mainGlobals "int" = some none)
    (z_isinstance : PySem.W.nsIn K mainGlobals "isinstance" = some none)
    (z_len : PySem.W.nsIn K mainGlobals "len" = some none)
    (z_max : PySem.W.nsIn K mainGlobals "max" = some none)
    (z_min : PySem.W.nsIn K mainGlobals "min" = some none)
    (z_range : PySem.W.nsIn K mainGlobals "range" = some none)
    (z_tuple : PySem.W.nsIn K mainGlobals "tuple" = some none)
    (z_zip : PySem.W.nsIn K mainGlobals "zip" = some none) :
    ∃ fd : FuncData, (∀ (s : Shared) (v : Value), BindsTo s fd ⟨[v], []⟩ [("_law_script", v)]) ∧ ∀ base : Heap, K.In base → base.Ns mainGlobals mg → FnOk l.prog w K mg base CX0 6 fa fd ["_law_script"] (spF K 1 d_law) := by
  have e := hfa.symm.trans (PySem.W.mg_of X G a17)
  cases e
  have F0 := fun_mk (st := s_law_mix) l0 c0 k0
  have b0 := F0.binds (ps := ["_law_cell", "_law_one", "_law_prime"]) fun _ _ _ _ _ _ us hl => match us, hl with | [_, _, _], _ => rfl
  have F1 := fun_mk (st := s_law_large) l1 c1 k1
  have b1 := F1.binds (ps := ["_law_cell", "_law_one", "_law_many"]) fun _ _ _ _ _ _ us hl => match us, hl with | [_, _, _], _ => rfl
  have F2 := fun_mk (st := s_law_box) l2 c2 k2
  have b2 := F2.binds (ps := ["_law_cell", "_law_dims", "_law_level", "_law_most"]) fun _ _ _ _ _ _ us hl => match us, hl with | [_, _, _, _], _ => rfl
  have F3 := fun_mk (st := s_full) l3 c3 k3
  have b3 := F3.binds (ps := ["dims", "level"]) fun _ _ _ _ _ _ us hl => match us, hl with | [_, _], _ => rfl
  have F4 := fun_mk (st := s_grown) l4 c4 k4
  have b4 := F4.binds (ps := ["box", "by", "level"]) fun _ _ _ _ _ _ us hl => match us, hl with | [_, _, _], _ => rfl
  have F5 := fun_mk (st := s_law_place) l5 c5 k5
  have b5 := F5.binds (ps := ["_law_cell", "_law_box_here", "_law_level"]) fun _ _ _ _ _ _ us hl => match us, hl with | [_, _, _], _ => rfl
  have F6 := fun_mk (st := s_gap) l6 c6 k6
  have b6 := F6.binds (ps := ["place", "box"]) fun _ _ _ _ _ _ us hl => match us, hl with | [_, _], _ => rfl
  have F7 := fun_mk (st := s_law_moved) l7 c7 k7
  have b7 := F7.binds (ps := ["_law_box_here", "_law_axis", "_law_by"]) fun _ _ _ _ _ _ us hl => match us, hl with | [_, _, _], _ => rfl
  have F8 := fun_mk (st := s_law_told) l8 c8 k8
  have b8 := F8.binds (ps := ["_law_found", "_law_due"]) fun _ _ _ _ _ _ us hl => match us, hl with | [_, _], _ => rfl
  have F9 := fun_mk (st := s_has_place) l9 c9 k9
  have b9 := F9.binds (ps := ["dims", "level", "place"]) fun _ _ _ _ _ _ us hl => match us, hl with | [_, _, _], _ => rfl
  have F10 := fun_mk (st := s_on_floor) l10 c10 k10
  have b10 := F10.binds (ps := ["box", "dims", "level"]) fun _ _ _ _ _ _ us hl => match us, hl with | [_, _, _], _ => rfl
  have F11 := fun_mk (st := s_law_floors) l11 c11 k11
  have b11 := F11.binds (ps := ["_law_box_here", "_law_dims", "_law_level", "_law_cell"]) fun _ _ _ _ _ _ us hl => match us, hl with | [_, _, _, _], _ => rfl
  have F12 := fun_mk (st := s_law_whole) l12 c12 k12
  have b12 := F12.binds (ps := ["_law_found"]) fun _ _ _ _ _ _ us hl => match us, hl with | [_], _ => rfl
  have F13 := fun_mk (st := s_law_far) l13 c13 k13
  have b13 := F13.binds (ps := ["_law_place_here", "_law_box_here"]) fun _ _ _ _ _ _ us hl => match us, hl with | [_, _], _ => rfl
  have F14 := fun_mk (st := s_not_beyond) l14 c14 k14
  have b14 := F14.binds (ps := ["low", "high"]) fun _ _ _ _ _ _ us hl => match us, hl with | [_, _], _ => rfl
  have F15 := fun_mk (st := s_holds) l15 c15 k15
  have b15 := F15.binds (ps := ["box", "place"]) fun _ _ _ _ _ _ us hl => match us, hl with | [_, _], _ => rfl
  have F16 := fun_mk (st := s_law_good) l16 c16 k16
  have b16 := F16.binds (ps := ["_law_cell"]) fun _ _ _ _ _ _ us hl => match us, hl with | [_], _ => rfl
  have F17 := fun_mk (st := s_law) l17 c17 k17
  have b17 := F17.binds (ps := ["_law_script"]) fun _ _ _ _ _ _ us hl => match us, hl with | [_], _ => rfl
  exact ⟨PySem.W.fnOf "law" "law" (defArgs s_law) (defBody s_law) (defScope s_law) .none kV17 dc17 pm17 an17 cd17 ct17, fun s v => .of_eq rfl, fun base _ _ => ok_law ({ f_law_mix := _, fd_law_mix := _, F_law_mix := F0, b_law_mix := b0, m_law_mix := PySem.W.mg_of X G a0, f_law_large := _, fd_law_large := _, F_law_large := F1, b_law_large := b1, m_law_large := PySem.W.mg_of X G a1, f_law_box := _, fd_law_box := _, F_law_box := F2, b_law_box := b2, m_law_box := PySem.W.mg_of X G a2, f_full := _, fd_full := _, F_full := F3, b_full := b3, m_full := PySem.W.mg_of X G a3, f_grown := _, fd_grown := _, F_grown := F4, b_grown := b4, m_grown := PySem.W.mg_of X G a4, f_law_place := _, fd_law_place := _, F_law_place := F5, b_law_place := b5, m_law_place := PySem.W.mg_of X G a5, f_gap := _, fd_gap := _, F_gap := F6, b_gap := b6, m_gap := PySem.W.mg_of X G a6, f_law_moved := _, fd_law_moved := _, F_law_moved := F7, b_law_moved := b7, m_law_moved := PySem.W.mg_of X G a7, f_law_told := _, fd_law_told := _, F_law_told := F8, b_law_told := b8, m_law_told := PySem.W.mg_of X G a8, f_has_place := _, fd_has_place := _, F_has_place := F9, b_has_place := b9, m_has_place := PySem.W.mg_of X G a9, f_on_floor := _, fd_on_floor := _, F_on_floor := F10, b_on_floor := b10, m_on_floor := PySem.W.mg_of X G a10, f_law_floors := _, fd_law_floors := _, F_law_floors := F11, b_law_floors := b11, m_law_floors := PySem.W.mg_of X G a11, f_law_whole := _, fd_law_whole := _, F_law_whole := F12, b_law_whole := b12, m_law_whole := PySem.W.mg_of X G a12, f_law_far := _, fd_law_far := _, F_law_far := F13, b_law_far := b13, m_law_far := PySem.W.mg_of X G a13, f_not_beyond := _, fd_not_beyond := _, F_not_beyond := F14, b_not_beyond := b14, m_not_beyond := PySem.W.mg_of X G a14, f_holds := _, fd_holds := _, F_holds := F15, b_holds := b15, m_holds := PySem.W.mg_of X G a15, f_law_good := _, fd_law_good := _, F_law_good := F16, b_law_good := b16, m_law_good := PySem.W.mg_of X G a16, f_law := _, fd_law := _, F_law := F17, b_law := b17, m_law := PySem.W.mg_of X G a17, z_all := PySem.W.mg_none_of X G z_all, z_bool := PySem.W.mg_none_of X G z_bool, z_int := PySem.W.mg_none_of X G z_int, z_isinstance := PySem.W.mg_none_of X G z_isinstance, z_len := PySem.W.mg_none_of X G z_len, z_max := PySem.W.mg_none_of X G z_max, z_min := PySem.W.mg_none_of X G z_min, z_range := PySem.W.mg_none_of X G z_range, z_tuple := PySem.W.mg_none_of X G z_tuple, z_zip := PySem.W.mg_none_of X G z_zip } : Txt K mg)⟩
theorem law_ok {K : PySem.W.Frag} {H : Hp} {a : Addr} {ns : List Int} (hS : SqL K H a (ns.map V.int)) (h : d_law [.lst (ns.map .int)] = some (.bl true)) : spF K 1 d_law [.ref a] H (fun v _ => v = .bl true) fun _ _ _ => False := by
  have rs : ∀ ns : List Int, Reps K H (ns.map .int) (ns.map V.int) := fun ns => by
    induction ns with
    | nil => exact reps_nil.mpr rfl
    | cons n r ih => exact reps_cons.mpr ⟨_, _, rfl, rep_int.mpr rfl, ih⟩
  exact ⟨H, [.lst (ns.map .int)], .bl true, Same.refl _, reps_cons.mpr ⟨_, _, rfl, rep_lst.mpr ⟨a, _, rfl, hS, rs ns⟩, reps_nil.mpr rfl⟩, rfl, h, fun v H' G' _ r => rep_bl.mp r⟩
end My

namespace My
open PySem L2
theorem seqif {t : Tf} {f g : Sf} {ρ : List B} {r : Option D} (h : t ρ = some false) (k : (g ρ).bind outD = r) : (sSeq (sIf t f sNil) g ρ).bind outD = r := seq_out (by unfold sIf; rw [h]; rfl) k
theorem seqset {i : Nat} {f : Ef} {g : Sf} {ρ : List B} {d : D} {r : Option D} (h : f ρ = some d) (k : (g (ρ.set i (.fz d))).bind outD = r) : (sSeq (sSet i f) g ρ).bind outD = r := seq_out (by unfold sSet; rw [h]; rfl) k
theorem setnx {i : Nat} {f : Ef} {g : Sf} {ρ : List B} {d : D} (h : f ρ = some d) : sSeq (sSet i f) g ρ = g (ρ.set i (.fz d)) := sSeq_nx (by unfold sSet; rw [h]; rfl)
theorem eI_eq {C : Int → Int → Bool} {g : Int → Int → Int} {fa fb : Ef} {ρ : List B} {i j : Int} (h1 : fa ρ = some (.int i)) (h2 : fb ρ = some (.int j)) (h : C i j = true) : eI C g fa fb ρ = some (.int (g i j)) := by
  unfold eI
  rw [h1, Option.bind_some, h2, Option.bind_some]
  show (if C i j then _ else none) = _
  rw [if_pos h]
theorem call1 {f : List D → Option D} {fa : Ef} {ρ : List B} {x : D} (h : fa ρ = some x) : eCall 1 f (aCons fa aNil) ρ = f [x] := eCall_eq (aCons_eq h rfl) rfl
theorem call2 {f : List D → Option D} {fa fb : Ef} {ρ : List B} {x y : D} (h1 : fa ρ = some x) (h2 : fb ρ = some y) : eCall 2 f (aCons fa (aCons fb aNil)) ρ = f [x, y] := eCall_eq (aCons_eq h1 (aCons_eq h2 rfl)) rfl
theorem call3 {f : List D → Option D} {fa fb fc : Ef} {ρ : List B} {x y z : D} (h1 : fa ρ = some x) (h2 : fb ρ = some y) (h3 : fc ρ = some z) : eCall 3 f (aCons fa (aCons fb (aCons fc aNil))) ρ = f [x, y, z] := eCall_eq (aCons_eq h1 (aCons_eq h2 (aCons_eq h3 rfl))) rfl
theorem call4 {f : List D → Option D} {fa fb fc fd : Ef} {ρ : List B} {x y z u : D} (h1 : fa ρ = some x) (h2 : fb ρ = some y) (h3 : fc ρ = some z) (h4 : fd ρ = some u) : eCall 4 f (aCons fa (aCons fb (aCons fc (aCons fd aNil)))) ρ = f [x, y, z, u] := eCall_eq (aCons_eq h1 (aCons_eq h2 (aCons_eq h3 (aCons_eq h4 rfl)))) rfl
theorem not_t {f : Ef} {ρ : List B} (h : f ρ = some (.bl true)) : tNotF (tB1 f) ρ = some false := by unfold tNotF tB1; rw [h]; rfl
theorem or_no {t u : Tf} {ρ : List B} (h1 : t ρ = some false) (h2 : u ρ = some false) : tOrF t u ρ = some false := by unfold tOrF; rw [h1]; exact h2
theorem and_yes {fa fb : Ef} {ρ : List B} (h1 : fa ρ = some (.bl true)) (h2 : fb ρ = some (.bl true)) : eAndV fa fb ρ = some (.bl true) := by unfold eAndV tB1; rw [h1]; exact h2
theorem and_no {fa fb : Ef} {ρ : List B} (h1 : fa ρ = some (.bl false)) : eAndV fa fb ρ = some (.bl false) := by unfold eAndV tB1; rw [h1]; rfl
/-! ### draws -/
theorem mix_eq (c k p : Int) (h0 : 0 ≤ k) (h1 : k ≤ 1000) (p0 : 1000000 ≤ p) (p1 : p ≤ 2000000) : ∃ v, 0 ≤ v ∧ d_law_mix [.int c, .int k, .int p] = some (.int v) := by
  have hc := Int.emod_nonneg c (show p ≠ 0 by omega)
  have hc' := Int.emod_lt_of_pos c (show 0 < p by omega)
  have hk : 0 ≤ 31 * k * k ∧ 31 * k * k ≤ 31000000 := by
    constructor
    · exact Int.mul_nonneg (by omega) h0
    · have : 31 * k * k ≤ 31000 * 1000 := Int.mul_le_mul (by omega) h1 h0 (by omega)
      omega
  have m1 : cMul 31 k = true := cMul_l (by decide) (by decide)
  have m2 : cMul (31 * k) k = true := cMul_l (by omega) (by omega)
  have m3 : cMul (c % p + 12345 + 31 * k * k + k) 48271 = true := cMul_r (by decide) (by decide)
  have d0 : decide (0 < p) = true := decide_eq_true (by omega)
  have hr := Int.emod_nonneg ((c % p + 12345 + 31 * k * k + k) * 48271) (show p ≠ 0 by omega)
  have hr' := Int.emod_lt_of_pos ((c % p + 12345 + 31 * k * k + k) * 48271) (show 0 < p by omega)
  generalize hq : (c % p + 12345 + 31 * k * k + k) * 48271 % p = q at hr hr'
  have m4 : cMul q q = true := cMul_l (by omega) (by omega)
  refine ⟨q * q % 998244353 / 3, by omega, ?_⟩
  show (B_law_mix_0 [.fz (.int c), .fz (.int k), .fz (.int p), .no]).bind outD = _
  unfold B_law_mix_0
  refine seqset (d := .int q) ?_ ?_
  · rw [← hq]
    exact eI_eq (eI_eq (eI_eq (eI_eq (eI_eq (eI_eq rfl rfl d0) rfl rfl) (eI_eq (eI_eq rfl rfl m1) rfl m2) rfl) rfl rfl) rfl m3) rfl d0
  · unfold B_law_mix_1 sRet
    rw [show eDiv (eMod (eMul (eV 3) (eV 3)) (eC (.int 998244353))) (eC (.int 3)) _ = some (.int (q * q % 998244353 / 3)) from eI_eq (eI_eq (eI_eq rfl rfl m4) rfl rfl) rfl rfl]
    rfl
theorem large_eq (c k m : Int) (h0 : 0 ≤ k) (h1 : k ≤ 1000) (hm : 1 ≤ m) : ∃ v, 0 ≤ v ∧ v < m ∧ d_law_large [.int c, .int k, .int m] = some (.int v) := by
  have b1 : cMulB 7919 k = true := by unfold cMulB; rw [cMul_l (by decide) (by decide)]; rfl
  have b2 : cMulB (7919 * k) k = true := by unfold cMulB; rw [cMul_l (by omega) (by omega)]; rfl
  generalize hw : c % 100000000000000000039 + 7919 * k * k + 77777 = w
  have b3 : cMulB w 69067 = true := by unfold cMulB; rw [cMul_r (by decide) (by decide)]; rfl
  have hr := Int.emod_nonneg (w * 69067) (show (100000000000000000039 : Int) ≠ 0 by decide)
  have hr' := Int.emod_lt_of_pos (w * 69067) (show (0 : Int) < 100000000000000000039 by decide)
  generalize hq : w * 69067 % 100000000000000000039 = q at hr hr'
  have b4 : cMulB q q = true := by
    have : q.natAbs < 2 ^ 1000 := Nat.lt_of_lt_of_le (show q.natAbs < 2 ^ 67 by omega) (Nat.pow_le_pow_right (by decide) (by decide))
    unfold cMulB; rw [decide_eq_true this]; simp
  have d0 : decide (0 < m) = true := decide_eq_true (by omega)
  refine ⟨q * q % 1000000000000000000000007 / 7 % m, Int.emod_nonneg _ (by omega), Int.emod_lt_of_pos _ (by omega), ?_⟩
  show (B_law_large_0 [.fz (.int c), .fz (.int k), .fz (.int m), .no]).bind outD = _
  unfold B_law_large_0
  refine seqset (d := .int w) ?_ ?_
  · rw [← hw]
    exact eI_eq (eI_eq (eI_eq rfl rfl rfl) (eI_eq (eI_eq rfl rfl b1) rfl b2) rfl) rfl rfl
  · unfold B_law_large_1
    refine seqset (d := .int q) ?_ ?_
    · rw [← hq]
      exact eI_eq (eI_eq rfl rfl b3) rfl rfl
    · unfold B_law_large_2 sRet
      rw [show eMod (eDiv (eMod (eMulB (eV 3) (eV 3)) (eC (.int 1000000000000000000000007))) (eC (.int 7))) (eV 2) _ = some (.int (q * q % 1000000000000000000000007 / 7 % m)) from eI_eq (eI_eq (eI_eq (eI_eq rfl rfl b4) rfl rfl) rfl rfl) rfl d0]
      rfl
/-! ### the floor -/
structure LV (v S : Int) : Prop where
  full : d_full [.int 1, .int v] = some (.int S)
  shl : ∀ {ρ : List B} {i : Nat}, eV i ρ = some (.int v) → eShl (eC (.int 1)) (eV i) ρ = some (.int S)
  pos : 1 ≤ S
theorem lv_of {v S : Int} (h1 : d_full [.int 1, .int v] = some (.int S)) (h2 : cPow 1 v = true) (h3 : 1 * 2 ^ v.toNat = S) (h4 : 1 ≤ S) : LV v S :=
  ⟨h1, fun {ρ i} e => by rw [← h3]; exact eI_eq rfl e h2, h4⟩
theorem levels (k : Int) (h0 : 0 ≤ k) (h1 : k < 10) : ∃ v S, atD (.lst [.int 0, .int 1, .int 2, .int 3, .int 5, .int 7, .int 17, .int 31, .int 59, .int 60]) (.int k) = some (.int v) ∧ LV v S := by
  have : k = 0 ∨ k = 1 ∨ k = 2 ∨ k = 3 ∨ k = 4 ∨ k = 5 ∨ k = 6 ∨ k = 7 ∨ k = 8 ∨ k = 9 := by omega
  rcases this with rfl | rfl | rfl | rfl | rfl | rfl | rfl | rfl | rfl | rfl
  · exact ⟨0, 1, rfl, lv_of (by kernel_rfl) rfl (by decide) (by decide)⟩
  · exact ⟨1, 2, rfl, lv_of (by kernel_rfl) rfl (by decide) (by decide)⟩
  · exact ⟨2, 4, rfl, lv_of (by kernel_rfl) rfl (by decide) (by decide)⟩
  · exact ⟨3, 8, rfl, lv_of (by kernel_rfl) rfl (by decide) (by decide)⟩
  · exact ⟨5, 32, rfl, lv_of (by kernel_rfl) rfl (by decide) (by decide)⟩
  · exact ⟨7, 128, rfl, lv_of (by kernel_rfl) rfl (by decide) (by decide)⟩
  · exact ⟨17, 131072, rfl, lv_of (by kernel_rfl) rfl (by decide) (by decide)⟩
  · exact ⟨31, 2147483648, rfl, lv_of (by kernel_rfl) rfl (by decide) (by decide)⟩
  · exact ⟨59, 576460752303423488, rfl, lv_of (by kernel_rfl) rfl (by decide) (by decide)⟩
  · exact ⟨60, 1152921504606846976, rfl, lv_of (by kernel_rfl) rfl (by decide) (by decide)⟩
/-! ### boxes drawn -/
theorem box_step {x0 x1 x2 : B} {c S k : Int} {ls hs : List D} {x8 x9 x10 x11 x12 : B} (hx : x0 = .fz (.int c)) (hS : 1 ≤ S) (h0 : 0 ≤ k) (h1 : k ≤ 100) (hl : (ls.length : Int) = k) (hh : hs.length ≤ 100) :
    ∃ l h y8 y9 y10 y11 y12, 0 ≤ l ∧ l ≤ h ∧ h ≤ S - 1 ∧ L1_law_box_0 [x0, x1, x2, .fz (.int 5), .ow ls, .ow hs, .fz (.int S), .fz (.int k), x8, x9, x10, x11, x12] = some (.nx [x0, x1, x2, .fz (.int 5), .ow (ls ++ [.int l]), .ow (hs ++ [.int h]), .fz (.int S), .fz (.int k), y8, y9, y10, y11, y12]) := by
  subst hx
  obtain ⟨v, v0, hv⟩ := mix_eq c (50 + k) 1000037 (by omega) (by omega) (by decide) (by decide)
  generalize hz : (if 1 + v / 4 % 5 < S then 1 + v / 4 % 5 else S) = z
  have hz1 : 1 ≤ z ∧ z ≤ S := by
    have := Int.emod_nonneg (v / 4) (show (5 : Int) ≠ 0 by decide)
    rw [← hz]; split <;> omega
  generalize hm : (if S / 2 - z / 2 > 0 then S / 2 - z / 2 else 0) = m
  have hm0 : 0 ≤ m := by rw [← hm]; split <;> omega
  obtain ⟨g, g0, g1, hg⟩ := large_eq c k (S - z + 1) (by omega) (by omega) (by omega)
  have hi0 := Int.emod_nonneg v (show (4 : Int) ≠ 0 by decide)
  have hi1 := Int.emod_lt_of_pos v (show (0 : Int) < 4 by decide)
  generalize hn : (if m < S - z then m else S - z) = n
  have hn0 : 0 ≤ n ∧ n ≤ S - z := by rw [← hn]; split <;> omega
  have hat : ∃ l, 0 ≤ l ∧ l ≤ S - z ∧ atD (.lst [.int 0, .int (S - z), .int n, .int g]) (.int (v % 4)) = some (.int l) := by
    have : v % 4 = 0 ∨ v % 4 = 1 ∨ v % 4 = 2 ∨ v % 4 = 3 := by omega
    rcases this with e | e | e | e <;> rw [e]
    · exact ⟨0, by omega, by omega, rfl⟩
    · exact ⟨S - z, by omega, by omega, rfl⟩
    · exact ⟨n, by omega, by omega, rfl⟩
    · exact ⟨g, by omega, by omega, rfl⟩
  obtain ⟨l, l0, l1, hat⟩ := hat
  refine ⟨l, l + z - 1, .fz (.int v), .fz (.int z), .fz (.int (S - z)), .fz (.int m), .fz (.lst [.int 0, .int (S - z), .int n, .int g]), l0, by omega, by omega, ?_⟩
  unfold L1_law_box_0
  rw [setnx (d := .int v) ((call3 rfl (eI_eq rfl rfl rfl) rfl).trans hv)]
  unfold L1_law_box_1
  rw [setnx (d := .int z)]
  rotate_left
  · unfold eMin
    rw [show eAdd (eC (.int 1)) (eMod (eDiv (eV 8) (eC (.int 4))) (eV 3)) _ = some (.int (1 + v / 4 % 5)) from eI_eq rfl (eI_eq (eI_eq rfl rfl rfl) rfl rfl) rfl]
    rw [← hz]; rfl
  unfold L1_law_box_2
  rw [setnx (d := .int (S - z)) (eI_eq rfl rfl rfl)]
  unfold L1_law_box_3
  rw [setnx (d := .int m)]
  rotate_left
  · unfold eMax
    rw [show eSub (eShr (eV 6) (eC (.int 1))) (eDiv (eV 9) (eC (.int 2))) _ = some (.int (S / 2 - z / 2)) from eI_eq (eI_eq (i := S) (j := 1) (g := fun i j => i / 2 ^ j.toNat) (C := fun _ j => decide (0 ≤ j)) rfl rfl rfl) (eI_eq rfl rfl rfl) rfl]
    rw [← hm]; rfl
  unfold L1_law_box_4
  rw [setnx (d := .lst [.int 0, .int (S - z), .int n, .int g])]
  rotate_left
  · refine eL_eq ?_
    unfold lDisp
    rw [aCons_eq (d := .int 0) rfl (aCons_eq (d := .int (S - z)) rfl (aCons_eq (d := .int n) ?_ (aCons_eq (d := .int g) ((call3 rfl rfl (eI_eq rfl rfl rfl)).trans hg) rfl)))]
    · rfl
    · rw [← hn]; rfl
  unfold L1_law_box_5
  have ha : ∀ (i : Nat) (f : Ef) (ρ : List B) (d : D) (ds : List D), f ρ = some d → ρ[i]? = some (.ow ds) → ds.length ≤ 100 → sApp i f ρ = some (.nx (ρ.set i (.ow (ds ++ [d])))) := fun i f ρ d ds e1 e2 e3 => by
    unfold sApp; rw [e1, Option.bind_some, e2]
    show (if ds.length < lim then _ else none) = _
    rw [if_pos (show ds.length < 100000 by omega)]
  rw [sSeq_nx (ha 4 _ _ (.int l) ls ?_ rfl (by omega))]
  rotate_left
  · unfold eIx
    rw [show eMod (eV 8) (eC (.int 4)) _ = some (.int (v % 4)) from eI_eq rfl rfl rfl]
    exact hat
  unfold L1_law_box_6
  rw [ha 5 _ _ (.int (l + z - 1)) hs ?_ rfl hh]
  · rfl
  · refine eI_eq (eI_eq (i := l) ?_ rfl rfl) rfl rfl
    show atI (ls ++ [.int l]) k = _
    rw [atI_getD (α := D) (ls ++ [D.int l]) k .non h0 (by rw [List.length_append]; simp; omega)]
    have : k.toNat = ls.length := by omega
    rw [this]; simp
end My
namespace My
open PySem L2
theorem box2 (c v S : Int) (hv : LV v S) : ∃ l0 l1 h0 h1, (0 ≤ l0 ∧ l0 ≤ h0 ∧ h0 ≤ S - 1) ∧ (0 ≤ l1 ∧ l1 ≤ h1 ∧ h1 ≤ S - 1) ∧ d_law_box [.int c, .int 2, .int v, .int 5] = some (.tup [.tup [.int l0, .int l1], .tup [.int h0, .int h1]]) := by
  obtain ⟨l0, h0, a8, a9, a10, a11, a12, p0, p1, p2, e0⟩ := box_step (x0 := .fz (.int c)) (x1 := .fz (.int 2)) (x2 := .fz (.int v)) (S := S) (k := 0) (ls := []) (hs := []) (x8 := .no) (x9 := .no) (x10 := .no) (x11 := .no) (x12 := .no) rfl hv.pos (by decide) (by decide) rfl (by decide)
  obtain ⟨l1, h1, b8, b9, b10, b11, b12, q0, q1, q2, e1⟩ := box_step (x0 := .fz (.int c)) (x1 := .fz (.int 2)) (x2 := .fz (.int v)) (S := S) (k := 1) (ls := [.int l0]) (hs := [.int h0]) (x8 := a8) (x9 := a9) (x10 := a10) (x11 := a11) (x12 := a12) rfl hv.pos (by decide) (by decide) rfl (by simp)
  refine ⟨l0, l1, h0, h1, ⟨p0, p1, p2⟩, ⟨q0, q1, q2⟩, ?_⟩
  show (B_law_box_0 [.fz (.int c), .fz (.int 2), .fz (.int v), .fz (.int 5), .no, .no, .no, .no, .no, .no, .no, .no, .no]).bind outD = _
  unfold B_law_box_0
  refine seq_out (ρ' := [.fz (.int c), .fz (.int 2), .fz (.int v), .fz (.int 5), .ow [], .no, .no, .no, .no, .no, .no, .no, .no]) rfl ?_
  unfold B_law_box_1
  refine seq_out (ρ' := [.fz (.int c), .fz (.int 2), .fz (.int v), .fz (.int 5), .ow [], .ow [], .no, .no, .no, .no, .no, .no, .no]) rfl ?_
  unfold B_law_box_2
  refine seqset (d := .int S) (hv.shl rfl) ?_
  unfold B_law_box_3
  refine seq_out (ρ' := [.fz (.int c), .fz (.int 2), .fz (.int v), .fz (.int 5), .ow [.int l0, .int l1], .ow [.int h0, .int h1], .fz (.int S), .fz (.int 1), b8, b9, b10, b11, b12]) ?_ rfl
  show forF (gN 7) L1_law_box_0 [.int 0, .int 1] [.fz (.int c), .fz (.int 2), .fz (.int v), .fz (.int 5), .ow [], .ow [], .fz (.int S), .no, .no, .no, .no, .no, .no] = _
  rw [forF_nx rfl e0, forF_nx rfl e1]
  rfl
theorem box3 (c v S : Int) (hv : LV v S) : ∃ l0 l1 l2 h0 h1 h2, (0 ≤ l0 ∧ l0 ≤ h0 ∧ h0 ≤ S - 1) ∧ (0 ≤ l1 ∧ l1 ≤ h1 ∧ h1 ≤ S - 1) ∧ (0 ≤ l2 ∧ l2 ≤ h2 ∧ h2 ≤ S - 1) ∧ d_law_box [.int c, .int 3, .int v, .int 5] = some (.tup [.tup [.int l0, .int l1, .int l2], .tup [.int h0, .int h1, .int h2]]) := by
  obtain ⟨l0, h0, a8, a9, a10, a11, a12, p0, p1, p2, e0⟩ := box_step (x0 := .fz (.int c)) (x1 := .fz (.int 3)) (x2 := .fz (.int v)) (S := S) (k := 0) (ls := []) (hs := []) (x8 := .no) (x9 := .no) (x10 := .no) (x11 := .no) (x12 := .no) rfl hv.pos (by decide) (by decide) rfl (by decide)
  obtain ⟨l1, h1, b8, b9, b10, b11, b12, q0, q1, q2, e1⟩ := box_step (x0 := .fz (.int c)) (x1 := .fz (.int 3)) (x2 := .fz (.int v)) (S := S) (k := 1) (ls := [.int l0]) (hs := [.int h0]) (x8 := a8) (x9 := a9) (x10 := a10) (x11 := a11) (x12 := a12) rfl hv.pos (by decide) (by decide) rfl (by simp)
  obtain ⟨l2, h2, c8, c9, c10, c11, c12, r0, r1, r2, e2⟩ := box_step (x0 := .fz (.int c)) (x1 := .fz (.int 3)) (x2 := .fz (.int v)) (S := S) (k := 2) (ls := [.int l0, .int l1]) (hs := [.int h0, .int h1]) (x8 := b8) (x9 := b9) (x10 := b10) (x11 := b11) (x12 := b12) rfl hv.pos (by decide) (by decide) rfl (by simp)
  refine ⟨l0, l1, l2, h0, h1, h2, ⟨p0, p1, p2⟩, ⟨q0, q1, q2⟩, ⟨r0, r1, r2⟩, ?_⟩
  show (B_law_box_0 [.fz (.int c), .fz (.int 3), .fz (.int v), .fz (.int 5), .no, .no, .no, .no, .no, .no, .no, .no, .no]).bind outD = _
  unfold B_law_box_0
  refine seq_out (ρ' := [.fz (.int c), .fz (.int 3), .fz (.int v), .fz (.int 5), .ow [], .no, .no, .no, .no, .no, .no, .no, .no]) rfl ?_
  unfold B_law_box_1
  refine seq_out (ρ' := [.fz (.int c), .fz (.int 3), .fz (.int v), .fz (.int 5), .ow [], .ow [], .no, .no, .no, .no, .no, .no, .no]) rfl ?_
  unfold B_law_box_2
  refine seqset (d := .int S) (hv.shl rfl) ?_
  unfold B_law_box_3
  refine seq_out (ρ' := [.fz (.int c), .fz (.int 3), .fz (.int v), .fz (.int 5), .ow [.int l0, .int l1, .int l2], .ow [.int h0, .int h1, .int h2], .fz (.int S), .fz (.int 2), c8, c9, c10, c11, c12]) ?_ rfl
  show forF (gN 7) L1_law_box_0 [.int 0, .int 1, .int 2] [.fz (.int c), .fz (.int 3), .fz (.int v), .fz (.int 5), .ow [], .ow [], .fz (.int S), .no, .no, .no, .no, .no, .no] = _
  rw [forF_nx rfl e0, forF_nx rfl e1, forF_nx rfl e2]
  rfl
end My

namespace My
open PySem L2
theorem app_nx {i : Nat} {f : Ef} {ρ : List B} {d : D} {ds : List D} (e1 : f ρ = some d) (e2 : ρ[i]? = some (.ow ds)) (e3 : ds.length ≤ 100) : sApp i f ρ = some (.nx (ρ.set i (.ow (ds ++ [d])))) := by
  unfold sApp; rw [e1, Option.bind_some, e2]
  show (if ds.length < lim then _ else none) = _
  rw [if_pos (show ds.length < 100000 by omega)]
theorem place_step {x0 x2 : B} {L : List D} {hi : D} {c S k l : Int} {ps : List D} {x6 x7 : B} (hx : x0 = .fz (.int c)) (hS : 1 ≤ S) (h0 : 0 ≤ k) (h1 : k ≤ 100) (hl : atI L k = some (.int l)) (hh : ps.length ≤ 100) :
    ∃ p y6 y7, 0 ≤ p ∧ p ≤ S - 1 ∧ L1_law_place_0 [x0, .fz (.tup [.tup L, hi]), x2, .fz (.int S), .ow ps, .fz (.int k), x6, x7] = some (.nx [x0, .fz (.tup [.tup L, hi]), x2, .fz (.int S), .ow (ps ++ [.int p]), .fz (.int k), y6, y7]) := by
  subst hx
  obtain ⟨v, v0, hv⟩ := mix_eq c (20 + k) 1000033 (by omega) (by omega) (by decide) (by decide)
  obtain ⟨g, g0, g1, hg⟩ := large_eq c (9 + k) S (by omega) (by omega) hS
  generalize hn : l + v / 3 % 9 - 4 = n
  generalize hm : (if (if n < S - 1 then n else S - 1) > 0 then (if n < S - 1 then n else S - 1) else 0) = m
  have hm0 : 0 ≤ m ∧ m ≤ S - 1 := by rw [← hm]; split <;> (try split) <;> omega
  have hat : ∃ p, 0 ≤ p ∧ p ≤ S - 1 ∧ atD (.lst [.int m, .int g, .int (S - 1)]) (.int (v % 3)) = some (.int p) := by
    have : v % 3 = 0 ∨ v % 3 = 1 ∨ v % 3 = 2 := by omega
    rcases this with e | e | e <;> rw [e]
    · exact ⟨m, by omega, by omega, rfl⟩
    · exact ⟨g, by omega, by omega, rfl⟩
    · exact ⟨S - 1, by omega, by omega, rfl⟩
  obtain ⟨p, p0, p1, hat⟩ := hat
  refine ⟨p, .fz (.int v), .fz (.int n), p0, p1, ?_⟩
  unfold L1_law_place_0
  rw [setnx (d := .int v) ((call3 rfl (eI_eq rfl rfl rfl) rfl).trans hv)]
  unfold L1_law_place_1
  rw [setnx (d := .int n)]
  rotate_left
  · rw [← hn]
    exact eI_eq (eI_eq (i := l) hl (eI_eq (eI_eq rfl rfl rfl) rfl rfl) rfl) rfl rfl
  unfold L1_law_place_2
  rw [app_nx (d := .int p) (ds := ps) ?_ rfl hh]
  · rfl
  · unfold eIx
    rw [show eMod (eV 6) (eC (.int 3)) _ = some (.int (v % 3)) from eI_eq rfl rfl rfl]
    rw [eL_eq (ds := [.int m, .int g, .int (S - 1)])]
    · exact hat
    · unfold lDisp
      rw [aCons_eq (d := .int m) ?_ (aCons_eq (d := .int g) ((call3 rfl (eI_eq rfl rfl rfl) rfl).trans hg) (aCons_eq (d := .int (S - 1)) rfl rfl))]
      · rfl
      · rw [← hm]; rfl
theorem place2 (c v S l0 l1 : Int) (hi : D) (hv : LV v S) : ∃ p0 p1, (0 ≤ p0 ∧ p0 ≤ S - 1) ∧ (0 ≤ p1 ∧ p1 ≤ S - 1) ∧ d_law_place [.int c, .tup [.tup [.int l0, .int l1], hi], .int v] = some (.tup [.int p0, .int p1]) := by
  obtain ⟨p0, a6, a7, h0, h1, e0⟩ := place_step (x0 := .fz (.int c)) (x2 := .fz (.int v)) (L := [.int l0, .int l1]) (hi := hi) (S := S) (k := 0) (l := l0) (ps := []) (x6 := .no) (x7 := .no) rfl hv.pos (by decide) (by decide) rfl (by decide)
  obtain ⟨p1, b6, b7, h2, h3, e1⟩ := place_step (x0 := .fz (.int c)) (x2 := .fz (.int v)) (L := [.int l0, .int l1]) (hi := hi) (S := S) (k := 1) (l := l1) (ps := [.int p0]) (x6 := a6) (x7 := a7) rfl hv.pos (by decide) (by decide) rfl (by simp)
  refine ⟨p0, p1, ⟨h0, h1⟩, ⟨h2, h3⟩, ?_⟩
  show (B_law_place_0 [.fz (.int c), .fz (.tup [.tup [.int l0, .int l1], hi]), .fz (.int v), .no, .no, .no, .no, .no]).bind outD = _
  unfold B_law_place_0
  refine seqset (d := .int S) (hv.shl rfl) ?_
  unfold B_law_place_1
  refine seq_out (ρ' := [.fz (.int c), .fz (.tup [.tup [.int l0, .int l1], hi]), .fz (.int v), .fz (.int S), .ow [], .no, .no, .no]) rfl ?_
  unfold B_law_place_2
  refine seq_out (ρ' := [.fz (.int c), .fz (.tup [.tup [.int l0, .int l1], hi]), .fz (.int v), .fz (.int S), .ow [.int p0, .int p1], .fz (.int 1), b6, b7]) ?_ rfl
  have src : iR (eLen (eIx (eV 1) (eC (.int 0)))) [.fz (.int c), .fz (.tup [.tup [.int l0, .int l1], hi]), .fz (.int v), .fz (.int S), .ow [], .no, .no, .no] = some [.int 0, .int 1] := by kernel_rfl
  show sFor (iR (eLen (eIx (eV 1) (eC (.int 0))))) (gN 5) L1_law_place_0 [.fz (.int c), .fz (.tup [.tup [.int l0, .int l1], hi]), .fz (.int v), .fz (.int S), .ow [], .no, .no, .no] = _
  unfold sFor
  rw [src, Option.bind_some]
  rw [forF_nx rfl e0, forF_nx rfl e1]
  rfl
theorem place3 (c v S l0 l1 l2 : Int) (hi : D) (hv : LV v S) : ∃ p0 p1 p2, (0 ≤ p0 ∧ p0 ≤ S - 1) ∧ (0 ≤ p1 ∧ p1 ≤ S - 1) ∧ (0 ≤ p2 ∧ p2 ≤ S - 1) ∧ d_law_place [.int c, .tup [.tup [.int l0, .int l1, .int l2], hi], .int v] = some (.tup [.int p0, .int p1, .int p2]) := by
  obtain ⟨p0, a6, a7, h0, h1, e0⟩ := place_step (x0 := .fz (.int c)) (x2 := .fz (.int v)) (L := [.int l0, .int l1, .int l2]) (hi := hi) (S := S) (k := 0) (l := l0) (ps := []) (x6 := .no) (x7 := .no) rfl hv.pos (by decide) (by decide) rfl (by decide)
  obtain ⟨p1, b6, b7, h2, h3, e1⟩ := place_step (x0 := .fz (.int c)) (x2 := .fz (.int v)) (L := [.int l0, .int l1, .int l2]) (hi := hi) (S := S) (k := 1) (l := l1) (ps := [.int p0]) (x6 := a6) (x7 := a7) rfl hv.pos (by decide) (by decide) rfl (by simp)
  obtain ⟨p2, c6, c7, h4, h5, e2⟩ := place_step (x0 := .fz (.int c)) (x2 := .fz (.int v)) (L := [.int l0, .int l1, .int l2]) (hi := hi) (S := S) (k := 2) (l := l2) (ps := [.int p0, .int p1]) (x6 := b6) (x7 := b7) rfl hv.pos (by decide) (by decide) rfl (by simp)
  refine ⟨p0, p1, p2, ⟨h0, h1⟩, ⟨h2, h3⟩, ⟨h4, h5⟩, ?_⟩
  show (B_law_place_0 [.fz (.int c), .fz (.tup [.tup [.int l0, .int l1, .int l2], hi]), .fz (.int v), .no, .no, .no, .no, .no]).bind outD = _
  unfold B_law_place_0
  refine seqset (d := .int S) (hv.shl rfl) ?_
  unfold B_law_place_1
  refine seq_out (ρ' := [.fz (.int c), .fz (.tup [.tup [.int l0, .int l1, .int l2], hi]), .fz (.int v), .fz (.int S), .ow [], .no, .no, .no]) rfl ?_
  unfold B_law_place_2
  refine seq_out (ρ' := [.fz (.int c), .fz (.tup [.tup [.int l0, .int l1, .int l2], hi]), .fz (.int v), .fz (.int S), .ow [.int p0, .int p1, .int p2], .fz (.int 2), c6, c7]) ?_ rfl
  have src : iR (eLen (eIx (eV 1) (eC (.int 0)))) [.fz (.int c), .fz (.tup [.tup [.int l0, .int l1, .int l2], hi]), .fz (.int v), .fz (.int S), .ow [], .no, .no, .no] = some [.int 0, .int 1, .int 2] := by kernel_rfl
  show sFor (iR (eLen (eIx (eV 1) (eC (.int 0))))) (gN 5) L1_law_place_0 [.fz (.int c), .fz (.tup [.tup [.int l0, .int l1, .int l2], hi]), .fz (.int v), .fz (.int S), .ow [], .no, .no, .no] = _
  unfold sFor
  rw [src, Option.bind_some]
  rw [forF_nx rfl e0, forF_nx rfl e1, forF_nx rfl e2]
  rfl
/-! ### on a floor -/
def hp (n S : Int) (xs : List Int) : Bool := decide ((xs.length : Int) = n) && xs.all fun a => decide (0 ≤ a) && decide (a < S)
theorem has_eq {n v S : Int} (hv : LV v S) (xs : List Int) (hl : xs.length ≤ 100) : d_has_place [.int n, .int v, .tup (xs.map D.int)] = some (.bl (hp n S xs)) := by
  show (B_has_place_0 [.fz (.int n), .fz (.int v), .fz (.tup (xs.map D.int)), .no]).bind outD = _
  unfold B_has_place_0
  refine seqset (d := .int S) ((call2 rfl rfl).trans hv.full) ?_
  unfold B_has_place_1 sRet
  have e1 : eOfT (eB2 gEq (eLen (eV 2)) (eV 0)) [.fz (.int n), .fz (.int v), .fz (.tup (xs.map D.int)), .fz (.int S)] = some (.bl (decide ((xs.length : Int) = n))) := by
    show (gEq (.int ((xs.map D.int).length : Nat)) (.int n)).map D.bl = _
    rw [List.length_map]; rfl
  have e2 : eAll (eL (lComp (iT (eV 2)) 1 [3] (gN 0) tOK (eOfT (eB3 gLe gLt (eC (.int 0)) (eV 0) (eV 1))))) [.fz (.int n), .fz (.int v), .fz (.tup (xs.map D.int)), .fz (.int S)] = some (.bl (xs.all fun a => decide (0 ≤ a) && decide (a < S))) := by
    have e3 : lComp (iT (eV 2)) 1 [3] (gN 0) tOK (eOfT (eB3 gLe gLt (eC (.int 0)) (eV 0) (eV 1))) [.fz (.int n), .fz (.int v), .fz (.tup (xs.map D.int)), .fz (.int S)] = some ((xs.map D.int).map fun d => match d with | .int a => .bl (decide (0 ≤ a) && decide (a < S)) | d => d) := by
      show (okL (xs.map D.int)).bind (fun ds => mapF (gN 0) tOK _ ds [.no, .fz (.int S)] []) = _
      rw [okL_le (by rw [List.length_map]; omega), Option.bind_some]
      rw [mapF_one (h := fun d => match d with | .int a => .bl (decide (0 ≤ a) && decide (a < S)) | d => d)]
      · rfl
      · intro d hd
        obtain ⟨a, _, rfl⟩ := List.mem_map.mp hd
        show (eOfT (eB3 gLe gLt (eC (.int 0)) (eV 0) (eV 1))) [.fz (.int a), .fz (.int S)] = some (.bl (decide (0 ≤ a) && decide (a < S)))
        by_cases h : 0 ≤ a <;> simp [eOfT, eB3, gLe, gLt, eC, eV, getB, h]
    unfold eAll
    rw [eL_eq e3, Option.bind_some, List.map_map]
    show (blsD (xs.map fun a => .bl (decide (0 ≤ a) && decide (a < S)))).map _ = _
    rw [blsD_map]
    simp [List.all_map, Function.comp_def]
  unfold hp
  unfold eAndV tB1
  dsimp only [List.set]
  rw [e1, e2]
  cases decide ((xs.length : Int) = n) <;> rfl
theorem floor_eq {n v S : Int} (hv : LV v S) (xs ys : List Int) (hl : xs.length ≤ 100) (hl' : ys.length ≤ 100) : d_on_floor [.tup [.tup (xs.map D.int), .tup (ys.map D.int)], .int n, .int v] = some (.bl (hp n S xs && hp n S ys)) := by
  show (B_on_floor_0 [.fz (.tup [.tup (xs.map D.int), .tup (ys.map D.int)]), .fz (.int n), .fz (.int v), .no, .no]).bind outD = _
  unfold B_on_floor_0
  refine seq_out (ρ' := [.fz (.tup [.tup (xs.map D.int), .tup (ys.map D.int)]), .fz (.int n), .fz (.int v), .fz (.tup (xs.map D.int)), .fz (.tup (ys.map D.int))]) rfl ?_
  unfold B_on_floor_1 sRet eAndV tB1
  rw [call3 rfl rfl rfl, has_eq hv xs hl, call3 rfl rfl rfl, has_eq hv ys hl']
  cases hp n S xs <;> rfl
theorem told_eq (a b : Bool) : d_law_told [.bl a, .bl b] = some (.bl (a == b)) := by cases a <;> cases b <;> rfl
theorem told_of {f g : Ef} {ρ : List B} {a : Bool} (h1 : f ρ = some (.bl a)) (h2 : g ρ = some (.bl a)) : eCall 2 d_law_told (aCons f (aCons g aNil)) ρ = some (.bl true) := by
  rw [call2 h1 h2, told_eq]; simp
end My

namespace My
open PySem L2
theorem floors2 {v S l0 l1 h0 h1 c : Int} (hv : LV v S) (b0 : 0 ≤ l0 ∧ l0 ≤ h0 ∧ h0 ≤ S - 1) (b1 : 0 ≤ l1 ∧ l1 ≤ h1 ∧ h1 ≤ S - 1) : d_law_floors [.tup [.tup [.int l0, .int l1], .tup [.int h0, .int h1]], .int 2, .int v, .int c] = some (.bl true) := by
  have hS := hv.pos
  have hr := Int.emod_nonneg (c / 3) (show (1000 : Int) ≠ 0 by decide)
  generalize hrr : c / 3 % 1000 = r at hr
  have fl : ∀ (n a b c' d : Int), d_on_floor [.tup [.tup [.int a, .int b], .tup [.int c', .int d]], .int n, .int v] = some (.bl (hp n S [a, b] && hp n S [c', d])) := fun n a b c' d => floor_eq hv [a, b] [c', d] (by simp) (by simp)
  have fl3 : ∀ (n a b e c' d f : Int), d_on_floor [.tup [.tup [.int a, .int b, .int e], .tup [.int c', .int d, .int f]], .int n, .int v] = some (.bl (hp n S [a, b, e] && hp n S [c', d, f])) := fun n a b e c' d f => floor_eq hv [a, b, e] [c', d, f] (by simp) (by simp)
  show (B_law_floors_0 [.fz (.tup [.tup [.int l0, .int l1], .tup [.int h0, .int h1]]), .fz (.int 2), .fz (.int v), .fz (.int c), .no, .no, .no, .no, .no]).bind outD = _
  unfold B_law_floors_0
  refine seqset (d := .int S) (hv.shl rfl) ?_
  unfold B_law_floors_1
  refine seqset (d := .int (c % 2)) (eI_eq rfl rfl rfl) ?_
  have ha : c % 2 = 0 ∨ c % 2 = 1 := by omega
  have tail : ∀ (x5 o u : D), (B_law_floors_6 [.fz (.tup [.tup [.int l0, .int l1], .tup [.int h0, .int h1]]), .fz (.int 2), .fz (.int v), .fz (.int c), .fz (.int S), .fz x5, .fz o, .fz u, .no]).bind outD = some (.bl true) := fun x5 o u => by
    unfold B_law_floors_6
    refine seqset (d := .tup [.tup [.int l0, .int l1], .tup [.int h0, .int h1]]) (by kernel_rfl) ?_
    unfold B_law_floors_7
    refine seq_out (ρ' := [.fz (.tup [.tup [.int l0, .int l1], .tup [.int h0, .int h1]]), .fz (.int 2), .fz (.int v), .fz (.int c), .fz (.int S), .fz x5, .fz o, .fz u, .fz (.tup [.tup [.int l0, .int l1, .int 0], .tup [.int h0, .int h1, .int 0]])]) (by kernel_rfl) ?_
    have e1 : (hp 2 S [l0, l1, 0] && hp 2 S [h0, h1, 0]) = false := by simp [hp]
    have e2 : (hp 3 S [l0, l1, 0] && hp 3 S [h0, h1, 0]) = true := by simp [hp]; omega
    unfold B_law_floors_8 sRet
    rw [and_yes (told_of (a := false) ((call3 rfl rfl rfl).trans ((fl3 2 l0 l1 0 h0 h1 0).trans (by rw [e1]))) rfl) (told_of (a := true) ((call3 rfl (eI_eq (i := 5) (j := 2) rfl rfl rfl) rfl).trans ((fl3 3 l0 l1 0 h0 h1 0).trans (by rw [e2]))) rfl)]
    rfl
  rcases ha with ha | ha <;> rw [ha]
  · have e0 : (hp 2 S [l0, l1] && hp 2 S [h0, h1]) = true := by simp [hp]; omega
    have e1 : (hp 2 S [l0 + (S - h0 + r), l1] && hp 2 S [h0 + (S - h0 + r), h1]) = false := by simp [hp]; omega
    have e2 : (hp 2 S [l0 + (-1 - l0 - r), l1] && hp 2 S [h0 + (-1 - l0 - r), h1]) = false := by simp [hp]; omega
    unfold B_law_floors_2
    refine seqif (not_t (told_of (a := true) ((call3 rfl rfl rfl).trans ((fl 2 l0 l1 h0 h1).trans (by rw [e0]))) rfl)) ?_
    unfold B_law_floors_3
    refine seqset (d := .tup [.tup [.int (l0 + (S - h0 + r)), .int l1], .tup [.int (h0 + (S - h0 + r)), .int h1]]) (by rw [← hrr]; kernel_rfl) ?_
    unfold B_law_floors_4
    refine seqset (d := .tup [.tup [.int (l0 + (-1 - l0 - r)), .int l1], .tup [.int (h0 + (-1 - l0 - r)), .int h1]]) (by rw [← hrr]; kernel_rfl) ?_
    unfold B_law_floors_5
    exact seqif (or_no (not_t (told_of (a := false) ((call3 rfl rfl rfl).trans ((fl 2 (l0 + (S - h0 + r)) l1 (h0 + (S - h0 + r)) h1).trans (by rw [e1]))) rfl)) (not_t (told_of (a := false) ((call3 rfl rfl rfl).trans ((fl 2 (l0 + (-1 - l0 - r)) l1 (h0 + (-1 - l0 - r)) h1).trans (by rw [e2]))) rfl))) (tail _ _ _)
  · have e0 : (hp 2 S [l0, l1] && hp 2 S [h0, h1]) = true := by simp [hp]; omega
    have e1 : (hp 2 S [l0, l1 + (S - h1 + r)] && hp 2 S [h0, h1 + (S - h1 + r)]) = false := by simp [hp]; omega
    have e2 : (hp 2 S [l0, l1 + (-1 - l1 - r)] && hp 2 S [h0, h1 + (-1 - l1 - r)]) = false := by simp [hp]; omega
    unfold B_law_floors_2
    refine seqif (not_t (told_of (a := true) ((call3 rfl rfl rfl).trans ((fl 2 l0 l1 h0 h1).trans (by rw [e0]))) rfl)) ?_
    unfold B_law_floors_3
    refine seqset (d := .tup [.tup [.int l0, .int (l1 + (S - h1 + r))], .tup [.int h0, .int (h1 + (S - h1 + r))]]) (by rw [← hrr]; kernel_rfl) ?_
    unfold B_law_floors_4
    refine seqset (d := .tup [.tup [.int l0, .int (l1 + (-1 - l1 - r))], .tup [.int h0, .int (h1 + (-1 - l1 - r))]]) (by rw [← hrr]; kernel_rfl) ?_
    unfold B_law_floors_5
    exact seqif (or_no (not_t (told_of (a := false) ((call3 rfl rfl rfl).trans ((fl 2 l0 (l1 + (S - h1 + r)) h0 (h1 + (S - h1 + r))).trans (by rw [e1]))) rfl)) (not_t (told_of (a := false) ((call3 rfl rfl rfl).trans ((fl 2 l0 (l1 + (-1 - l1 - r)) h0 (h1 + (-1 - l1 - r))).trans (by rw [e2]))) rfl))) (tail _ _ _)
theorem floors3 {v S l0 l1 l2 h0 h1 h2 c : Int} (hv : LV v S) (b0 : 0 ≤ l0 ∧ l0 ≤ h0 ∧ h0 ≤ S - 1) (b1 : 0 ≤ l1 ∧ l1 ≤ h1 ∧ h1 ≤ S - 1) (b2 : 0 ≤ l2 ∧ l2 ≤ h2 ∧ h2 ≤ S - 1) : d_law_floors [.tup [.tup [.int l0, .int l1, .int l2], .tup [.int h0, .int h1, .int h2]], .int 3, .int v, .int c] = some (.bl true) := by
  have hS := hv.pos
  have hr := Int.emod_nonneg (c / 3) (show (1000 : Int) ≠ 0 by decide)
  generalize hrr : c / 3 % 1000 = r at hr
  have fl : ∀ (n a b c' d : Int), d_on_floor [.tup [.tup [.int a, .int b], .tup [.int c', .int d]], .int n, .int v] = some (.bl (hp n S [a, b] && hp n S [c', d])) := fun n a b c' d => floor_eq hv [a, b] [c', d] (by simp) (by simp)
  have fl3 : ∀ (n a b e c' d f : Int), d_on_floor [.tup [.tup [.int a, .int b, .int e], .tup [.int c', .int d, .int f]], .int n, .int v] = some (.bl (hp n S [a, b, e] && hp n S [c', d, f])) := fun n a b e c' d f => floor_eq hv [a, b, e] [c', d, f] (by simp) (by simp)
  show (B_law_floors_0 [.fz (.tup [.tup [.int l0, .int l1, .int l2], .tup [.int h0, .int h1, .int h2]]), .fz (.int 3), .fz (.int v), .fz (.int c), .no, .no, .no, .no, .no]).bind outD = _
  unfold B_law_floors_0
  refine seqset (d := .int S) (hv.shl rfl) ?_
  unfold B_law_floors_1
  refine seqset (d := .int (c % 3)) (eI_eq rfl rfl rfl) ?_
  have ha : c % 3 = 0 ∨ c % 3 = 1 ∨ c % 3 = 2 := by omega
  have tail : ∀ (x5 o u : D), (B_law_floors_6 [.fz (.tup [.tup [.int l0, .int l1, .int l2], .tup [.int h0, .int h1, .int h2]]), .fz (.int 3), .fz (.int v), .fz (.int c), .fz (.int S), .fz x5, .fz o, .fz u, .no]).bind outD = some (.bl true) := fun x5 o u => by
    unfold B_law_floors_6
    refine seqset (d := .tup [.tup [.int l0, .int l1], .tup [.int h0, .int h1]]) (by kernel_rfl) ?_
    unfold B_law_floors_7
    refine seq_out (ρ' := [.fz (.tup [.tup [.int l0, .int l1, .int l2], .tup [.int h0, .int h1, .int h2]]), .fz (.int 3), .fz (.int v), .fz (.int c), .fz (.int S), .fz x5, .fz o, .fz u, .fz (.tup [.tup [.int l0, .int l1], .tup [.int h0, .int h1]])]) (by kernel_rfl) ?_
    have e1 : (hp 3 S [l0, l1] && hp 3 S [h0, h1]) = false := by simp [hp]
    have e2 : (hp 2 S [l0, l1] && hp 2 S [h0, h1]) = true := by simp [hp]; omega
    unfold B_law_floors_8 sRet
    rw [and_yes (told_of (a := false) ((call3 rfl rfl rfl).trans ((fl 3 l0 l1 h0 h1).trans (by rw [e1]))) rfl) (told_of (a := true) ((call3 rfl (eI_eq (i := 5) (j := 3) rfl rfl rfl) rfl).trans ((fl 2 l0 l1 h0 h1).trans (by rw [e2]))) rfl)]
    rfl
  rcases ha with ha | ha | ha <;> rw [ha]
  · have e0 : (hp 3 S [l0, l1, l2] && hp 3 S [h0, h1, h2]) = true := by simp [hp]; omega
    have e1 : (hp 3 S [l0 + (S - h0 + r), l1, l2] && hp 3 S [h0 + (S - h0 + r), h1, h2]) = false := by simp [hp]; omega
    have e2 : (hp 3 S [l0 + (-1 - l0 - r), l1, l2] && hp 3 S [h0 + (-1 - l0 - r), h1, h2]) = false := by simp [hp]; omega
    unfold B_law_floors_2
    refine seqif (not_t (told_of (a := true) ((call3 rfl rfl rfl).trans ((fl3 3 l0 l1 l2 h0 h1 h2).trans (by rw [e0]))) rfl)) ?_
    unfold B_law_floors_3
    refine seqset (d := .tup [.tup [.int (l0 + (S - h0 + r)), .int l1, .int l2], .tup [.int (h0 + (S - h0 + r)), .int h1, .int h2]]) (by rw [← hrr]; kernel_rfl) ?_
    unfold B_law_floors_4
    refine seqset (d := .tup [.tup [.int (l0 + (-1 - l0 - r)), .int l1, .int l2], .tup [.int (h0 + (-1 - l0 - r)), .int h1, .int h2]]) (by rw [← hrr]; kernel_rfl) ?_
    unfold B_law_floors_5
    exact seqif (or_no (not_t (told_of (a := false) ((call3 rfl rfl rfl).trans ((fl3 3 (l0 + (S - h0 + r)) l1 l2 (h0 + (S - h0 + r)) h1 h2).trans (by rw [e1]))) rfl)) (not_t (told_of (a := false) ((call3 rfl rfl rfl).trans ((fl3 3 (l0 + (-1 - l0 - r)) l1 l2 (h0 + (-1 - l0 - r)) h1 h2).trans (by rw [e2]))) rfl))) (tail _ _ _)
  · have e0 : (hp 3 S [l0, l1, l2] && hp 3 S [h0, h1, h2]) = true := by simp [hp]; omega
    have e1 : (hp 3 S [l0, l1 + (S - h1 + r), l2] && hp 3 S [h0, h1 + (S - h1 + r), h2]) = false := by simp [hp]; omega
    have e2 : (hp 3 S [l0, l1 + (-1 - l1 - r), l2] && hp 3 S [h0, h1 + (-1 - l1 - r), h2]) = false := by simp [hp]; omega
    unfold B_law_floors_2
    refine seqif (not_t (told_of (a := true) ((call3 rfl rfl rfl).trans ((fl3 3 l0 l1 l2 h0 h1 h2).trans (by rw [e0]))) rfl)) ?_
    unfold B_law_floors_3
    refine seqset (d := .tup [.tup [.int l0, .int (l1 + (S - h1 + r)), .int l2], .tup [.int h0, .int (h1 + (S - h1 + r)), .int h2]]) (by rw [← hrr]; kernel_rfl) ?_
    unfold B_law_floors_4
    refine seqset (d := .tup [.tup [.int l0, .int (l1 + (-1 - l1 - r)), .int l2], .tup [.int h0, .int (h1 + (-1 - l1 - r)), .int h2]]) (by rw [← hrr]; kernel_rfl) ?_
    unfold B_law_floors_5
    exact seqif (or_no (not_t (told_of (a := false) ((call3 rfl rfl rfl).trans ((fl3 3 l0 (l1 + (S - h1 + r)) l2 h0 (h1 + (S - h1 + r)) h2).trans (by rw [e1]))) rfl)) (not_t (told_of (a := false) ((call3 rfl rfl rfl).trans ((fl3 3 l0 (l1 + (-1 - l1 - r)) l2 h0 (h1 + (-1 - l1 - r)) h2).trans (by rw [e2]))) rfl))) (tail _ _ _)
  · have e0 : (hp 3 S [l0, l1, l2] && hp 3 S [h0, h1, h2]) = true := by simp [hp]; omega
    have e1 : (hp 3 S [l0, l1, l2 + (S - h2 + r)] && hp 3 S [h0, h1, h2 + (S - h2 + r)]) = false := by simp [hp]; omega
    have e2 : (hp 3 S [l0, l1, l2 + (-1 - l2 - r)] && hp 3 S [h0, h1, h2 + (-1 - l2 - r)]) = false := by simp [hp]; omega
    unfold B_law_floors_2
    refine seqif (not_t (told_of (a := true) ((call3 rfl rfl rfl).trans ((fl3 3 l0 l1 l2 h0 h1 h2).trans (by rw [e0]))) rfl)) ?_
    unfold B_law_floors_3
    refine seqset (d := .tup [.tup [.int l0, .int l1, .int (l2 + (S - h2 + r))], .tup [.int h0, .int h1, .int (h2 + (S - h2 + r))]]) (by rw [← hrr]; kernel_rfl) ?_
    unfold B_law_floors_4
    refine seqset (d := .tup [.tup [.int l0, .int l1, .int (l2 + (-1 - l2 - r))], .tup [.int h0, .int h1, .int (h2 + (-1 - l2 - r))]]) (by rw [← hrr]; kernel_rfl) ?_
    unfold B_law_floors_5
    exact seqif (or_no (not_t (told_of (a := false) ((call3 rfl rfl rfl).trans ((fl3 3 l0 l1 (l2 + (S - h2 + r)) h0 h1 (h2 + (S - h2 + r))).trans (by rw [e1]))) rfl)) (not_t (told_of (a := false) ((call3 rfl rfl rfl).trans ((fl3 3 l0 l1 (l2 + (-1 - l2 - r)) h0 h1 (h2 + (-1 - l2 - r))).trans (by rw [e2]))) rfl))) (tail _ _ _)
def m3 (a b c : Int) : Int := if b > a then (if c > b then c else b) else (if c > a then c else a)
def gl (l y : Int) : Int := if l - y > 0 then l - y else 0
def gh (S h y : Int) : Int := if h + y < S - 1 then h + y else S - 1
def farS (f p l h : Int) : Int := if p > h then (if p - h > (if p < l then (if l - p > f then l - p else f) else f) then p - h else (if p < l then (if l - p > f then l - p else f) else f)) else (if p < l then (if l - p > f then l - p else f) else f)
theorem m3_le {b c t : Int} : m3 0 b c ≤ t ↔ 0 ≤ t ∧ b ≤ t ∧ c ≤ t := by unfold m3; split <;> split <;> omega
theorem gl_le {l y p : Int} : gl l y ≤ p ↔ 0 ≤ p ∧ l - y ≤ p := by unfold gl; split <;> omega
theorem gh_le {S h y p : Int} : p ≤ gh S h y ↔ p ≤ S - 1 ∧ p ≤ h + y := by unfold gh; split <;> omega
theorem farS_nn (f p l h : Int) (hf : 0 ≤ f) : 0 ≤ farS f p l h := by unfold farS; split <;> split <;> (try split) <;> (try split) <;> omega
theorem farS_le {f p l h t : Int} (hf : 0 ≤ f) (q : l ≤ h) : farS f p l h ≤ t ↔ f ≤ t ∧ l - p ≤ t ∧ p - h ≤ t := by unfold farS; split <;> split <;> (try split) <;> (try split) <;> omega
theorem same_le {a b : Int} (h : ∀ t, a ≤ t ↔ b ≤ t) : a = b := Int.le_antisymm ((h b).mpr (Int.le_refl _)) ((h a).mp (Int.le_refl _))
theorem best_two (a b : Int) : bestI [a, b] = if b > a then b else a := by
  unfold bestI
  by_cases h : b > a <;> simp [argBest, h]
theorem best_three (a b c : Int) : bestI [a, b, c] = if b > a then (if c > b then c else b) else (if c > a then c else a) := by
  unfold bestI
  by_cases h : b > a
  · by_cases h2 : c > b <;> simp [argBest, h, h2]
  · by_cases h2 : c > a <;> simp [argBest, h, h2]
theorem best_le2 (a b : Int) {t : Int} : bestI [a, b] ≤ t ↔ a ≤ t ∧ b ≤ t := by rw [best_two]; split <;> omega
theorem best_le3 (a b c : Int) {t : Int} : bestI [a, b, c] ≤ t ↔ a ≤ t ∧ b ≤ t ∧ c ≤ t := by rw [best_three]; split <;> split <;> omega
theorem ne_same {fa fb : Ef} {ρ : List B} {d : D} (h1 : fa ρ = some d) (h2 : fb ρ = some d) (h : eqD 8 d d = some true) : eB2 gNeD fa fb ρ = some false := by
  unfold eB2 gNeD; rw [h1, Option.bind_some, h2, Option.bind_some, h]; rfl
theorem eq_bools {fa fb : Ef} {ρ : List B} {b : Bool} (h1 : fa ρ = some (.bl b)) (h2 : fb ρ = some (.bl b)) : eOfT (eB2 gEqD fa fb) ρ = some (.bl true) := by
  unfold eOfT eB2 gEqD; rw [h1, Option.bind_some, h2, Option.bind_some]; cases b <;> rfl
theorem if_of {t : Tf} {f : Sf} {ρ : List B} {b : Bool} (h : t ρ = some b) : sIf t f sNil ρ = if b then f ρ else some (.nx ρ) := by unfold sIf; rw [h]; cases b <;> rfl
theorem far_step {P L H : List D} {f k p l h : Int} (e1 : atI P k = some (.int p)) (e2 : atI L k = some (.int l)) (e3 : atI H k = some (.int h)) :
    L1_law_far_0 [.fz (.tup P), .fz (.tup [.tup L, .tup H]), .fz (.int f), .fz (.int k)] = some (.nx [.fz (.tup P), .fz (.tup [.tup L, .tup H]), .fz (.int (farS f p l h)), .fz (.int k)]) := by
  have a : ∀ x : B, eIx (eV 0) (eV 3) [.fz (.tup P), .fz (.tup [.tup L, .tup H]), x, .fz (.int k)] = some (.int p) := fun x => e1
  have b : ∀ x : B, eIx (eIx (eV 1) (eC (.int 0))) (eV 3) [.fz (.tup P), .fz (.tup [.tup L, .tup H]), x, .fz (.int k)] = some (.int l) := fun x => e2
  have c : ∀ x : B, eIx (eIx (eV 1) (eC (.int 1))) (eV 3) [.fz (.tup P), .fz (.tup [.tup L, .tup H]), x, .fz (.int k)] = some (.int h) := fun x => e3
  unfold L1_law_far_0
  generalize hg : (if p < l then (if l - p > f then l - p else f) else f) = g
  rw [sSeq_nx (ρ' := [.fz (.tup P), .fz (.tup [.tup L, .tup H]), .fz (.int g), .fz (.int k)])]
  · unfold L1_law_far_1
    rw [if_of (b := decide (h < p))]
    · unfold farS
      rw [hg]
      by_cases q : p > h
      · rw [if_pos (decide_eq_true q), if_pos q]
        unfold sSet eMax
        rw [show eSub (eIx (eV 0) (eV 3)) (eIx (eIx (eV 1) (eC (.int 1))) (eV 3)) _ = some (.int (p - h)) from eI_eq (a _) (c _) rfl]
        rfl
      · rw [if_neg (by simpa using q), if_neg q]
    · unfold eB2; rw [a, c]; rfl
  · rw [if_of (b := decide (p < l))]
    · rw [← hg]
      by_cases q : p < l
      · rw [if_pos (decide_eq_true q), if_pos q]
        unfold sSet eMax
        rw [show eSub (eIx (eIx (eV 1) (eC (.int 0))) (eV 3)) (eIx (eV 0) (eV 3)) _ = some (.int (l - p)) from eI_eq (b _) (a _) rfl]
        rfl
      · rw [if_neg (by simpa using q), if_neg q]
    · unfold eB2; rw [a, b]; rfl
theorem grown2 {v S l0 l1 h0 h1 y : Int} (hv : LV v S) : d_grown [.tup [.tup [.int l0, .int l1], .tup [.int h0, .int h1]], .int y, .int v] = some (.tup [.tup [.int (gl l0 y), .int (gl l1 y)], .tup [.int (gh S h0 y), .int (gh S h1 y)]]) := by
  show (B_grown_0 [.fz (.tup [.tup [.int l0, .int l1], .tup [.int h0, .int h1]]), .fz (.int y), .fz (.int v), .no, .no, .no, .no, .no]).bind outD = _
  unfold B_grown_0
  refine seq_out (ρ' := [.fz (.tup [.tup [.int l0, .int l1], .tup [.int h0, .int h1]]), .fz (.int y), .fz (.int v), .fz (.tup [.int l0, .int l1]), .fz (.tup [.int h0, .int h1]), .no, .no, .no]) rfl ?_
  unfold B_grown_1
  refine seqset (d := .int (S - 1)) (eI_eq ((call2 rfl rfl).trans hv.full) rfl rfl) ?_
  kernel_rfl
theorem beyond2 (a0 a1 b0 b1 : Int) : d_not_beyond [.tup [.int a0, .int a1], .tup [.int b0, .int b1]] = some (.bl ([decide (a0 ≤ b0), decide (a1 ≤ b1)].all id)) := by kernel_rfl
theorem holds2 (a0 a1 b0 b1 p0 p1 : Int) : d_holds [.tup [.tup [.int a0, .int a1], .tup [.int b0, .int b1]], .tup [.int p0, .int p1]] = some (.bl (([decide (a0 ≤ p0), decide (a1 ≤ p1)].all id) && ([decide (p0 ≤ b0), decide (p1 ≤ b1)].all id))) := by
  show (B_holds_0 [.fz (.tup [.tup [.int a0, .int a1], .tup [.int b0, .int b1]]), .fz (.tup [.int p0, .int p1]), .no, .no]).bind outD = _
  unfold B_holds_0
  refine seq_out (ρ' := [.fz (.tup [.tup [.int a0, .int a1], .tup [.int b0, .int b1]]), .fz (.tup [.int p0, .int p1]), .fz (.tup [.int a0, .int a1]), .fz (.tup [.int b0, .int b1])]) rfl ?_
  unfold B_holds_1 sRet eAndV tB1
  rw [call2 rfl rfl, beyond2, call2 rfl rfl, beyond2]
  cases ([decide (a0 ≤ p0), decide (a1 ≤ p1)].all id) <;> rfl
theorem gap2 (p0 p1 l0 l1 h0 h1 : Int) : d_gap [.tup [.int p0, .int p1], .tup [.tup [.int l0, .int l1], .tup [.int h0, .int h1]]] = some (.int (bestI [m3 0 (l0 - p0) (p0 - h0), m3 0 (l1 - p1) (p1 - h1)])) := by kernel_rfl
theorem far2 (p0 p1 l0 l1 h0 h1 : Int) : d_law_far [.tup [.int p0, .int p1], .tup [.tup [.int l0, .int l1], .tup [.int h0, .int h1]]] = some (.int (farS (farS 0 p0 l0 h0) p1 l1 h1)) := by
  show (B_law_far_0 [.fz (.tup [.int p0, .int p1]), .fz (.tup [.tup [.int l0, .int l1], .tup [.int h0, .int h1]]), .no, .no]).bind outD = _
  unfold B_law_far_0
  refine seqset (d := .int 0) rfl ?_
  unfold B_law_far_1
  refine seq_out (ρ' := [.fz (.tup [.int p0, .int p1]), .fz (.tup [.tup [.int l0, .int l1], .tup [.int h0, .int h1]]), .fz (.int (farS (farS 0 p0 l0 h0) p1 l1 h1)), .fz (.int 1)]) ?_ rfl
  have src : iR (eLen (eV 0)) [.fz (.tup [.int p0, .int p1]), .fz (.tup [.tup [.int l0, .int l1], .tup [.int h0, .int h1]]), .fz (.int 0), .no] = some [.int 0, .int 1] := by kernel_rfl
  show sFor (iR (eLen (eV 0))) (gN 3) L1_law_far_0 [.fz (.tup [.int p0, .int p1]), .fz (.tup [.tup [.int l0, .int l1], .tup [.int h0, .int h1]]), .fz (.int 0), .no] = _
  unfold sFor
  rw [src, Option.bind_some]
  rw [forF_nx rfl (far_step (p := p0) (l := l0) (h := h0) rfl rfl rfl), forF_nx rfl (far_step (p := p1) (l := l1) (h := h1) rfl rfl rfl)]
  rfl
theorem best2 (p0 p1 l0 l1 h0 h1 : Int) (q0 : l0 ≤ h0) (q1 : l1 ≤ h1) : bestI [m3 0 (l0 - p0) (p0 - h0), m3 0 (l1 - p1) (p1 - h1)] = farS (farS 0 p0 l0 h0) p1 l1 h1 := by
  refine same_le fun t => ?_
  rw [best_le2, m3_le, m3_le, farS_le (by first | exact Int.le_refl _ | exact farS_nn _ _ _ _ (by first | exact Int.le_refl _ | exact farS_nn _ _ _ _ (Int.le_refl _))) q1, farS_le (by first | exact Int.le_refl _ | exact farS_nn _ _ _ _ (by first | exact Int.le_refl _ | exact farS_nn _ _ _ _ (Int.le_refl _))) q0]
  omega
theorem tail2 {c v S l0 l1 h0 h1 x1 y : Int} {x2 : D} (hv : LV v S) (y0 : 0 ≤ y) (b0 : 0 ≤ l0 ∧ l0 ≤ h0 ∧ h0 ≤ S - 1) (b1 : 0 ≤ l1 ∧ l1 ≤ h1 ∧ h1 ≤ S - 1) : (B_law_good_6 [.fz (.int c), .fz (.int x1), .fz x2, .fz (.int v), .fz (.tup [.tup [.int l0, .int l1], .tup [.int h0, .int h1]]), .fz (.int y), .no, .no, .no, .no, .no, .no]).bind outD = some (.bl true) := by
  have hS := hv.pos
  obtain ⟨p0, p1, w0, w1, pl⟩ := place2 c v S l0 l1 (.tup [.int h0, .int h1]) hv
  unfold B_law_good_6
  refine seqset (d := .tup [.tup [.int (gl l0 y), .int (gl l1 y)], .tup [.int (gh S h0 y), .int (gh S h1 y)]]) ((call3 rfl rfl rfl).trans (grown2 hv)) ?_
  unfold B_law_good_7
  refine seqset (d := .int S) (hv.shl rfl) ?_
  unfold B_law_good_8
  refine seqset (d := .tup [.int (gl l0 y), .int (gl l1 y)]) (by kernel_rfl) ?_
  unfold B_law_good_9
  refine seqset (d := .tup [.int (gh S h0 y), .int (gh S h1 y)]) (by kernel_rfl) ?_
  unfold B_law_good_10
  refine seqif (or_no (by kernel_rfl) (ne_same (d := .tup [.tup [.int (gl l0 y), .int (gl l1 y)], .tup [.int (gh S h0 y), .int (gh S h1 y)]]) rfl rfl (by simp [eqD, eqDs]))) ?_
  unfold B_law_good_11
  refine seqset (d := .tup [.int p0, .int p1]) ((call3 rfl rfl rfl).trans pl) ?_
  unfold B_law_good_12
  refine seqset (d := .int (bestI [m3 0 (l0 - p0) (p0 - h0), m3 0 (l1 - p1) (p1 - h1)])) ((call2 rfl rfl).trans (gap2 p0 p1 l0 l1 h0 h1)) ?_
  have bf := best2 p0 p1 l0 l1 h0 h1 b0.2.1 b1.2.1
  have bl := fun t => best_le2 (t := t) (m3 0 (l0 - p0) (p0 - h0)) (m3 0 (l1 - p1) (p1 - h1))
  have bn : 0 ≤ bestI [m3 0 (l0 - p0) (p0 - h0), m3 0 (l1 - p1) (p1 - h1)] := by rw [bf]; exact farS_nn _ _ _ _ (farS_nn _ _ _ _ (Int.le_refl _))
  unfold B_law_good_13
  refine seqif (or_no (by kernel_rfl) (ne_same (d := .int (bestI [m3 0 (l0 - p0) (p0 - h0), m3 0 (l1 - p1) (p1 - h1)])) rfl ((call2 rfl rfl).trans (by rw [bf]; exact far2 p0 p1 l0 l1 h0 h1)) (by simp [eqD]))) ?_
  unfold B_law_good_14 sRet
  generalize hf : bestI [m3 0 (l0 - p0) (p0 - h0), m3 0 (l1 - p1) (p1 - h1)] = f at bf bl bn
  have t1 : (([decide (gl l0 y ≤ p0), decide (gl l1 y ≤ p1)].all id) && ([decide (p0 ≤ gh S h0 y), decide (p1 ≤ gh S h1 y)].all id)) = decide (f ≤ y) := by
    rw [Bool.eq_iff_iff]
    simp only [List.all_cons, List.all_nil, Bool.and_eq_true, Bool.and_true, decide_eq_true_eq, id, gl_le, gh_le, bl, m3_le]
    omega
  have t2 : (([decide (l0 ≤ p0), decide (l1 ≤ p1)].all id) && ([decide (p0 ≤ h0), decide (p1 ≤ h1)].all id)) = (f == 0) := by
    rw [Bool.eq_iff_iff]
    have b00 := bl 0
    simp only [List.all_cons, List.all_nil, Bool.and_eq_true, Bool.and_true, decide_eq_true_eq, id, beq_iff_eq, m3_le] at b00 ⊢
    omega
  rw [and_yes (eq_bools ((call2 rfl rfl).trans ((holds2 (gl l0 y) (gl l1 y) (gh S h0 y) (gh S h1 y) p0 p1).trans (by rw [t1]))) rfl) (eq_bools ((call2 rfl rfl).trans ((holds2 l0 l1 h0 h1 p0 p1).trans (by rw [t2]))) rfl)]
  rfl
theorem grown3 {v S l0 l1 l2 h0 h1 h2 y : Int} (hv : LV v S) : d_grown [.tup [.tup [.int l0, .int l1, .int l2], .tup [.int h0, .int h1, .int h2]], .int y, .int v] = some (.tup [.tup [.int (gl l0 y), .int (gl l1 y), .int (gl l2 y)], .tup [.int (gh S h0 y), .int (gh S h1 y), .int (gh S h2 y)]]) := by
  show (B_grown_0 [.fz (.tup [.tup [.int l0, .int l1, .int l2], .tup [.int h0, .int h1, .int h2]]), .fz (.int y), .fz (.int v), .no, .no, .no, .no, .no]).bind outD = _
  unfold B_grown_0
  refine seq_out (ρ' := [.fz (.tup [.tup [.int l0, .int l1, .int l2], .tup [.int h0, .int h1, .int h2]]), .fz (.int y), .fz (.int v), .fz (.tup [.int l0, .int l1, .int l2]), .fz (.tup [.int h0, .int h1, .int h2]), .no, .no, .no]) rfl ?_
  unfold B_grown_1
  refine seqset (d := .int (S - 1)) (eI_eq ((call2 rfl rfl).trans hv.full) rfl rfl) ?_
  kernel_rfl
theorem beyond3 (a0 a1 a2 b0 b1 b2 : Int) : d_not_beyond [.tup [.int a0, .int a1, .int a2], .tup [.int b0, .int b1, .int b2]] = some (.bl ([decide (a0 ≤ b0), decide (a1 ≤ b1), decide (a2 ≤ b2)].all id)) := by kernel_rfl
theorem holds3 (a0 a1 a2 b0 b1 b2 p0 p1 p2 : Int) : d_holds [.tup [.tup [.int a0, .int a1, .int a2], .tup [.int b0, .int b1, .int b2]], .tup [.int p0, .int p1, .int p2]] = some (.bl (([decide (a0 ≤ p0), decide (a1 ≤ p1), decide (a2 ≤ p2)].all id) && ([decide (p0 ≤ b0), decide (p1 ≤ b1), decide (p2 ≤ b2)].all id))) := by
  show (B_holds_0 [.fz (.tup [.tup [.int a0, .int a1, .int a2], .tup [.int b0, .int b1, .int b2]]), .fz (.tup [.int p0, .int p1, .int p2]), .no, .no]).bind outD = _
  unfold B_holds_0
  refine seq_out (ρ' := [.fz (.tup [.tup [.int a0, .int a1, .int a2], .tup [.int b0, .int b1, .int b2]]), .fz (.tup [.int p0, .int p1, .int p2]), .fz (.tup [.int a0, .int a1, .int a2]), .fz (.tup [.int b0, .int b1, .int b2])]) rfl ?_
  unfold B_holds_1 sRet eAndV tB1
  rw [call2 rfl rfl, beyond3, call2 rfl rfl, beyond3]
  cases ([decide (a0 ≤ p0), decide (a1 ≤ p1), decide (a2 ≤ p2)].all id) <;> rfl
theorem gap3 (p0 p1 p2 l0 l1 l2 h0 h1 h2 : Int) : d_gap [.tup [.int p0, .int p1, .int p2], .tup [.tup [.int l0, .int l1, .int l2], .tup [.int h0, .int h1, .int h2]]] = some (.int (bestI [m3 0 (l0 - p0) (p0 - h0), m3 0 (l1 - p1) (p1 - h1), m3 0 (l2 - p2) (p2 - h2)])) := by kernel_rfl
theorem far3 (p0 p1 p2 l0 l1 l2 h0 h1 h2 : Int) : d_law_far [.tup [.int p0, .int p1, .int p2], .tup [.tup [.int l0, .int l1, .int l2], .tup [.int h0, .int h1, .int h2]]] = some (.int (farS (farS (farS 0 p0 l0 h0) p1 l1 h1) p2 l2 h2)) := by
  show (B_law_far_0 [.fz (.tup [.int p0, .int p1, .int p2]), .fz (.tup [.tup [.int l0, .int l1, .int l2], .tup [.int h0, .int h1, .int h2]]), .no, .no]).bind outD = _
  unfold B_law_far_0
  refine seqset (d := .int 0) rfl ?_
  unfold B_law_far_1
  refine seq_out (ρ' := [.fz (.tup [.int p0, .int p1, .int p2]), .fz (.tup [.tup [.int l0, .int l1, .int l2], .tup [.int h0, .int h1, .int h2]]), .fz (.int (farS (farS (farS 0 p0 l0 h0) p1 l1 h1) p2 l2 h2)), .fz (.int 2)]) ?_ rfl
  have src : iR (eLen (eV 0)) [.fz (.tup [.int p0, .int p1, .int p2]), .fz (.tup [.tup [.int l0, .int l1, .int l2], .tup [.int h0, .int h1, .int h2]]), .fz (.int 0), .no] = some [.int 0, .int 1, .int 2] := by kernel_rfl
  show sFor (iR (eLen (eV 0))) (gN 3) L1_law_far_0 [.fz (.tup [.int p0, .int p1, .int p2]), .fz (.tup [.tup [.int l0, .int l1, .int l2], .tup [.int h0, .int h1, .int h2]]), .fz (.int 0), .no] = _
  unfold sFor
  rw [src, Option.bind_some]
  rw [forF_nx rfl (far_step (p := p0) (l := l0) (h := h0) rfl rfl rfl), forF_nx rfl (far_step (p := p1) (l := l1) (h := h1) rfl rfl rfl), forF_nx rfl (far_step (p := p2) (l := l2) (h := h2) rfl rfl rfl)]
  rfl
theorem best3 (p0 p1 p2 l0 l1 l2 h0 h1 h2 : Int) (q0 : l0 ≤ h0) (q1 : l1 ≤ h1) (q2 : l2 ≤ h2) : bestI [m3 0 (l0 - p0) (p0 - h0), m3 0 (l1 - p1) (p1 - h1), m3 0 (l2 - p2) (p2 - h2)] = farS (farS (farS 0 p0 l0 h0) p1 l1 h1) p2 l2 h2 := by
  refine same_le fun t => ?_
  rw [best_le3, m3_le, m3_le, m3_le, farS_le (by first | exact Int.le_refl _ | exact farS_nn _ _ _ _ (by first | exact Int.le_refl _ | exact farS_nn _ _ _ _ (Int.le_refl _))) q2, farS_le (by first | exact Int.le_refl _ | exact farS_nn _ _ _ _ (by first | exact Int.le_refl _ | exact farS_nn _ _ _ _ (Int.le_refl _))) q1, farS_le (by first | exact Int.le_refl _ | exact farS_nn _ _ _ _ (by first | exact Int.le_refl _ | exact farS_nn _ _ _ _ (Int.le_refl _))) q0]
  omega
theorem tail3 {c v S l0 l1 l2 h0 h1 h2 x1 y : Int} {x2 : D} (hv : LV v S) (y0 : 0 ≤ y) (b0 : 0 ≤ l0 ∧ l0 ≤ h0 ∧ h0 ≤ S - 1) (b1 : 0 ≤ l1 ∧ l1 ≤ h1 ∧ h1 ≤ S - 1) (b2 : 0 ≤ l2 ∧ l2 ≤ h2 ∧ h2 ≤ S - 1) : (B_law_good_6 [.fz (.int c), .fz (.int x1), .fz x2, .fz (.int v), .fz (.tup [.tup [.int l0, .int l1, .int l2], .tup [.int h0, .int h1, .int h2]]), .fz (.int y), .no, .no, .no, .no, .no, .no]).bind outD = some (.bl true) := by
  have hS := hv.pos
  obtain ⟨p0, p1, p2, w0, w1, w2, pl⟩ := place3 c v S l0 l1 l2 (.tup [.int h0, .int h1, .int h2]) hv
  unfold B_law_good_6
  refine seqset (d := .tup [.tup [.int (gl l0 y), .int (gl l1 y), .int (gl l2 y)], .tup [.int (gh S h0 y), .int (gh S h1 y), .int (gh S h2 y)]]) ((call3 rfl rfl rfl).trans (grown3 hv)) ?_
  unfold B_law_good_7
  refine seqset (d := .int S) (hv.shl rfl) ?_
  unfold B_law_good_8
  refine seqset (d := .tup [.int (gl l0 y), .int (gl l1 y), .int (gl l2 y)]) (by kernel_rfl) ?_
  unfold B_law_good_9
  refine seqset (d := .tup [.int (gh S h0 y), .int (gh S h1 y), .int (gh S h2 y)]) (by kernel_rfl) ?_
  unfold B_law_good_10
  refine seqif (or_no (by kernel_rfl) (ne_same (d := .tup [.tup [.int (gl l0 y), .int (gl l1 y), .int (gl l2 y)], .tup [.int (gh S h0 y), .int (gh S h1 y), .int (gh S h2 y)]]) rfl rfl (by simp [eqD, eqDs]))) ?_
  unfold B_law_good_11
  refine seqset (d := .tup [.int p0, .int p1, .int p2]) ((call3 rfl rfl rfl).trans pl) ?_
  unfold B_law_good_12
  refine seqset (d := .int (bestI [m3 0 (l0 - p0) (p0 - h0), m3 0 (l1 - p1) (p1 - h1), m3 0 (l2 - p2) (p2 - h2)])) ((call2 rfl rfl).trans (gap3 p0 p1 p2 l0 l1 l2 h0 h1 h2)) ?_
  have bf := best3 p0 p1 p2 l0 l1 l2 h0 h1 h2 b0.2.1 b1.2.1 b2.2.1
  have bl := fun t => best_le3 (t := t) (m3 0 (l0 - p0) (p0 - h0)) (m3 0 (l1 - p1) (p1 - h1)) (m3 0 (l2 - p2) (p2 - h2))
  have bn : 0 ≤ bestI [m3 0 (l0 - p0) (p0 - h0), m3 0 (l1 - p1) (p1 - h1), m3 0 (l2 - p2) (p2 - h2)] := by rw [bf]; exact farS_nn _ _ _ _ (farS_nn _ _ _ _ (farS_nn _ _ _ _ (Int.le_refl _)))
  unfold B_law_good_13
  refine seqif (or_no (by kernel_rfl) (ne_same (d := .int (bestI [m3 0 (l0 - p0) (p0 - h0), m3 0 (l1 - p1) (p1 - h1), m3 0 (l2 - p2) (p2 - h2)])) rfl ((call2 rfl rfl).trans (by rw [bf]; exact far3 p0 p1 p2 l0 l1 l2 h0 h1 h2)) (by simp [eqD]))) ?_
  unfold B_law_good_14 sRet
  generalize hf : bestI [m3 0 (l0 - p0) (p0 - h0), m3 0 (l1 - p1) (p1 - h1), m3 0 (l2 - p2) (p2 - h2)] = f at bf bl bn
  have t1 : (([decide (gl l0 y ≤ p0), decide (gl l1 y ≤ p1), decide (gl l2 y ≤ p2)].all id) && ([decide (p0 ≤ gh S h0 y), decide (p1 ≤ gh S h1 y), decide (p2 ≤ gh S h2 y)].all id)) = decide (f ≤ y) := by
    rw [Bool.eq_iff_iff]
    simp only [List.all_cons, List.all_nil, Bool.and_eq_true, Bool.and_true, decide_eq_true_eq, id, gl_le, gh_le, bl, m3_le]
    omega
  have t2 : (([decide (l0 ≤ p0), decide (l1 ≤ p1), decide (l2 ≤ p2)].all id) && ([decide (p0 ≤ h0), decide (p1 ≤ h1), decide (p2 ≤ h2)].all id)) = (f == 0) := by
    rw [Bool.eq_iff_iff]
    have b00 := bl 0
    simp only [List.all_cons, List.all_nil, Bool.and_eq_true, Bool.and_true, decide_eq_true_eq, id, beq_iff_eq, m3_le] at b00 ⊢
    omega
  rw [and_yes (eq_bools ((call2 rfl rfl).trans ((holds3 (gl l0 y) (gl l1 y) (gl l2 y) (gh S h0 y) (gh S h1 y) (gh S h2 y) p0 p1 p2).trans (by rw [t1]))) rfl) (eq_bools ((call2 rfl rfl).trans ((holds3 l0 l1 l2 h0 h1 h2 p0 p1 p2).trans (by rw [t2]))) rfl)]
  rfl
theorem by_eq {c v S x1 : Int} {x2 x4 : D} {ρr : List B} (hv : LV v S) : ∃ y, 0 ≤ y ∧ eIx (eL (lDisp (aCons (eMod (eV 0) (eC (.int 6))) (aCons (eMod (eV 0) (eC (.int 6))) (aCons (eShl (eC (.int 1)) (eV 3)) (aCons (eMod (eV 0) (ePow (eC (.int 10)) (eC (.int 20)))) aNil)))))) (eMod (eDiv (eV 1) (eC (.int 20))) (eC (.int 4))) (.fz (.int c) :: .fz (.int x1) :: .fz x2 :: .fz (.int v) :: ρr) = some (.int y) := by
  have hS := hv.pos
  have h6 := Int.emod_nonneg c (show (6 : Int) ≠ 0 by decide)
  have h20 := Int.emod_nonneg c (show (10 ^ 20 : Int) ≠ 0 by decide)
  have e : eL (lDisp (aCons (eMod (eV 0) (eC (.int 6))) (aCons (eMod (eV 0) (eC (.int 6))) (aCons (eShl (eC (.int 1)) (eV 3)) (aCons (eMod (eV 0) (ePow (eC (.int 10)) (eC (.int 20)))) aNil))))) (.fz (.int c) :: .fz (.int x1) :: .fz x2 :: .fz (.int v) :: ρr) = some (.lst [.int (c % 6), .int (c % 6), .int S, .int (c % 10 ^ 20)]) := by
    refine eL_eq ?_
    unfold lDisp
    rw [aCons_eq (d := .int (c % 6)) rfl (aCons_eq (d := .int (c % 6)) rfl (aCons_eq (d := .int S) (hv.shl rfl) (aCons_eq (d := .int (c % 10 ^ 20)) (eI_eq (i := c) (j := 10 ^ 20) (g := fun i j => i % j) (C := fun _ j => decide (0 < j)) rfl (eI_eq (i := 10) (j := 20) (g := fun i j => i ^ j.toNat) (C := cPow) rfl rfl rfl) (by decide)) rfl)))]
    rfl
  have i : eMod (eDiv (eV 1) (eC (.int 20))) (eC (.int 4)) (.fz (.int c) :: .fz (.int x1) :: .fz x2 :: .fz (.int v) :: ρr) = some (.int (x1 / 20 % 4)) := eI_eq (eI_eq rfl rfl rfl) rfl rfl
  unfold eIx
  rw [e, i]
  have : x1 / 20 % 4 = 0 ∨ x1 / 20 % 4 = 1 ∨ x1 / 20 % 4 = 2 ∨ x1 / 20 % 4 = 3 := by omega
  rcases this with q | q | q | q <;> rw [q]
  · exact ⟨_, h6, rfl⟩
  · exact ⟨_, h6, rfl⟩
  · exact ⟨S, by omega, rfl⟩
  · exact ⟨_, h20, rfl⟩
theorem good_eq (c : Int) : d_law_good [.int c] = some (.bl true) := by
  obtain ⟨x1, x0, hx⟩ := mix_eq c 0 1000003 (by decide) (by decide) (by decide) (by decide)
  obtain ⟨v, S, hat, hv⟩ := levels (x1 / 2 % 10) (by omega) (by omega)
  show (B_law_good_0 [.fz (.int c), .no, .no, .no, .no, .no, .no, .no, .no, .no, .no, .no]).bind outD = _
  unfold B_law_good_0
  refine seqset (d := .int x1) ((call3 rfl rfl rfl).trans hx) ?_
  unfold B_law_good_1
  refine seqset (d := .int (2 + x1 % 2)) (eI_eq rfl (eI_eq rfl rfl rfl) rfl) ?_
  unfold B_law_good_2
  refine seqset (d := .int v) (by
    unfold eIx
    rw [show eMod (eDiv (eV 1) (eC (.int 2))) (eC (.int 10)) _ = some (.int (x1 / 2 % 10)) from eI_eq (eI_eq rfl rfl rfl) rfl rfl]
    exact hat) ?_
  have fin : ∀ (n : Int) (bx : D), d_law_box [.int c, .int n, .int v, .int 5] = some bx → d_law_floors [bx, .int n, .int v, .int (c % 10 ^ 9)] = some (.bl true) → (∀ y, 0 ≤ y → (B_law_good_6 [.fz (.int c), .fz (.int x1), .fz (.int n), .fz (.int v), .fz bx, .fz (.int y), .no, .no, .no, .no, .no, .no]).bind outD = some (.bl true)) →
      (B_law_good_3 [.fz (.int c), .fz (.int x1), .fz (.int n), .fz (.int v), .no, .no, .no, .no, .no, .no, .no, .no]).bind outD = some (.bl true) := fun n bx h1 h2 h3 => by
    unfold B_law_good_3
    refine seqset (d := bx) ((call4 rfl rfl rfl rfl).trans h1) ?_
    unfold B_law_good_4
    refine seqif (not_t ((call4 rfl rfl rfl (eI_eq rfl (eI_eq rfl rfl rfl) (by decide))).trans h2)) ?_
    obtain ⟨y, y0, hy⟩ := by_eq (c := c) (x1 := x1) (x2 := .int n) (x4 := bx) (ρr := [.fz bx, .no, .no, .no, .no, .no, .no, .no]) hv
    unfold B_law_good_5
    exact seqset (d := .int y) hy (h3 y y0)
  have hd : x1 % 2 = 0 ∨ x1 % 2 = 1 := by omega
  rcases hd with hd | hd <;> rw [hd]
  · obtain ⟨l0, l1, h0, h1, b0, b1, e⟩ := box2 c v S hv
    exact fin 2 _ e (floors2 hv b0 b1) fun y y0 => tail2 hv y0 b0 b1
  · obtain ⟨l0, l1, l2, h0, h1, h2, b0, b1, b2, e⟩ := box3 c v S hv
    exact fin 3 _ e (floors3 hv b0 b1 b2) fun y y0 => tail3 hv y0 b0 b1 b2
theorem law_true (ns : List Int) (h : ns.length ≤ 63) : d_law [.lst (ns.map .int)] = some (.bl true) := by
  have hc : cutD (ns.map .int) none (some 60) = (ns.take 60).map .int := by
    unfold cutD
    have z2 : ∀ m : Nat, HT.sIx m m (some (60 : Int)) = min 60 m := fun m => HT.sIx_nat m m 60
    rw [HT.sIx_none, z2, List.drop_zero, Nat.sub_zero, List.length_map, List.map_take]
    rw [List.take_eq_take_iff, List.length_map]
    omega
  have src : lCat (lDisp (aCons (eLen (eV 0)) aNil)) (lSlice (eV 0) oNo (oSome (eC (.int 60)))) [.fz (.lst (ns.map .int)), .no] = some (((ns.length : Int) :: ns.take 60).map .int) := by
    have e1 : lDisp (aCons (eLen (eV 0)) aNil) [.fz (.lst (ns.map .int)), .no] = some [.int ns.length] := by
      show okL [D.int ((ns.map D.int).length : Nat)] = _
      rw [List.length_map]; rfl
    have e2 : lSlice (eV 0) oNo (oSome (eC (.int 60))) [.fz (.lst (ns.map .int)), .no] = some ((ns.take 60).map .int) := by
      simp only [lSlice, oSome, oNo, eV, eC, getB, List.getElem?_cons_zero, Option.bind_some, hc]
    unfold lCat
    rw [e1, e2, Option.bind_some, Option.bind_some]
    rw [okL_le (by simp; omega)]
    rfl
  obtain ⟨ρ', e, x1, rfl⟩ := forF_all (g := gN 1) (body := L1_law_0) (P := fun ρ => ∃ x1, ρ = [.fz (.lst (ns.map .int)), x1]) (((ns.length : Int) :: ns.take 60).map .int) (fun d hd ρ hρ => by
      obtain ⟨c, _, rfl⟩ := List.mem_map.mp hd
      obtain ⟨x1, rfl⟩ := hρ
      refine ⟨_, [.fz (.lst (ns.map .int)), .fz (.int c)], rfl, ?_, _, rfl⟩
      unfold L1_law_0 sIf tNotF tB1
      rw [eCall_eq (n := 1) (ds := [.int c]) rfl rfl, good_eq c]
      rfl) [.fz (.lst (ns.map .int)), .no] ⟨_, rfl⟩
  have es : sFor (lCat (lDisp (aCons (eLen (eV 0)) aNil)) (lSlice (eV 0) oNo (oSome (eC (.int 60))))) (gN 1) L1_law_0 [.fz (.lst (ns.map .int)), .no] = some (.nx [.fz (.lst (ns.map .int)), x1]) := by
    unfold sFor; rw [src, Option.bind_some]; exact e
  exact seq_out (g := B_law_1) es rfl
end My

open PySem PySem.W PyProof.Rows
set_option maxRecDepth 100000 in
set_option maxHeartbeats 0 in
theorem PySem.Challenge.cw_curveyard_k20_boxes_on_floors_holds : PySem.Challenge.rw_curveyard_k20_boxes_on_floors.Holds := by
  w_on; o_law; k_head; (case hw => w_witness2)
  k_fill
  refine L2.walk_of (l := PySem.Challenge.rw_curveyard_k20_boxes_on_floors) (n := 63) (k := 6) (x := "_law_script") (CX := fun _ => L2.CX0) (sp := fun w => L2.spF _ 1 My.d_law) rfl (by decide) rfl ⟨rfl, by decide, by decide⟩ (fun w h Y => PySem.W.kIn_of Y) ?F (fun w H a ns hl hO hS => My.law_ok hS (My.law_true ns hl)) (fun _ _ _ _ _ z => z)
  case F =>
    intro w mg fa h KX G hmg
    refine' My.all_mk KX G hmg ?a0 ?l0 ?c0 ?k0 ?a1 ?l1 ?c1 ?k1 ?a2 ?l2 ?c2 ?k2 ?a3 ?l3 ?c3 ?k3 ?a4 ?l4 ?c4 ?k4 ?a5 ?l5 ?c5 ?k5 ?a6 ?l6 ?c6 ?k6 ?a7 ?l7 ?c7 ?k7 ?a8 ?l8 ?c8 ?k8 ?a9 ?l9 ?c9 ?k9 ?a10 ?l10 ?c10 ?k10 ?a11 ?l11 ?c11 ?k11 ?a12 ?l12 ?c12 ?k12 ?a13 ?l13 ?c13 ?k13 ?a14 ?l14 ?c14 ?k14 ?a15 ?l15 ?c15 ?k15 ?a16 ?l16 ?c16 ?k16 ?a17 ?l17 ?c17 ?k17 ?z_all ?z_bool ?z_int ?z_isinstance ?z_len ?z_max ?z_min ?z_range ?z_tuple ?z_zip
    (case a0 => k_is)
    (case l0 => k_is)
    (case c0 => k_is)
    (case k0 => k_is)
    (case a1 => k_is)
    (case l1 => k_is)
    (case c1 => k_is)
    (case k1 => k_is)
    (case a2 => k_is)
    (case l2 => k_is)
    (case c2 => k_is)
    (case k2 => k_is)
    (case a3 => k_is)
    (case l3 => k_is)
    (case c3 => k_is)
    (case k3 => k_is)
    (case a4 => k_is)
    (case l4 => k_is)
    (case c4 => k_is)
    (case k4 => k_is)
    (case a5 => k_is)
    (case l5 => k_is)
    (case c5 => k_is)
    (case k5 => k_is)
    (case a6 => k_is)
    (case l6 => k_is)
    (case c6 => k_is)
    (case k6 => k_is)
    (case a7 => k_is)
    (case l7 => k_is)
    (case c7 => k_is)
    (case k7 => k_is)
    (case a8 => k_is)
    (case l8 => k_is)
    (case c8 => k_is)
    (case k8 => k_is)
    (case a9 => k_is)
    (case l9 => k_is)
    (case c9 => k_is)
    (case k9 => k_is)
    (case a10 => k_is)
    (case l10 => k_is)
    (case c10 => k_is)
    (case k10 => k_is)
    (case a11 => k_is)
    (case l11 => k_is)
    (case c11 => k_is)
    (case k11 => k_is)
    (case a12 => k_is)
    (case l12 => k_is)
    (case c12 => k_is)
    (case k12 => k_is)
    (case a13 => k_is)
    (case l13 => k_is)
    (case c13 => k_is)
    (case k13 => k_is)
    (case a14 => k_is)
    (case l14 => k_is)
    (case c14 => k_is)
    (case k14 => k_is)
    (case a15 => k_is)
    (case l15 => k_is)
    (case c15 => k_is)
    (case k15 => k_is)
    (case a16 => k_is)
    (case l16 => k_is)
    (case c16 => k_is)
    (case k16 => k_is)
    (case a17 => k_is)
    (case l17 => k_is)
    (case c17 => k_is)
    (case k17 => k_is)
    (case z_all => k_is)
    (case z_bool => k_is)
    (case z_int => k_is)
    (case z_isinstance => k_is)
    (case z_len => k_is)
    (case z_max => k_is)
    (case z_min => k_is)
    (case z_range => k_is)
    (case z_tuple => k_is)
    (case z_zip => k_is)


import PyProof.Rows.All
import Wide.All
import OpenK.AllK
import Wide.FinOn
import Lean
import PyProof.EqAt
import PyProof.EqKinds
import PyProof.TupleCall
import PyProof.TupleKey
import KE.KIntText
import KE.IntTextLaws
import PyProof.MaxThree
import PyProof.WalkInts
import KE.KRevIter
import PyProof.ListRange
import KE.RegMulBits
import PyProof.Rows.SumAny
import PyProof.Rows.RuleN_abs
import Wide.Seal
import PyProof.FactsAll.bool_1
import PyProof.DictRoadsH
import PyProof.MinMaxWalk
import PyProof.Rows.CallKwBuiltin
import PyProof.ZipIter
import PyProof.StrLaws
import PyProof.Rows.FStr
import PySem.Challenge.RW_curveyard_k42_answers_shown
set_option Elab.async false
set_option Elab.async false
set_option linter.all false
set_option maxRecDepth 100000
namespace L2
open PySem PySem.Spec PyProof.Rows

noncomputable abbrev Key := Sum Int Str
noncomputable def keyIs : Key → Value → Bool
  | .inl k, v => Value.isInt k v
  | .inr x, v => Value.isStrOf x v
noncomputable def keyH (w : World) : Key → Int
  | .inl k => hashInt k
  | .inr x => hashStr w x
theorem keyIs_shape : ∀ {k : Key} {v : Value}, keyIs k v = true → (∃ i t, k = Sum.inl i ∧ v = Value.int i t) ∨ (∃ x t, k = Sum.inr x ∧ v = Value.str x t)
  | .inl i, v, h => by
    obtain ⟨t, e⟩ := Value.isInt_shape (k := i) (v := v) h
    exact .inl ⟨i, t, rfl, e⟩
  | .inr x, v, h => by
    obtain ⟨t, e⟩ := Value.isStrOf_shape (x := x) (v := v) h
    exact .inr ⟨x, t, rfl, e⟩
theorem key_ll (a b : Int) : decide ((Sum.inl a : Key) = Sum.inl b) = (a == b) := by
  by_cases e : a = b
  · subst e; simp
  · have h : ¬ (Sum.inl a : Key) = Sum.inl b := fun q => e (Sum.inl.inj q)
    rw [decide_eq_false h]
    exact (beq_eq_false_iff_ne.mpr e).symm
theorem key_rr (a b : Str) : decide ((Sum.inr a : Key) = Sum.inr b) = decide (a = b) := by
  by_cases e : a = b
  · subst e; simp
  · have h : ¬ (Sum.inr a : Key) = Sum.inr b := fun q => e (Sum.inr.inj q)
    rw [decide_eq_false h, decide_eq_false e]
theorem key_lr (a : Int) (b : Str) : decide ((Sum.inl a : Key) = Sum.inr b) = false := decide_eq_false (fun q => nomatch q)
theorem key_rl (a : Str) (b : Int) : decide ((Sum.inr a : Key) = Sum.inl b) = false := decide_eq_false (fun q => nomatch q)

noncomputable def mixKind (prog : Program) (w : World) : PySem.KeyKind prog w Key where
  is := keyIs
  hash := keyH w
  inj := fun v a b ha hb => by
    rcases keyIs_shape ha with ⟨i, t, rfl, rfl⟩ | ⟨x, t, rfl, rfl⟩
    · rcases keyIs_shape hb with ⟨j, u, rfl, e⟩ | ⟨y, u, rfl, e⟩
      · injection e with e1 _; rw [e1]
      · exact nomatch e
    · rcases keyIs_shape hb with ⟨j, u, rfl, e⟩ | ⟨y, u, rfl, e⟩
      · exact nomatch e
      · injection e with e1 _; rw [e1]
  byValue := fun k v h => by
    rcases keyIs_shape h with ⟨i, t, rfl, rfl⟩ | ⟨x, t, rfl, rfl⟩ <;> rfl
  pyHash := fun hv h => by
    rcases keyIs_shape hv with ⟨i, t, rfl, rfl⟩ | ⟨x, t, rfl, rfl⟩
    · exact wpAny_pyHash_int h
    · exact wpAny_pyHash_str h
  eqBool := fun hu hv h => by
    rcases keyIs_shape hu with ⟨i, t, rfl, rfl⟩ | ⟨x, t, rfl, rfl⟩
    · rcases keyIs_shape hv with ⟨j, u, rfl, rfl⟩ | ⟨y, u, rfl, rfl⟩
      · rw [key_ll] at h; exact wpAny_eqBool_int h
      · rw [key_lr] at h; exact SeqAt.EqAt.int_str i t y u _ _ _ _ h
    · rcases keyIs_shape hv with ⟨j, u, rfl, rfl⟩ | ⟨y, u, rfl, rfl⟩
      · rw [key_rl] at h; exact SeqAt.EqAt.str_int x t j u _ _ _ _ h
      · rw [key_rr] at h; exact wpAny_eqBool_str h
  «strs» := fun k x t v h => by
    rcases keyIs_shape h with ⟨i, u, rfl, e⟩ | ⟨y, u, rfl, e⟩
    · exact nomatch e
    · injection e with e1 _
      subst e1
      cases v <;> rfl

end L2

namespace L2
open PySem PySem.Spec PyProof.Rows

inductive V where
  | non | bl (b : Bool) | int (i : Int) | str (x : Str) | byt (b : Array UInt8) | flt (b : UInt64) | ref (a : Addr) | ty (n : String)
  deriving DecidableEq

noncomputable def RelV : V → Value → Prop
  | .non, u => u = Value.none
  | .bl b, u => u = Value.bool b
  | .int i, u => ∃ t, u = Value.int i t
  | .str x, u => ∃ t, u = Value.str x t
  | .byt b, u => ∃ t, u = Value.bytes b t
  | .flt b, u => ∃ t, u = Value.float b t
  | .ref a, u => u = Value.ref a
  | .ty n, u => u = Value.type n

noncomputable abbrev Vals : List V → List Value → Prop := Paired RelV
theorem Vals.length {xs : List V} {us : List Value} (r : Vals xs us) : xs.length = us.length := Paired.length r
theorem Vals.get : ∀ {xs : List V} {us : List Value} {i : Nat} {x : V}, Vals xs us → xs[i]? = some x → ∃ u, us[i]? = some u ∧ RelV x u
  | _, _, _, _, .nil, e => by simp at e
  | _, _, 0, _, .cons r _, e => by simp at e; subst e; exact ⟨_, rfl, r⟩
  | _, _, i + 1, x, .cons _ t, e => by
    obtain ⟨u, h1, h2⟩ := Vals.get (i := i) (x := x) t (by simpa using e)
    exact ⟨u, by simpa using h1, h2⟩
theorem Vals.set {x : V} {u : Value} (r : RelV x u) : ∀ {xs : List V} {us : List Value} (i : Nat), Vals xs us → Vals (xs.set i x) (us.set i u)
  | _, _, _, .nil => .nil
  | _, _, 0, .cons _ t => .cons r t
  | _, _, i + 1, .cons q t => .cons q (Vals.set r i t)
theorem Vals.append : ∀ {xs ys : List V} {us ws : List Value}, Vals xs us → Vals ys ws → Vals (xs ++ ys) (us ++ ws)
  | _, _, _, _, .nil, s => s
  | _, _, _, _, .cons r t, s => .cons r (Vals.append t s)
theorem Vals.take : ∀ {xs : List V} {us : List Value} (n : Nat), Vals xs us → Vals (xs.take n) (us.take n)
  | _, _, 0, _ => .nil
  | _, _, _ + 1, .nil => .nil
  | _, _, n + 1, .cons r t => .cons r (Vals.take n t)
theorem Vals.drop : ∀ {xs : List V} {us : List Value} (n : Nat), Vals xs us → Vals (xs.drop n) (us.drop n)
  | _, _, 0, r => r
  | _, _, _ + 1, .nil => .nil
  | _, _, n + 1, .cons _ t => Vals.drop n t
noncomputable def RelO : Option V → Option Value → Prop
  | some v, some u => RelV v u
  | none, none => True
  | _, _ => False
noncomputable def KV {κ : Type} : List (κ × V) → List (κ × Value) → Prop := Paired fun (p : κ × V) (q : κ × Value) => p.1 = q.1 ∧ RelV p.2 q.2

noncomputable def kV : Key → V
  | .inl i => .int i
  | .inr x => .str x

inductive HO where
  /-- a list -/
  | lst (xs : List V)
  /-- a tuple (never changes) -/
  | tup (xs : List V)
  /-- a dict whose keys are ints and texts; one whose keys are tuples of ints and texts (the empty one is both) -/
  | dK (kvs : List (Key × V)) | dT (kvs : List (List Key × V))
  /-- a set of ints: its members, its size -/
  | set (S : Int → Bool) (n : Nat)
  /-- an instance of the class at C, its dict at dx, its attributes -/
  | ins (C dx : Addr) (fs : List (Str × V))
  /-- the dict of the instance at x -/
  | own (x : Addr)
  /-- the dict of an exception -/
  | xd (fs : List (Str × V))
  /-- a bound method, f of x -/
  | met (f x : Addr)
  /-- a range object lo, lo + 1, .. below hi -/
  | rng (lo hi : Int)
  /-- a thing that is known to the object (the script; a dict while a loop walks it): read, never written while it is so -/
  | frz (o : Obj) (u : HO)
  /-- a code object's table -/
  | tbl (ps : Array Value)
  /-- any other thing, by what is true of its one object (a def of one's own: SetO a S n := HO.ext fun h => ..) -/
  | ext (φ : Heap → Prop)

noncomputable abbrev Hp := Addr → Option HO
noncomputable def upd (H : Hp) (a : Addr) (o : HO) : Hp := fun b => if b = a then some o else H b
theorem upd_same {H : Hp} {a : Addr} {o : HO} : upd H a o a = some o := by unfold upd; rw [if_pos rfl]
theorem upd_ne {H : Hp} {a b : Addr} {o : HO} (h : b ≠ a) : upd H a o b = H b := by unfold upd; rw [if_neg h]
theorem ne_of_none {H : Hp} {a b : Addr} {o : HO} (h : H a = some o) (h' : H b = none) : a ≠ b := by
  intro e; subst e; rw [h] at h'; cases h'

section
variable (P : Program) (w : World)
noncomputable def ObjOk (H : Hp) (h : Heap) (a : Addr) : HO → Prop
  | .lst xs => xs.length ≤ sizeLine ∧ ∃ (its : List Value) (n : Nat), Vals xs its ∧ h.get? a = some { cls := .type "list", data := .seq its.toArray n }
  | .tup xs => xs.length ≤ sizeLine ∧ ∃ its : List Value, Vals xs its ∧ IsTup h a its.toArray
  | .dK kvs => kvs.length ≤ sizeLine ∧ (a == sysModules) = false ∧ ∃ vs, KV kvs vs ∧ h.DictOf (mixKind P w) a vs
  | .dT kvs => kvs.length ≤ sizeLine ∧ (a == sysModules) = false ∧ ∃ xs : List (List Key × Addr × Value),
      Paired (fun (p : List Key × V) (q : List Key × Addr × Value) => p.1 = q.1 ∧ H q.2.1 = some (.tup (p.1.map kV)) ∧ RelV p.2 q.2.2) kvs xs ∧
      ∃ o es ep, h.get? a = some o ∧ o.ExactDict ∧ o.data = .dict es ep ∧ es.toList = xs.map (entryOfKey (tupleKind (mixKind P w))) ∧ (xs.map (·.1)).Nodup
  | .set S n => h.SetOf (intKind P w) a S n
  | .ins C dx fs => H dx = some (.own a) ∧ fs.length ≤ 1000 ∧ dx ≠ a ∧ h.get? a = some (PySem.W.instObj C dx) ∧
      ∃ mA, h.Ns1 dx mA ∧ (∀ f, RelO (fs.lookup f) (mA f)) ∧ PySem.Within mA (fs.map (·.1))
  | .own _ => ∃ o, h.get? a = some o
  | .xd fs => ∃ mA, h.Ns1 a mA ∧ ∀ f, RelO (fs.lookup f) (mA f)
  | .rng lo hi => ∃ t u v, h.get? a = some { cls := .type "range", data := .fields #[.int lo t, .int hi u, .int 1 v] }
  | .frz o u => h.get? a = some o ∧ ObjOk H h a u
  | .tbl ps => h.get? a = some { cls := .none, data := .fields ps }
  | .met f x => h.get? a = some (PySem.W.methodObj (.ref f) (.ref x))
  | .ext φ => φ h ∧ (∃ o, h.get? a = some o) ∧ ∀ h1 h2 : Heap, φ h1 → (∀ o, h1.get? a = some o → h2.get? a = some o) → φ h2
noncomputable def HOk (H : Hp) (h : Heap) : Prop := ∀ a o, H a = some o → ObjOk P w H h a o
end

section
variable {P : Program} {w : World} {H H' : Hp} {h h' : Heap} {a : Addr} {o : HO}
theorem ObjOk.lt (x : ObjOk P w H h a o) : a < h.objs.size := by
  cases o with
  | lst xs => obtain ⟨_, _, _, _, e⟩ := x; exact Heap.lt_size e
  | tup xs => obtain ⟨_, _, _, p⟩ := x; exact p.lt
  | dK kvs => obtain ⟨_, _, _, _, o, _, _, e, _⟩ := x; exact Heap.lt_size e
  | dT kvs => obtain ⟨_, _, _, _, o, _, _, e, _⟩ := x; exact Heap.lt_size e
  | set S n => obtain ⟨o, _, _, _, e, _⟩ := x; exact Heap.lt_size e
  | ins C dx fs => obtain ⟨_, _, _, e, _⟩ := x; exact Heap.lt_size e
  | own y => obtain ⟨_, e⟩ := x; exact Heap.lt_size e
  | xd fs => obtain ⟨_, ⟨_, _, _, e, _⟩, _⟩ := x; exact Heap.lt_size e
  | rng lo hi => obtain ⟨_, _, _, e⟩ := x; exact Heap.lt_size e
  | frz ob u => obtain ⟨e, _⟩ := x; exact Heap.lt_size e
  | tbl ps => exact Heap.lt_size (show h.get? a = some _ from x)
  | met f y => exact Heap.lt_size (show h.get? a = some _ from x)
  | ext φ => obtain ⟨_, ⟨_, e⟩, _⟩ := x; exact Heap.lt_size e
theorem Paired.mapP {α β : Type} {F G : α → β → Prop} : ∀ {l₁ : List α} {l₂ : List β}, Paired F l₁ l₂ → (∀ a b, F a b → G a b) → Paired G l₁ l₂
  | _, _, .nil, _ => .nil
  | _, _, .cons r t, f => .cons (f _ _ r) (Paired.mapP t f)
theorem ObjOk.stay (x : ObjOk P w H h a o) (k : ∀ b u, (b = a ∨ H b = some (.own a)) → h.get? b = some u → h'.get? b = some u)
    (ho : ∀ b, H b = some (.own a) → H' b = some (.own a)) (ht : ∀ b xs, H b = some (.tup xs) → H' b = some (.tup xs)) : ObjOk P w H' h' a o := by
  induction o with
  | lst xs => obtain ⟨z, its, n, r, e⟩ := x; exact ⟨z, its, n, r, k _ _ (.inl rfl) e⟩
  | tup xs => obtain ⟨z, its, r, ob, e, c⟩ := x; exact ⟨z, its, r, ob, k _ _ (.inl rfl) e, c⟩
  | dK kvs => obtain ⟨z, y, vs, r, ob, es, ep, e, c⟩ := x; exact ⟨z, y, vs, r, ob, es, ep, k _ _ (.inl rfl) e, c⟩
  | dT kvs =>
    obtain ⟨z, y, xs, r, ob, es, ep, e, c⟩ := x
    exact ⟨z, y, xs, Paired.mapP r fun p q z => ⟨z.1, ht _ _ z.2.1, z.2.2⟩, ob, es, ep, k _ _ (.inl rfl) e, c⟩
  | set S n => obtain ⟨ob, es, ep, t, e, c⟩ := x; exact ⟨ob, es, ep, t, k _ _ (.inl rfl) e, c⟩
  | ins C dx fs =>
    obtain ⟨d, z, ne, e, mA, ⟨od, es, ep, e2, c⟩, r⟩ := x
    exact ⟨ho _ d, z, ne, k _ _ (.inl rfl) e, mA, ⟨od, es, ep, k _ _ (.inr d) e2, c⟩, r⟩
  | own y => obtain ⟨ob, e⟩ := x; exact ⟨ob, k _ _ (.inl rfl) e⟩
  | xd fs => obtain ⟨mA, ⟨od, es, ep, e, c⟩, r⟩ := x; exact ⟨mA, ⟨od, es, ep, k _ _ (.inl rfl) e, c⟩, r⟩
  | rng lo hi => obtain ⟨t, u, v, e⟩ := x; exact ⟨t, u, v, k _ _ (.inl rfl) e⟩
  | frz ob u ih => obtain ⟨e, q⟩ := x; exact ⟨k _ _ (.inl rfl) e, ih q⟩
  | tbl ps =>
    have e : h.get? a = some { cls := .none, data := .fields ps } := x
    show h'.get? a = some { cls := .none, data := .fields ps }
    exact k a _ (.inl rfl) e
  | met f y =>
    have e : h.get? a = some (PySem.W.methodObj (.ref f) (.ref y)) := x
    show h'.get? a = some (PySem.W.methodObj (.ref f) (.ref y))
    exact k a _ (.inl rfl) e
  | ext φ => obtain ⟨p, ⟨o, e⟩, st⟩ := x; exact ⟨st _ _ p fun o q => k _ _ (.inl rfl) q, ⟨o, k _ _ (.inl rfl) e⟩, st⟩
theorem HOk.lt (x : HOk P w H h) (e : H a = some o) : a < h.objs.size := (x a o e).lt
theorem HOk.fresh (x : HOk P w H h) (e : h.objs.size ≤ a) : H a = none := by
  cases q : H a with
  | none => rfl
  | some u => exact absurd (Nat.lt_of_lt_of_le (x.lt q) e) (Nat.lt_irrefl _)
theorem HOk.kept (x : HOk P w H h) (k : ∀ b u, h.get? b = some u → h'.get? b = some u) : HOk P w H h' := fun a o e =>
  (x a o e).stay (fun b u _ q => k b u q) (fun _ q => q) fun _ _ q => q
theorem HOk.laid (x : HOk P w H h) (k : ∀ b u, h.get? b = some u → h'.get? b = some u) (hp : h.objs.size ≤ a) (new : ObjOk P w (upd H a o) h' a o) : HOk P w (upd H a o) h' := fun b u e => by
  have hn := x.fresh hp
  by_cases hb : b = a
  · subst hb; rw [upd_same] at e; cases e; exact new
  · rw [upd_ne hb] at e
    exact (x b u e).stay (fun c v _ q => k c v q) (fun c q => by rw [upd_ne (ne_of_none q hn)]; exact q) fun c xs q => by rw [upd_ne (ne_of_none q hn)]; exact q
end

noncomputable def Rd (H : Hp) (a : Addr) (u : HO) : Prop := H a = some u ∨ ∃ o, H a = some (.frz o u)
theorem Rd.of {H : Hp} {a : Addr} {u : HO} (h : H a = some u) : Rd H a u := .inl h
theorem Rd.ok {P : Program} {w : World} {H : Hp} {h : Heap} {a : Addr} {u : HO} (r : Rd H a u) (x : HOk P w H h) : ObjOk P w H h a u := by
  rcases r with r | ⟨o, r⟩
  · exact x a u r
  · obtain ⟨_, q⟩ := x a _ r
    exact q
noncomputable def Mut : Option HO → Prop
  | some (.lst _) => True
  | some (.dK _) => True
  | some (.dT _) => True
  | some (.set _ _) => True
  | some (.ins _ _ _) => True
  | some (.ext _) => True
  | _ => False
section
variable {P : Program} {w : World} {H : Hp} {h h' : Heap} {x e : Addr} {o' : HO}
theorem HOk.write (ok : HOk P w H h) (mu : Mut (H x)) (he : e = x ∨ H e = some (.own x)) (k : ∀ b u, b ≠ e → h.get? b = some u → h'.get? b = some u) (heo : ∃ u, h'.get? e = some u)
    (new : ObjOk P w (upd H x o') h' x o') : HOk P w (upd H x o') h' := fun b u q => by
  have nown : ∀ c y, H c = some (.own y) → c ≠ x := fun c y r z => by subst z; rw [r] at mu; exact mu
  have ntup : ∀ c xs, H c = some (.tup xs) → c ≠ x := fun c xs r z => by subst z; rw [r] at mu; exact mu
  by_cases hb : b = x
  · subst hb; rw [upd_same] at q; cases q; exact new
  · rw [upd_ne hb] at q
    by_cases hbe : b = e
    · have q' : H b = some (.own x) := by
        rcases he with z | z
        · exact absurd (hbe.trans z) hb
        · rw [hbe]; exact z
      rw [q] at q'; cases q'
      obtain ⟨v, hv⟩ := heo
      exact ⟨v, by rw [hbe]; exact hv⟩
    · refine (ok b u q).stay (fun c v hc r => k c v ?_ r) (fun c r => by rw [upd_ne (nown c b r)]; exact r) fun c xs r => by rw [upd_ne (ntup c xs r)]; exact r
      rcases hc with rfl | hc
      · exact hbe
      · rintro rfl
        rcases he with z | z
        · exact nown c b hc z
        · rw [hc] at z; cases z; exact hb rfl
end

structure Un (fs ex : List Addr) (H H' : Hp) (h h' : Heap) : Prop where
  keep : ∀ b o, h.get? b = some o → H b = none → b ∉ fs → b ∉ ex → h'.get? b = some o
  slot : ∀ b o, h.get? b = some o → H b = none → b ∈ fs → b ∉ ex → ∃ sl, h'.get? b = some { o with slots := sl }
  free : ∀ b o, h.get? b = some o → H b = none → b ∉ ex → H' b = none
  there : ∀ b o, h.get? b = some o → b ∉ ex → ∃ o', h'.get? b = some o'
  tups : ∀ b xs, H b = some (.tup xs) → H' b = some (.tup xs)
  frzs : ∀ b o u, H b = some (.frz o u) → H' b = some (.frz o u)
  tbls : ∀ b ps, H b = some (.tbl ps) → ∃ more, H' b = some (.tbl (ps ++ more))
section
variable {fs fs' ex ex' : List Addr} {H H1 H2 : Hp} {h h1 h2 h' : Heap} {a x e : Addr} {o : HO}
theorem Un.any (u : Un fs ex H H1 h h1) {b : Addr} {ob : Obj} (q : h.get? b = some ob) (n : H b = none) (hx : b ∉ ex) : ∃ sl, h1.get? b = some { ob with slots := sl } := by
  by_cases hb : b ∈ fs
  · exact u.slot b ob q n hb hx
  · exact ⟨ob.slots, u.keep b ob q n hb hx⟩
theorem Un.trans (a : Un fs ex H H1 h h1) (b : Un fs ex H1 H2 h1 h2) : Un fs ex H H2 h h2 where
  keep := fun c ob q n hc hx => b.keep c ob (a.keep c ob q n hc hx) (a.free c ob q n hx) hc hx
  slot := fun c ob q n hc hx => by
    obtain ⟨sl, e1⟩ := a.slot c ob q n hc hx
    obtain ⟨sl', e2⟩ := b.slot c _ e1 (a.free c ob q n hx) hc hx
    exact ⟨sl', e2⟩
  free := fun c ob q n hx => by
    obtain ⟨o', e1⟩ := a.there c ob q hx
    exact b.free c o' e1 (a.free c ob q n hx) hx
  there := fun c ob q hx => by
    obtain ⟨o', e1⟩ := a.there c ob q hx
    exact b.there c o' e1 hx
  tups := fun c xs q => b.tups c xs (a.tups c xs q)
  frzs := fun c ob xs q => b.frzs c ob xs (a.frzs c ob xs q)
  tbls := fun c ps q => by
    obtain ⟨m1, e1⟩ := a.tbls c ps q
    obtain ⟨m2, e2⟩ := b.tbls c _ e1
    exact ⟨m1 ++ m2, by rw [e2, Array.append_assoc]⟩
theorem Un.kept (k : ∀ b u, h.get? b = some u → h'.get? b = some u) : Un fs ex H H h h' :=
  ⟨fun b ob q _ _ _ => k b ob q, fun b ob q _ _ _ => ⟨ob.slots, k b ob q⟩, fun _ _ _ n _ => n, fun b ob q _ => ⟨ob, k b ob q⟩, fun _ _ q => q, fun _ _ _ q => q, fun _ ps q => ⟨#[], by rw [q]; simp⟩⟩
theorem Un.refl : Un fs ex H H h h := Un.kept fun _ _ q => q
theorem Un.laid (k : ∀ b u, h.get? b = some u → h'.get? b = some u) (hp : h.objs.size ≤ a) (hn : H a = none) : Un fs ex H (upd H a o) h h' where
  keep := fun b u q _ _ _ => k b u q
  slot := fun b u q _ _ _ => ⟨u.slots, k b u q⟩
  free := fun b u q n _ => by rw [upd_ne (Nat.ne_of_lt (Nat.lt_of_lt_of_le (Heap.lt_size q) hp))]; exact n
  there := fun b u q _ => ⟨u, k b u q⟩
  tups := fun b xs q => by rw [upd_ne (ne_of_none q hn)]; exact q
  frzs := fun b u xs q => by rw [upd_ne (ne_of_none q hn)]; exact q
  tbls := fun b ps q => ⟨#[], by rw [upd_ne (ne_of_none q hn), q]; simp⟩
theorem Un.write (mu : Mut (H x)) (he : e = x ∨ H e = some (.own x)) (k : ∀ b u, b ≠ e → h.get? b = some u → h'.get? b = some u) (heo : ∃ u, h'.get? e = some u) : Un fs ex H (upd H x o) h h' := by
  have hx : ∀ b, H b = none → b ≠ x := fun b n z => by subst z; rw [n] at mu; exact mu
  have hb : ∀ b, H b = none → b ≠ e := fun b n z => by
    subst z
    rcases he with r | r
    · exact hx b n r
    · rw [n] at r; cases r
  have hm : ∀ b u, H b = some u → ¬ Mut (some u) → b ≠ x := fun b u q nm z => by subst z; rw [q] at mu; exact nm mu
  refine ⟨fun b u q n _ _ => k b u (hb b n) q, fun b u q n _ _ => ⟨u.slots, k b u (hb b n) q⟩, fun b u q n _ => by rw [upd_ne (hx b n)]; exact n, fun b u q _ => ?_,
    fun b xs q => by rw [upd_ne (hm b _ q fun z => z)]; exact q, fun b u xs q => by rw [upd_ne (hm b _ q fun z => z)]; exact q, fun b ps q => ⟨#[], by rw [upd_ne (hm b _ q fun z => z), q]; simp⟩⟩
  by_cases hbe : b = e
  · subst hbe; exact heo
  · exact ⟨u, k b u hbe q⟩
theorem Un.mono (u : Un fs ex H H1 h h1) (hs : ∀ b ∈ fs, b ∈ fs') (hx : ∀ b ∈ ex, b ∈ ex') : Un fs' ex' H H1 h h1 :=
  ⟨fun b ob q n hb he => u.keep b ob q n (fun z => hb (hs b z)) fun z => he (hx b z), fun _ _ q n _ he => u.any q n fun z => he (hx _ z), fun b ob q n he => u.free b ob q n fun z => he (hx b z), fun b ob q he => u.there b ob q fun z => he (hx b z), u.tups, u.frzs, u.tbls⟩
end

noncomputable def trk (h : Heap) (H : Hp) : List Addr := (List.range h.objs.size).filter fun a => (H a).isSome
noncomputable def hidT (h : Heap) (H : Hp) : Heap := PySem.W.hideAll h (trk h H)
theorem hidT_size (h : Heap) (H : Hp) : (hidT h H).objs.size = h.objs.size := PySem.W.hideAll_size _ _
theorem hidT_get {h : Heap} {H : Hp} {b : Addr} {o : Obj} (e : h.get? b = some o) (n : H b = none) : (hidT h H).get? b = some o :=
  PySem.W.hideAll_get _ e fun hm => by
    have q : (H b).isSome = true := (List.mem_filter.mp hm).2
    rw [n] at q; simp at q
theorem of_hidT {h : Heap} {H : Hp} {b : Addr} {o : Obj} (e : (hidT h H).get? b = some o) : h.get? b = some o ∧ H b = none := by
  have e' : h.get? b = some o := PySem.W.of_hideAll (trk h H) e
  refine ⟨e', ?_⟩
  cases q : H b with
  | none => rfl
  | some x =>
    have hm : b ∈ trk h H := List.mem_filter.mpr ⟨List.mem_range.mpr (Heap.lt_size e'), by simp [q]⟩
    have z : (hidT h H).get? b = none := PySem.W.hideAll_none (trk h H) hm
    rw [z] at e; cases e

noncomputable def allNews (g h : Heap) (L : Addr) : List (Addr × Obj) := (List.range h.objs.size).filterMap fun a => if a = L ∨ (g.get? a).isSome = true then none else (h.get? a).map fun o => (a, o)
noncomputable def rest (g h : Heap) (L d : Addr) : List (Addr × Obj) := (allNews g h L).filter fun p => decide (p.1 ≠ d)
end L2

namespace L2
open PySem PySem.Spec PyProof.Rows

structure Mod (K : PySem.W.Frag) (mg : Str → Option Value) (base : Heap) : Prop where
  kin : K.In base
  glob : base.Ns mainGlobals mg
  blt : ∃ mb, base.Ns builtinsNs mb ∧ ∀ x : Str, x ≠ "__name__" → mb x = bootBuiltins x
  nolimit : base.NoLimit

/-- the context: a def's body (or a comprehension's block) running. base: fixed through the whole law; s₀, H₀: the entry; outer: the frames whose slots others may change (a def's callers); stack: all frames that run;
   ex: iterators that were made ahead of the entry and are walked here (a comprehension's); fn: the names whose cells were made at the entry (a def: all; a comprehension's block: its own); calm: not within an except suite; pn: pins that every state bears; xe: what is wanted of an exception that leaves the code -/
structure Cx where
  prog : Program
  w : World
  K : PySem.W.Frag
  mg : Str → Option Value
  base : Heap
  A : Around
  N : List Str
  s₀ : Shared
  H₀ : Hp
  env : Env
  outer : List Env
  stack : List Env
  ex : List Addr
  fn : Str → Bool
  calm : Bool
  pn : List (Addr × Obj)
  xe : Value → Shared → Prop
noncomputable def frs (l : List Env) : List Addr := l.filterMap (·.frame)
noncomputable abbrev Cx.fs (X : Cx) : List Addr := frs X.outer

noncomputable def Vis (sc : Scope) (x : Str) : Prop := sc.names.lookup x = some .local ∨ sc.names.lookup x = some .cell ∨ sc.names.lookup x = some .free
noncomputable def Loc (sc : Scope) (x : Str) : Prop := sc.names.lookup x = some .local ∨ sc.names.lookup x = some .cell
noncomputable def Look (env : Env) (h : Heap) (m : Str → Option Value) (x : Str) (u : Value) : Prop :=
  (env.kindOf x = some .local ∧ m x = some u) ∨ ((env.kindOf x = some .cell ∨ env.kindOf x = some .free) ∧ ∃ c, env.cells.lookup x = some c ∧ h.IsCell c (some u))

structure Cx.Ok (X : Cx) : Prop where
  mod : Mod X.K X.mg X.base
  kind : X.env.scope.kind = .function
  glob : X.env.globals = mainGlobals
  blt : X.env.builtins = builtinsNs
  above : X.s₀.heap.objs.size ≤ X.env.locals
  inj : ∀ x y c, X.env.cells.lookup x = some c → X.env.cells.lookup y = some c → x = y
  has : ∀ x, (X.env.kindOf x = some .cell ∨ X.env.kindOf x = some .free) → ∃ c, X.env.cells.lookup x = some c
  cab : ∀ x c, X.fn x = true → X.env.cells.lookup x = some c → X.s₀.heap.objs.size ≤ c
  hd : X.calm = true → X.A.handled = none
  frames : X.A.frames = some X.stack
  stk : X.stack = X.outer ∨ (X.stack = X.env :: X.outer ∧ X.env.frame = some X.env.locals)
  exf : ∀ b ∈ X.ex, b ≠ X.env.locals ∧ ∀ x c, X.env.cells.lookup x = some c → c ≠ b
  bs : ∀ b o, X.base.get? b = some o → X.s₀.heap.get? b = some o ∧ X.H₀ b = none
  bsz : X.base.objs.size ≤ X.s₀.heap.objs.size
  noex : ∀ b o, X.base.get? b = some o → b ∉ X.ex
  exfs : ∀ b ∈ X.ex, b ∉ X.fs
  funs : X.s₀.heap.FunFrames X.base X.outer
  frf : ∀ b ∈ X.fs, X.H₀ b = none

structure Inv (X : Cx) (pins : List (Addr × Obj)) (σ : List (Option V)) (H : Hp) (s : Shared) : Prop where
  ok : X.Ok
  os : s.os = X.s₀.os
  bare : AllBare s.gens
  base : Un X.fs X.ex X.H₀ H X.s₀.heap s.heap
  loc : ∃ m, s.heap.Ns X.env.locals m ∧ ∀ (i : Nat) (x : Str) (v : V), X.N[i]? = some x → σ[i]? = some (some v) → Vis X.env.scope x → ∃ u, RelV v u ∧ Look X.env s.heap m x u
  cell : ∀ x c, X.env.cells.lookup x = some c → ∃ v, s.heap.IsCell c v
  free : H X.env.locals = none
  freeC : ∀ x c, X.env.cells.lookup x = some c → H c = none
  pin : ∀ p ∈ X.pn ++ pins, s.heap.get? p.1 = some p.2 ∧ H p.1 = none ∧ p.1 ≠ X.env.locals ∧ p.1 ∉ X.fs ∧ ∀ v, p.2.data ≠ .cell v
  hok : HOk X.prog X.w H s.heap
  len : σ.length = X.N.length

section
variable {X : Cx} {pins : List (Addr × Obj)} {σ : List (Option V)} {H H' : Hp} {s : Shared} {h' : Heap}

theorem Cx.Ok.nofr (ok : X.Ok) {b : Addr} {o : Obj} (e : X.base.get? b = some o) : b ∉ X.fs := fun hb => by
  have := (ok.funs.mem hb).1
  rw [e] at this; cases this
theorem Inv.bs (I : Inv X pins σ H s) : ∀ b o, X.base.get? b = some o → s.heap.get? b = some o ∧ H b = none := fun b o e =>
  ⟨I.base.keep b o (I.ok.bs b o e).1 (I.ok.bs b o e).2 (I.ok.nofr e) (I.ok.noex b o e), I.base.free b o (I.ok.bs b o e).1 (I.ok.bs b o e).2 (I.ok.noex b o e)⟩
theorem Inv.bk (I : Inv X pins σ H s) : ∀ b o, X.base.get? b = some o → s.heap.get? b = some o := fun b o e => (I.bs b o e).1
theorem Inv.mod (I : Inv X pins σ H s) : Mod X.K X.mg X.base := I.ok.mod
theorem Inv.kIn (I : Inv X pins σ H s) : X.K.In s.heap := I.ok.mod.kin.keeps I.bk
theorem Inv.nolimit (I : Inv X pins σ H s) : s.heap.NoLimit := I.ok.mod.nolimit.keeps I.bk
theorem Inv.fr (I : Inv X pins σ H s) : ∃ m, Fr X.base X.env.locals s.heap m :=
  let ⟨m, hn, _⟩ := I.loc
  ⟨m, hn, I.bk, Nat.le_trans I.ok.bsz I.ok.above⟩
theorem Inv.lt (I : Inv X pins σ H s) : X.env.locals < s.heap.objs.size := let ⟨_, hn, _⟩ := I.loc; hn.lt
theorem Inv.sz (I : Inv X pins σ H s) : X.s₀.heap.objs.size ≤ s.heap.objs.size := Nat.le_trans I.ok.above (Nat.le_of_lt I.lt)
theorem Inv.nofs (I : Inv X pins σ H s) {a : Addr} (h : s.heap.objs.size ≤ a) : a ∉ X.fs := fun hb => by
  obtain ⟨_, o, ho, _⟩ := I.ok.funs.mem hb
  exact absurd (Nat.lt_of_lt_of_le (Heap.lt_size ho) (Nat.le_trans I.sz h)) (Nat.lt_irrefl _)
theorem Inv.cne (I : Inv X pins σ H s) : ∀ x c, X.env.cells.lookup x = some c → c ≠ X.env.locals := fun x c e z => by
  obtain ⟨v, o, ho, hd⟩ := I.cell x c e
  obtain ⟨m, ⟨o', es, ep, ho', hd', _⟩, _⟩ := I.loc
  rw [z, ho'] at ho; cases ho; rw [hd'] at hd; cases hd
theorem Inv.funs (I : Inv X pins σ H s) : s.heap.FunFrames X.base X.outer := by
  have all : ∀ (l : List Env), (∀ b ∈ frs l, b ∈ X.fs) → X.s₀.heap.FunFrames X.base l → s.heap.FunFrames X.base l := by
    intro l
    induction l with
    | nil => intro _ _; trivial
    | cons env r ih =>
      intro hs hl
      obtain ⟨hk, ⟨L, o, hf, hn, ho, hd⟩, hr⟩ := hl
      have hL : L ∈ X.fs := hs L (by unfold frs; rw [List.filterMap_cons, hf]; exact List.mem_cons_self)
      obtain ⟨sl, e⟩ := I.base.slot L o ho (I.ok.frf L hL) hL fun z => I.ok.exfs L z hL
      exact ⟨hk, ⟨L, _, hf, hn, e, hd⟩, ih (fun b hb => hs b (by unfold frs; rw [List.filterMap_cons, hf]; exact List.mem_cons_of_mem _ hb)) hr⟩
  exact all X.outer (fun _ hb => hb) I.ok.funs

theorem Inv.stack (I : Inv X pins σ H s) : s.heap.FunFrames X.base X.stack := by
  rcases I.ok.stk with e | ⟨e, hf⟩
  · rw [e]; exact I.funs
  · rw [e]
    obtain ⟨m, hn, _⟩ := I.loc
    refine .cons (by rw [I.ok.kind]; decide) hf hn ?_ I.funs
    exact Heap.get?_none_of_le (Nat.le_trans I.ok.bsz I.ok.above)
theorem Inv.stkSub (I : Inv X pins σ H s) : ∀ b ∈ frs X.stack, b ∈ X.env.locals :: X.fs := fun b hb => by
  rcases I.ok.stk with e | ⟨e, hf⟩
  · rw [e] at hb; exact List.mem_cons_of_mem _ hb
  · rw [e] at hb
    unfold frs at hb
    rw [List.filterMap_cons, hf] at hb
    exact hb
theorem Inv.stkFree (I : Inv X pins σ H s) : ∀ b ∈ frs X.stack, H b = none := fun b hb => by
  rcases List.mem_cons.mp (I.stkSub b hb) with e | hb
  · rw [e]; exact I.free
  · obtain ⟨_, o, ho, _⟩ := I.ok.funs.mem hb
    exact I.base.free b o ho (I.ok.frf b hb) fun z => I.ok.exfs b z hb

theorem Inv.step {g' : Array GenState} {t' : Nat} {d' : Drawn} {ch : List Addr} (I : Inv X pins σ H s)
    (hch : ∀ b ∈ ch, (b ∈ X.ex ∨ X.s₀.heap.objs.size ≤ b) ∧ b ≠ X.env.locals ∧ (∀ x c, X.env.cells.lookup x = some c → c ≠ b) ∧ ∀ p ∈ X.pn ++ pins, p.1 ≠ b)
    (keep : ∀ b o, b ≠ X.env.locals → b ∉ X.fs → b ∉ ch → s.heap.get? b = some o → H b = none → h'.get? b = some o)
    (slot : ∀ b o, b ≠ X.env.locals → b ∈ X.fs → b ∉ ch → s.heap.get? b = some o → H b = none → ∃ sl, h'.get? b = some { o with slots := sl }) (free : ∀ b o, b ∉ ch → s.heap.get? b = some o → H b = none → H' b = none)
    (there : ∀ b o, b ∉ ch → s.heap.get? b = some o → ∃ o', h'.get? b = some o')
    (tups : ∀ b xs, H b = some (.tup xs) → H' b = some (.tup xs)) (frzs : ∀ b o u, H b = some (.frz o u) → H' b = some (.frz o u)) (tbls : ∀ b ps, H b = some (.tbl ps) → ∃ more, H' b = some (.tbl (ps ++ more)))
    (ns : ∀ m, s.heap.Ns X.env.locals m → h'.Ns X.env.locals m) (hok : HOk X.prog X.w H' h') (hg : AllBare g') :
    Inv X pins σ H' { s with heap := h', gens := g', drawn := d', toks := t' } := by
  have neL : ∀ b o, X.s₀.heap.get? b = some o → b ≠ X.env.locals := fun b o e => Nat.ne_of_lt (Nat.lt_of_lt_of_le (Heap.lt_size e) I.ok.above)
  have neC : ∀ b o, X.s₀.heap.get? b = some o → b ∉ X.ex → b ∉ ch := fun b o e hx hb => by
    rcases (hch b hb).1 with z | z
    · exact hx z
    · exact absurd (Nat.lt_of_lt_of_le (Heap.lt_size e) z) (Nat.lt_irrefl _)
  have cellK : ∀ x c, X.env.cells.lookup x = some c → ∀ v, s.heap.IsCell c v → h'.IsCell c v := fun x c e v ⟨o, ho, hd⟩ => by
    have nch : c ∉ ch := fun z => (hch c z).2.2.1 x c e rfl
    by_cases hc : c ∈ X.fs
    · obtain ⟨sl, q⟩ := slot c o (I.cne x c e) hc nch ho (I.freeC x c e)
      exact ⟨_, q, hd⟩
    · exact ⟨o, keep c o (I.cne x c e) hc nch ho (I.freeC x c e), hd⟩
  refine ⟨I.ok, I.os, hg, ⟨fun b o e n hb hx => ?_, fun b o e n hb hx => ?_, fun b o e n hx => ?_, fun b o e hx => ?_, fun b xs e => tups b xs (I.base.tups b xs e), fun b o xs e => frzs b o xs (I.base.frzs b o xs e), fun b ps e => ?_⟩, ?_, fun x c e => ?_, ?_, fun x c e => ?_, fun p hp => ?_, hok, I.len⟩
  · exact keep b o (neL b o e) hb (neC b o e hx) (I.base.keep b o e n hb hx) (I.base.free b o e n hx)
  · obtain ⟨sl, e1⟩ := I.base.slot b o e n hb hx
    obtain ⟨sl', e2⟩ := slot b _ (neL b o e) hb (neC b o e hx) e1 (I.base.free b o e n hx)
    exact ⟨sl', e2⟩
  · obtain ⟨o', e1⟩ := I.base.there b o e hx
    exact free b o' (neC b o e hx) e1 (I.base.free b o e n hx)
  · obtain ⟨o', e1⟩ := I.base.there b o e hx
    exact there b o' (neC b o e hx) e1
  · obtain ⟨m1, e1⟩ := I.base.tbls b ps e
    obtain ⟨m2, e2⟩ := tbls b _ e1
    exact ⟨m1 ++ m2, by rw [e2, Array.append_assoc]⟩
  · obtain ⟨m, hn, hl⟩ := I.loc
    refine ⟨m, ns m hn, fun i x v e1 e2 e3 => ?_⟩
    obtain ⟨u, r, l⟩ := hl i x v e1 e2 e3
    refine ⟨u, r, ?_⟩
    rcases l with l | ⟨k, c, e, z⟩
    · exact .inl l
    · exact .inr ⟨k, c, e, cellK x c e _ z⟩
  · obtain ⟨v, z⟩ := I.cell x c e
    exact ⟨v, cellK x c e v z⟩
  · obtain ⟨m, ⟨o, _, _, ho, _⟩, _⟩ := I.loc
    exact free _ o (fun z => (hch _ z).2.1 rfl) ho I.free
  · obtain ⟨v, o, ho, hd⟩ := I.cell x c e
    exact free c o (fun z => (hch c z).2.2.1 x c e rfl) ho (I.freeC x c e)
  · obtain ⟨e, n, ne, nf, d⟩ := I.pin p hp
    have nch : p.1 ∉ ch := fun z => (hch p.1 z).2.2.2 p hp rfl
    exact ⟨keep p.1 p.2 ne nf nch e n, free p.1 p.2 nch e n, ne, nf, d⟩
theorem Inv.un {t' : Nat} (I : Inv X pins σ H s) (u : Un X.fs [] H H' s.heap h') (hok : HOk X.prog X.w H' h') : Inv X pins σ H' { s with heap := h', toks := t' } := by
  obtain ⟨m, ⟨o, es, ep, ho, r⟩, _⟩ := id I.loc
  obtain ⟨sl, hL⟩ := u.any ho I.free (by simp)
  exact I.step (g' := s.gens) (d' := s.drawn) (ch := []) (fun _ z => nomatch z) (fun b o _ hb _ e n => u.keep b o e n hb (by simp)) (fun b o _ hb _ e n => u.slot b o e n hb (by simp)) (fun b o _ e n => u.free b o e n (by simp)) (fun b o _ e => u.there b o e (by simp)) u.tups u.frzs u.tbls (fun m' hm => by
    obtain ⟨o', es', ep', ho', r'⟩ := hm
    rw [ho] at ho'; cases ho'
    exact ⟨_, es', ep', hL, r'⟩) hok I.bare
theorem Inv.call {g' : Array GenState} {t' : Nat} {d' : Drawn} {ch : List Addr} (I : Inv X pins σ H s) (u : Un (frs X.stack) ch H H' s.heap h') (hok : HOk X.prog X.w H' h') (hg : AllBare g')
    (hch : ∀ b ∈ ch, (b ∈ X.ex ∨ X.s₀.heap.objs.size ≤ b) ∧ b ≠ X.env.locals ∧ (∀ x c, X.env.cells.lookup x = some c → c ≠ b) ∧ ∀ p ∈ X.pn ++ pins, p.1 ≠ b) :
    Inv X pins σ H' { s with heap := h', gens := g', drawn := d', toks := t' } := by
  obtain ⟨m, ⟨o, es, ep, ho, r⟩, _⟩ := id I.loc
  obtain ⟨sl, hL⟩ := u.any ho I.free fun z => (hch _ z).2.1 rfl
  exact I.step (ch := ch) hch (fun b o hL hb hc e n => u.keep b o e n (fun z => (List.mem_cons.mp (I.stkSub b z)).elim hL hb) hc) (fun b o _ _ hc e n => u.any e n hc) (fun b o hc e n => u.free b o e n hc) (fun b o hc e => u.there b o e hc) u.tups u.frzs u.tbls (fun m' hm => by
    obtain ⟨o', es', ep', ho', r'⟩ := hm
    rw [ho] at ho'; cases ho'
    exact ⟨_, es', ep', hL, r'⟩) hok hg
theorem Inv.turned {t' : Nat} {it : Addr} (I : Inv X pins σ H s) (k : ∀ b o, b ≠ it → s.heap.get? b = some o → h'.get? b = some o) (hn : H it = none) (hL : it ≠ X.env.locals)
    (h1 : it ∈ X.ex ∨ X.s₀.heap.objs.size ≤ it) (h2 : ∀ x c, X.env.cells.lookup x = some c → c ≠ it) (h3 : ∀ p ∈ X.pn ++ pins, p.1 ≠ it) : Inv X pins σ H { s with heap := h', toks := t' } := by
  have nit : ∀ b u, H b = some u → b ≠ it := fun b u e z => by rw [z, hn] at e; cases e
  refine I.step (g' := s.gens) (d' := s.drawn) (ch := [it]) (fun b hb => ?_) (fun b o _ _ hc e _ => k b o (fun z => hc (by simp [z])) e) (fun b o _ _ hc e _ => ⟨o.slots, k b o (fun z => hc (by simp [z])) e⟩) (fun _ _ _ _ n => n)
    (fun b o hc e => ⟨o, k b o (fun z => hc (by simp [z])) e⟩) (fun _ _ e => e) (fun _ _ _ e => e) (fun b ps e => ⟨#[], by rw [e]; simp⟩) (fun m hm => ?_) (fun b u e => ?_) I.bare
  · have e : b = it := by simpa using hb
    subst e
    exact ⟨h1, hL, h2, h3⟩
  · obtain ⟨o, es, ep, ho, r⟩ := hm
    exact ⟨o, es, ep, k _ o (Ne.symm hL) ho, r⟩
  · refine (I.hok b u e).stay (fun c v hc q => k c v ?_ q) (fun _ q => q) fun _ _ q => q
    rcases hc with z | z
    · rw [z]; exact nit b u e
    · exact nit c _ z
theorem Inv.tok (I : Inv X pins σ H s) (t : Nat) : Inv X pins σ H { s with toks := t } := I.un (h' := s.heap) (t' := t) Un.refl I.hok
theorem Inv.kept {t' : Nat} (I : Inv X pins σ H s) (k : ∀ b u, s.heap.get? b = some u → h'.get? b = some u) : Inv X pins σ H { s with heap := h', toks := t' } := I.un (Un.kept k) (I.hok.kept k)
theorem Inv.laid {a : Addr} {o : HO} {t' : Nat} (I : Inv X pins σ H s) (k : ∀ b u, s.heap.get? b = some u → h'.get? b = some u) (hp : s.heap.objs.size ≤ a) (new : ObjOk X.prog X.w (upd H a o) h' a o) :
    Inv X pins σ (upd H a o) { s with heap := h', toks := t' } := I.un (Un.laid k hp (I.hok.fresh hp)) (I.hok.laid k hp new)
theorem Inv.write {x e : Addr} {o : HO} {t' : Nat} (I : Inv X pins σ H s) (mu : Mut (H x)) (he : e = x ∨ H e = some (.own x)) (k : ∀ b u, b ≠ e → s.heap.get? b = some u → h'.get? b = some u) (heo : ∃ u, h'.get? e = some u)
    (new : ObjOk X.prog X.w (upd H x o) h' x o) : Inv X pins σ (upd H x o) { s with heap := h', toks := t' } := I.un (Un.write mu he k heo) (I.hok.write mu he k heo new)
theorem Inv.pins_of {pins' : List (Addr × Obj)} (I : Inv X pins σ H s) (h : ∀ p ∈ pins', s.heap.get? p.1 = some p.2 ∧ H p.1 = none ∧ p.1 ≠ X.env.locals ∧ p.1 ∉ X.fs ∧ ∀ v, p.2.data ≠ .cell v) : Inv X pins' σ H s :=
  ⟨I.ok, I.os, I.bare, I.base, I.loc, I.cell, I.free, I.freeC, fun p hp => (List.mem_append.mp hp).elim (fun z => I.pin p (List.mem_append_left _ z)) (h p), I.hok, I.len⟩

theorem nodup_ix {N : List Str} (hN : N.Nodup) {i j : Nat} {x : Str} (a : N[i]? = some x) (b : N[j]? = some x) : i = j := by
  obtain ⟨h1, e1⟩ := List.getElem?_eq_some_iff.mp a
  obtain ⟨h2, e2⟩ := List.getElem?_eq_some_iff.mp b
  exact (List.getElem_inj hN).mp (e1.trans e2.symm)

theorem store_ok2 {M : Model} {A : Around} {E : Value → Shared → Prop} {i : Nat} {x : Str} {v : V} {u : Value} {Q : Unit → Shared → Prop} (I : Inv X pins σ H s) (hN : X.N.Nodup) (hi : X.N[i]? = some x) (hx : Loc X.env.scope x) (r : RelV v u)
    (h : ∀ s', Inv X pins (σ.set i (some v)) H s' → (∃ a, Heap.SameBut a s.heap s'.heap ∧ (a = X.env.locals ∨ X.env.cells.lookup x = some a)) → Q () s') (hf : X.fn x = true ∨ X.env.scope.names.lookup x = some .local := by first | exact .inl rfl | exact .inr rfl | assumption) : wpAny M A (storeName X.env x u) Q E s := by
  obtain ⟨m, hn, hl⟩ := id I.loc
  have hcls : (X.env.scope.kind == .class || (X.env.scope.kind == .module && X.env.locals != X.env.globals)) = false := by rw [I.ok.kind]; rfl
  have hiσ : i < σ.length := by rw [I.len]; exact (List.getElem?_eq_some_iff.mp hi).1
  have cne := I.cne
  have tracked : ∀ {a : Addr} {h' : Heap}, (∃ o, s.heap.get? a = some o ∧ H a = none) → Heap.SameBut a s.heap h' → HOk X.prog X.w H h' := fun {a h'} ha hs b ob e => by
    obtain ⟨_, _, hfree⟩ := ha
    refine (I.hok b ob e).stay (fun c w' hc q => (hs.2 c ?_).trans q) (fun _ q => q) fun _ _ q => q
    rintro rfl
    rcases hc with rfl | hc
    · rw [hfree] at e; cases e
    · rw [hfree] at hc; cases hc
  rcases hx with hk | hk
  · refine wpAny_storeName_local hk hn (fun h' hn' hs => ?_) hcls
    obtain ⟨oL, _, _, hoL, _⟩ := id hn
    refine h _ ⟨I.ok, I.os, I.bare, ⟨fun b o e n hb hx => ?_, fun b o e n hb hx => ?_, I.base.free, fun b o e hx => ?_, I.base.tups, I.base.frzs, I.base.tbls⟩, ⟨_, hn', fun j y v' e1 e2 e3 => ?_⟩, fun y c e => ?_, I.free, I.freeC, fun p hp => ?_, tracked ⟨oL, hoL, I.free⟩ hs, by simpa using I.len⟩ ⟨_, hs, .inl rfl⟩
    · exact (hs.2 b (Nat.ne_of_lt (Nat.lt_of_lt_of_le (Heap.lt_size e) I.ok.above))).trans (I.base.keep b o e n hb hx)
    · obtain ⟨sl, e1⟩ := I.base.slot b o e n hb hx
      exact ⟨sl, (hs.2 b (Nat.ne_of_lt (Nat.lt_of_lt_of_le (Heap.lt_size e) I.ok.above))).trans e1⟩
    · obtain ⟨o', e1⟩ := I.base.there b o e hx
      exact ⟨o', (hs.2 b (Nat.ne_of_lt (Nat.lt_of_lt_of_le (Heap.lt_size e) I.ok.above))).trans e1⟩
    · by_cases hj : j = i
      · subst hj
        rw [hi] at e1; cases e1
        rw [List.getElem?_set_self hiσ] at e2
        cases e2
        exact ⟨u, r, .inl ⟨hk, by simp⟩⟩
      · rw [List.getElem?_set_ne (Ne.symm hj)] at e2
        obtain ⟨u', r', q⟩ := hl j y v' e1 e2 e3
        refine ⟨u', r', ?_⟩
        rcases q with ⟨k, e⟩ | ⟨k, c, e, z⟩
        · refine .inl ⟨k, ?_⟩
          have : y ≠ x := fun e => hj (nodup_ix hN e1 (e ▸ hi))
          simp [this, e]
        · exact .inr ⟨k, c, e, z.sameBut hs (cne y c e)⟩
    · obtain ⟨w', z⟩ := I.cell y c e
      exact ⟨w', z.sameBut hs (cne y c e)⟩
    · obtain ⟨e, n, ne, nf, d⟩ := I.pin p hp
      exact ⟨(hs.2 p.1 ne).trans e, n, ne, nf, d⟩
  · have hfn : X.fn x = true := by
      rcases hf with z | z
      · exact z
      · rw [z] at hk; cases hk
    obtain ⟨c, hc⟩ := I.ok.has x (.inl hk)
    obtain ⟨w', z⟩ := I.cell x c hc
    refine wpAny_storeName_cell I.ok.kind hk hc z (fun h' hc' hs => ?_)
    obtain ⟨oc, hoc, hocd⟩ := id z
    refine h { s with heap := h' } ⟨I.ok, I.os, I.bare, ⟨fun b o e n hb hx => ?_, fun b o e n hb hx => ?_, I.base.free, fun b o e hx => ?_, I.base.tups, I.base.frzs, I.base.tbls⟩, ⟨m, hn.sameBut hs (Ne.symm (cne x c hc)), fun j y v' e1 e2 e3 => ?_⟩, fun y c' e => ?_, I.free, I.freeC, fun p hp => ?_, tracked ⟨oc, hoc, I.freeC x c hc⟩ hs, by simpa using I.len⟩ ⟨c, hs, .inr hc⟩
    · exact (hs.2 b (Nat.ne_of_lt (Nat.lt_of_lt_of_le (Heap.lt_size e) (I.ok.cab x c hfn hc)))).trans (I.base.keep b o e n hb hx)
    · obtain ⟨sl, e1⟩ := I.base.slot b o e n hb hx
      exact ⟨sl, (hs.2 b (Nat.ne_of_lt (Nat.lt_of_lt_of_le (Heap.lt_size e) (I.ok.cab x c hfn hc)))).trans e1⟩
    · obtain ⟨o', e1⟩ := I.base.there b o e hx
      exact ⟨o', (hs.2 b (Nat.ne_of_lt (Nat.lt_of_lt_of_le (Heap.lt_size e) (I.ok.cab x c hfn hc)))).trans e1⟩
    · by_cases hj : j = i
      · subst hj
        rw [hi] at e1; cases e1
        rw [List.getElem?_set_self hiσ] at e2
        cases e2
        exact ⟨u, r, .inr ⟨.inl hk, c, hc, hc'⟩⟩
      · rw [List.getElem?_set_ne (Ne.symm hj)] at e2
        obtain ⟨u', r', q⟩ := hl j y v' e1 e2 e3
        refine ⟨u', r', ?_⟩
        rcases q with q | ⟨k, c', e, z'⟩
        · exact .inl q
        · refine .inr ⟨k, c', e, z'.sameBut hs ?_⟩
          rintro rfl
          exact hj (nodup_ix hN e1 (I.ok.inj _ _ _ e hc ▸ hi))
    · by_cases hcc : c' = c
      · subst hcc; exact ⟨_, hc'⟩
      · obtain ⟨w2, z2⟩ := I.cell y c' e
        exact ⟨w2, z2.sameBut hs hcc⟩
    · obtain ⟨e, n, ne, nf, d⟩ := I.pin p hp
      refine ⟨(hs.2 p.1 ?_).trans e, n, ne, nf, d⟩
      intro q
      rw [q, hoc] at e
      have q' : oc = p.2 := Option.some.inj e
      exact d w' (by rw [← q']; exact hocd)
theorem store_ok {M : Model} {A : Around} {E : Value → Shared → Prop} {i : Nat} {x : Str} {v : V} {u : Value} {Q : Unit → Shared → Prop} (I : Inv X pins σ H s) (hN : X.N.Nodup) (hi : X.N[i]? = some x) (hx : Loc X.env.scope x) (r : RelV v u)
    (h : ∀ s', Inv X pins (σ.set i (some v)) H s' → Q () s') (hf : X.fn x = true ∨ X.env.scope.names.lookup x = some .local := by first | exact .inl rfl | exact .inr rfl | assumption) : wpAny M A (storeName X.env x u) Q E s :=
  store_ok2 I hN hi hx r (fun s' I' _ => h s' I') hf
theorem Inv.call' {s' : Shared} {ch : List Addr} (I : Inv X pins σ H s) (ho : s'.os = s.os) (u : Un (frs X.stack) ch H H' s.heap s'.heap) (hok : HOk X.prog X.w H' s'.heap) (hg : AllBare s'.gens)
    (hch : ∀ b ∈ ch, (b ∈ X.ex ∨ X.s₀.heap.objs.size ≤ b) ∧ b ≠ X.env.locals ∧ (∀ x c, X.env.cells.lookup x = some c → c ≠ b) ∧ ∀ p ∈ X.pn ++ pins, p.1 ≠ b) : Inv X pins σ H' s' := by
  obtain ⟨h', g', d', t', o'⟩ := s'
  have e : o' = s.os := ho
  subst e
  exact I.call (g' := g') (t' := t') (d' := d') u hok hg hch
end

noncomputable abbrev XK := Value → Option Addr → Hp → Prop
noncomputable abbrev St := List (Option V)
noncomputable abbrev VK := V → Hp → Prop
noncomputable abbrev TE := St → Hp → VK → Prop
noncomputable abbrev TT := St → Hp → (Bool → Hp → Prop) → Prop
noncomputable abbrev TA := St → Hp → (List V → Hp → Prop) → Prop
structure Ends where
  nx : St → Hp → Prop
  rt : VK
  bk : St → Hp → Prop := fun _ _ => False
  ct : St → Hp → Prop := fun _ _ => False
noncomputable abbrev TS := Ends → St → Hp → Prop

noncomputable def EP (X : Cx) (pins : List (Addr × Obj)) (σ : St) (Q : VK) (u : Value) (s' : Shared) : Prop := ∃ v H', Inv X pins σ H' s' ∧ RelV v u ∧ Q v H'
noncomputable def TP (X : Cx) (pins : List (Addr × Obj)) (σ : St) (Q : Bool → Hp → Prop) (b : Bool) (s' : Shared) : Prop := ∃ H', Inv X pins σ H' s' ∧ Q b H'
noncomputable def AP (X : Cx) (pins : List (Addr × Obj)) (σ : St) (Q : List V → Hp → Prop) (us : List Value) (s' : Shared) : Prop := ∃ vs H', Inv X pins σ H' s' ∧ Vals vs us ∧ Q vs H'
noncomputable def SP (X : Cx) (pins : List (Addr × Obj)) (D : Ends) (f : Flow) (s' : Shared) : Prop :=
  match f with
  | .next => ∃ σ' H', Inv X pins σ' H' s' ∧ D.nx σ' H'
  | .brk => ∃ σ' H', Inv X pins σ' H' s' ∧ D.bk σ' H'
  | .cont => ∃ σ' H', Inv X pins σ' H' s' ∧ D.ct σ' H'
  | .ret u => ∃ v σ' H', Inv X pins σ' H' s' ∧ RelV v u ∧ D.rt v H'

noncomputable def PE (X : Cx) (e : Expr) (t : TE) : Prop :=
  ∀ (pins : List (Addr × Obj)) (s : Shared) (σ : St) (H : Hp) (Q : VK), Inv X pins σ H s → t σ H Q → wpAny (model X.prog X.w) X.A (eval e X.env) (EP X pins σ Q) X.xe s
noncomputable def PT (X : Cx) (e : Expr) (t : TT) : Prop :=
  ∀ (pins : List (Addr × Obj)) (s : Shared) (σ : St) (H : Hp) (Q : Bool → Hp → Prop), Inv X pins σ H s → t σ H Q → wpAny (model X.prog X.w) X.A (isTrue e X.env (eval e X.env)) (TP X pins σ Q) X.xe s
noncomputable def PW (X : Cx) (e : Expr) (t : TT) : Prop :=
  ∀ (whole : Sem Value) (pins : List (Addr × Obj)) (s : Shared) (σ : St) (H : Hp) (Q : Bool → Hp → Prop), Inv X pins σ H s → t σ H Q → wpAny (model X.prog X.w) X.A (isTrue e X.env whole) (TP X pins σ Q) X.xe s
theorem PW.pt {X : Cx} {e : Expr} {t : TT} (h : PW X e t) : PT X e t := h _
noncomputable def PA (X : Cx) (es : List Expr) (t : TA) : Prop :=
  ∀ (pos : Pos) (pins : List (Addr × Obj)) (s : Shared) (σ : St) (H : Hp) (Q : List V → Hp → Prop), Inv X pins σ H s → t σ H Q → wpAny (model X.prog X.w) X.A (spliced (backTo pos (starEach es X.env))) (AP X pins σ Q) X.xe s
noncomputable def PS (X : Cx) (st : Stmt) (t : TS) : Prop :=
  ∀ (pins : List (Addr × Obj)) (s : Shared) (σ : St) (H : Hp) (D : Ends), Inv X pins σ H s → t D σ H → wpAny (model X.prog X.w) X.A (exec st X.env) (SP X pins D) X.xe s
noncomputable def PSs (X : Cx) (st : List Stmt) (t : TS) : Prop :=
  ∀ (pins : List (Addr × Obj)) (s : Shared) (σ : St) (H : Hp) (D : Ends), Inv X pins σ H s → t D σ H → wpAny (model X.prog X.w) X.A (execs st X.env) (SP X pins D) X.xe s
theorem thn {α : Type} {t : Sem α} {Q Q' : α → Shared → Prop} {M : Model} {A : Around} {E : Value → Shared → Prop} {s : Shared} (h : wpAny M A t Q E s) (hQ : ∀ a s, Q a s → Q' a s) : wpAny M A t Q' E s := wpAny_mono h hQ fun _ _ x => x
end L2

namespace L2
open PySem PySem.Spec PyProof.Rows
section
variable {X : Cx}

noncomputable def tVar (i : Nat) : TE := fun σ H Q => ∃ v, σ[i]? = some (some v) ∧ Q v H
noncomputable def tC (v : V) : TE := fun _ H Q => Q v H
theorem pe_var {i : Nat} {x : Str} {pos : Pos} (hN : X.N[i]? = some x) (hv : Vis X.env.scope x) (hd : (x == ("__debug__" : Str)) = false := by decide) (hcd : (x == ("__classdict__" : Str)) = false := by decide) : PE X (.Name x pos) (tVar i) := by
  intro pins s σ H Q I h
  obtain ⟨v, e, h⟩ := h
  obtain ⟨m, hn, hl⟩ := I.loc
  obtain ⟨u, r, l⟩ := hl i x v hN e hv
  have fin : EP X pins σ Q u s := ⟨v, H, I, r, h⟩
  rcases l with ⟨hk, hm⟩ | ⟨hk, c, hc, hcell⟩
  · exact wpAny_Name (wpAny_loadName_local I.ok.kind hk hn hm fin) hd
  · rcases hk with hk | hk
    · exact wpAny_Name (wpAny_loadName_cell I.ok.kind hk hc hcell fin) hd
    · exact wpAny_Name (wpAny_loadName_free I.ok.kind hk hc hcell fin hcd) hd
theorem pe_int {i j pos} : PE X (.Constant (.int i) j pos) (tC (.int i)) := fun _ _ _ H _ I h => wpAny_Constant_int ⟨.int i, H, I.tok _, ⟨_, rfl⟩, h⟩
theorem pe_bl {b j pos} : PE X (.Constant (.bool b) j pos) (tC (.bl b)) := fun _ _ _ H _ I h => Constant_bool ⟨.bl b, H, I, rfl, h⟩
theorem pe_str {x j pos} : PE X (.Constant (.str x) j pos) (tC (.str x)) := fun _ _ _ H _ I h => Calls.Constant_str ⟨.str x, H, I.tok _, ⟨_, rfl⟩, h⟩

noncomputable def Gl (X : Cx) (x : Str) : Prop := X.env.kindOf x = some .globalImplicit
theorem ld_glob {E : Value → Shared → Prop} {pins : List (Addr × Obj)} {s : Shared} {σ : St} {H : Hp} {x : Str} {u : Value} {pos : Pos} {Q : Value → Shared → Prop} (I : Inv X pins σ H s) (hg : Gl X x) (hm : X.mg x = some u) (h : Q u s)
    (hd : (x == ("__debug__" : Str)) = false := by decide) : wpAny (model X.prog X.w) X.A (eval (.Name x pos) X.env) Q E s :=
  Calls.Name_function_global I.ok.kind hg (Calls.loadGlobal_global (by rw [I.ok.glob]; exact I.mod.glob.keeps I.bk) hm h) hd
theorem ld_blt {E : Value → Shared → Prop} {pins : List (Addr × Obj)} {s : Shared} {σ : St} {H : Hp} {x : Str} {u : Value} {pos : Pos} {Q : Value → Shared → Prop} (I : Inv X pins σ H s) (hg : Gl X x) (hm : X.mg x = none) (hv : bootBuiltins x = some u) (h : Q u s)
    (hn : x ≠ "__name__" := by decide) (hd : (x == ("__debug__" : Str)) = false := by decide) : wpAny (model X.prog X.w) X.A (eval (.Name x pos) X.env) Q E s := by
  obtain ⟨mb, h1, h2⟩ := I.mod.blt
  exact Calls.Name_function_global I.ok.kind hg (Calls.loadGlobal_builtin (by rw [I.ok.glob]; exact I.mod.glob.keeps I.bk) hm (by rw [I.ok.blt]; exact h1.keeps I.bk) ((h2 x hn).trans hv) h) hd
theorem pe_bltn {x : Str} {v : V} {u : Value} {pos : Pos} (hg : Gl X x) (hm : X.mg x = none) (hv : bootBuiltins x = some u) (r : RelV v u) (hn : x ≠ "__name__" := by decide) (hd : (x == ("__debug__" : Str)) = false := by decide) : PE X (.Name x pos) (tC v) :=
  fun _ _ _ H _ I h => ld_blt I hg hm hv ⟨v, H, I, r, h⟩ hn hd

variable {a b : Expr} {ta tb : TE} {pos : Pos}
noncomputable def tB (t : TE) : TT := fun σ H Q => t σ H fun x H1 => ∃ c, x = .bl c ∧ Q c H1
theorem pt_val {e : Expr} {t : TE} (h : PE X e t) (he : ∀ whole, isTrue e X.env whole = (do let v ← whole; standAt e.pos; holding [v] (truthy v)) := by intro _; rfl) : PT X e (tB t) := by
  intro pins s σ H Q I hw
  refine isTrue_plain (thn (h pins s σ H _ I hw) fun v s1 ⟨x, H1, I1, r1, q1⟩ => ?_) (he _)
  obtain ⟨d, rfl, q⟩ := q1
  cases r1
  exact wpAny_truthy_bool ⟨H1, I1, q⟩

variable {tA tB' : TT} {rest : List Expr}
noncomputable def tOr (t u : TT) : TT := fun σ H Q => t σ H fun c H1 => if c = true then Q true H1 else u σ H1 Q
noncomputable def tNot (t : TT) : TT := fun σ H Q => t σ H fun c H1 => Q (!c) H1
theorem pw_or1 (ha : PT X a tA) : PW X (.BoolOp .Or [a] pos) tA := by
  intro wh pins s σ H Q I h
  refine isTrue_or (thn (ha pins s σ H Q I h) fun c s1 e => ?_)
  cases c with
  | false => exact isTrue_or_nil e
  | true => exact e
theorem pw_or (ha : PT X a tA) (hb : PW X (.BoolOp .Or (b :: rest) pos) tB') : PW X (.BoolOp .Or (a :: b :: rest) pos) (tOr tA tB') := by
  intro wh pins s σ H Q I h
  refine isTrue_or (thn (ha pins s σ H _ I h) fun c s1 ⟨H1, I1, q1⟩ => ?_)
  cases c with
  | true => exact ⟨H1, I1, q1⟩
  | false => exact hb wh pins s1 σ H1 Q I1 q1
theorem pt_not (ha : PT X a tA) : PT X (.UnaryOp .Not a pos) (tNot tA) := by
  intro pins s σ H Q I h
  exact isTrue_not (ha pins s σ H (fun c H1 => Q (!c) H1) I h)
end
end L2

namespace L2
open PySem PySem.Spec PyProof.Rows

noncomputable def SqL (K : PySem.W.Frag) (H : Hp) (a : Addr) (xs : List V) : Prop :=
  Rd H a (.lst xs) ∨
    ∃ (o : Obj) (its : Array Value) (n : Nat), K.lookup a = some o ∧ o.cls = .type "list" ∧ o.dict = none ∧ o.data = .seq its n ∧ its.size ≤ sizeLine ∧ Vals xs its.toList
noncomputable def SqT (K : PySem.W.Frag) (H : Hp) (a : Addr) (xs : List V) : Prop :=
  Rd H a (.tup xs) ∨
    ∃ (o : Obj) (its : Array Value) (n : Nat), K.lookup a = some o ∧ o.cls = .type "tuple" ∧ o.data = .seq its n ∧ its.size ≤ sizeLine ∧ Vals xs its.toList
noncomputable def absV : Value → Option V
  | .none => some .non
  | .bool b => some (.bl b)
  | .int i _ => some (.int i)
  | .str x _ => some (.str x)
  | .bytes b _ => some (.byt b)
  | .float b _ => some (.flt b)
  | .ref a => some (.ref a)
  | .type n => some (.ty n)
  | _ => none
theorem RelV.abs {x : V} {u : Value} (r : RelV x u) : absV u = some x := by
  cases x with
  | non => cases r; rfl
  | bl _ => cases r; rfl
  | int _ => obtain ⟨t, rfl⟩ := r; rfl
  | str _ => obtain ⟨t, rfl⟩ := r; rfl
  | byt _ => obtain ⟨t, rfl⟩ := r; rfl
  | flt _ => obtain ⟨t, rfl⟩ := r; rfl
  | ref _ => cases r; rfl
  | ty _ => cases r; rfl
theorem RelV.inj {x y : V} {u : Value} (r : RelV x u) (q : RelV y u) : x = y := Option.some.inj (r.abs.symm.trans q.abs)
theorem Vals.inj : ∀ {xs ys : List V} {us : List Value}, Vals xs us → Vals ys us → xs = ys
  | _, _, _, .nil, .nil => rfl
  | _, _, _, .cons r t, .cons r' t' => by rw [r.inj r', Vals.inj t t']
section
variable {X : Cx} {pins : List (Addr × Obj)} {σ : St} {H : Hp} {s : Shared} {a : Addr} {xs ys : List V}
theorem SqL.of {K : PySem.W.Frag} (h : H a = some (.lst xs)) : SqL K H a xs := .inl (.inl h)
theorem SqT.of {K : PySem.W.Frag} (h : H a = some (.tup xs)) : SqT K H a xs := .inl (.inl h)
theorem Inv.list (I : Inv X pins σ H s) (h : SqL X.K H a xs) : ∃ its : List Value, Vals xs its ∧ PlainL s.heap a its.toArray ∧ xs.length ≤ sizeLine := by
  rcases h with h | ⟨o, its, n, hk, hc, hd, hs, hz, r⟩
  · obtain ⟨z, its, n, r, e⟩ := h.ok I.hok
    exact ⟨its, r, ⟨_, n, e, rfl, rfl, rfl⟩, z⟩
  · refine ⟨its.toList, r, ⟨o, n, I.kIn a o hk, hc, hd, by simpa using hs⟩, ?_⟩
    have e := r.length
    simp only [Array.length_toList] at e
    omega
theorem Inv.tuple (I : Inv X pins σ H s) (h : SqT X.K H a xs) : ∃ its : List Value, Vals xs its ∧ IsTup s.heap a its.toArray ∧ xs.length ≤ sizeLine := by
  rcases h with h | ⟨o, its, n, hk, hc, hs, hz, r⟩
  · obtain ⟨z, its, r, p⟩ := h.ok I.hok
    exact ⟨its, r, p, z⟩
  · refine ⟨its.toList, r, ⟨o, I.kIn a o hk, hc, n, by simpa using hs⟩, ?_⟩
    have e := r.length
    simp only [Array.length_toList] at e
    omega
theorem Inv.list_inj (I : Inv X pins σ H s) (h : SqL X.K H a xs) (h' : SqL X.K H a ys) : xs = ys := by
  obtain ⟨its, r, ⟨o, n, e, _, _, d⟩, _⟩ := I.list h
  obtain ⟨its', r', ⟨o', n', e', _, _, d'⟩, _⟩ := I.list h'
  rw [e] at e'; cases e'
  rw [d] at d'
  injection d' with d1 _
  have : its = its' := by simpa using congrArg Array.toList d1
  subst this
  exact r.inj r'
theorem Inv.tuple_inj (I : Inv X pins σ H s) (h : SqT X.K H a xs) (h' : SqT X.K H a ys) : xs = ys := by
  obtain ⟨its, r, ⟨o, e, _, n, d⟩, _⟩ := I.tuple h
  obtain ⟨its', r', ⟨o', e', _, n', d'⟩, _⟩ := I.tuple h'
  rw [e] at e'; cases e'
  rw [d] at d'
  injection d' with d1 _
  have : its = its' := by simpa using congrArg Array.toList d1
  subst this
  exact r.inj r'
end

noncomputable abbrev Cx.wish (X : Cx) (E : Value → Shared → Prop) : Cx := { X with xe := E }
noncomputable abbrev Cx.nox (X : Cx) : Cx := X.wish fun _ _ => False
theorem Cx.Ok.wish {X : Cx} (ok : X.Ok) (E : Value → Shared → Prop) : (X.wish E).Ok :=
  ⟨ok.mod, ok.kind, ok.glob, ok.blt, ok.above, ok.inj, ok.has, ok.cab, ok.hd, ok.frames, ok.stk, ok.exf, ok.bs, ok.bsz, ok.noex, ok.exfs, ok.funs, ok.frf⟩
theorem Cx.Ok.unwish {X : Cx} {E : Value → Shared → Prop} (ok : (X.wish E).Ok) : X.Ok :=
  ⟨ok.mod, ok.kind, ok.glob, ok.blt, ok.above, ok.inj, ok.has, ok.cab, ok.hd, ok.frames, ok.stk, ok.exf, ok.bs, ok.bsz, ok.noex, ok.exfs, ok.funs, ok.frf⟩
section
variable {X : Cx} {pins : List (Addr × Obj)} {σ : St} {H : Hp} {s : Shared} {E : Value → Shared → Prop}
theorem Inv.wish (I : Inv X pins σ H s) (E : Value → Shared → Prop) : Inv (X.wish E) pins σ H s := ⟨I.ok.wish E, I.os, I.bare, I.base, I.loc, I.cell, I.free, I.freeC, I.pin, I.hok, I.len⟩
theorem Inv.unwish (I : Inv (X.wish E) pins σ H s) : Inv X pins σ H s := ⟨I.ok.unwish, I.os, I.bare, I.base, I.loc, I.cell, I.free, I.freeC, I.pin, I.hok, I.len⟩
theorem SP.unwish {D : Ends} {f : Flow} {s' : Shared} (h : SP (X.wish E) pins D f s') : SP X pins D f s' := by
  cases f with
  | next => obtain ⟨σ', H', I, q⟩ := h; exact ⟨σ', H', I.unwish, q⟩
  | brk => obtain ⟨σ', H', I, q⟩ := h; exact ⟨σ', H', I.unwish, q⟩
  | cont => obtain ⟨σ', H', I, q⟩ := h; exact ⟨σ', H', I.unwish, q⟩
  | ret u => obtain ⟨v, σ', H', I, r, q⟩ := h; exact ⟨v, σ', H', I.unwish, r, q⟩
theorem PE.nox {e : Expr} {t : TE} (h : PE X.nox e t) : PE X e t := fun pins s σ H Q I hw =>
  wpAny_mono (h pins s σ H Q (I.wish _) hw) (fun _ _ ⟨v, H', I', r, q⟩ => ⟨v, H', I'.unwish, r, q⟩) fun _ _ z => False.elim z
theorem PT.nox {e : Expr} {t : TT} (h : PT X.nox e t) : PT X e t := fun pins s σ H Q I hw =>
  wpAny_mono (h pins s σ H Q (I.wish _) hw) (fun _ _ ⟨H', I', q⟩ => ⟨H', I'.unwish, q⟩) fun _ _ z => False.elim z
theorem PSs.nox {st : List Stmt} {t : TS} (h : PSs X.nox st t) : PSs X st t := fun pins s σ H D I hw =>
  wpAny_mono (h pins s σ H D (I.wish _) hw) (fun _ _ q => q.unwish) fun _ _ z => False.elim z
end

section
variable {X : Cx} {st : Stmt} {rest : List Stmt} {t u : TS} {e : Expr} {te : TE} {pos : Pos}
noncomputable def tNext : TS := fun D σ H => D.nx σ H
noncomputable def tSeq (t u : TS) : TS := fun D σ H => t { D with nx := u D } σ H
theorem pss_nil : PSs X [] tNext := fun _ _ σ H _ I h => wpAny_execs_nil ⟨σ, H, I, h⟩
theorem pss_cons (h1 : PS X st t) (h2 : PSs X rest u) : PSs X (st :: rest) (tSeq t u) := by
  intro pins s σ H D I h
  refine wpAny_execs_cons (thn (h1 pins s σ H { D with nx := u D } I h) fun f s1 q => ?_)
  cases f with
  | next =>
    obtain ⟨σ', H', I', q⟩ := q
    exact h2 pins s1 σ' H' D I' q
  | ret v => exact q
  | brk => exact q
  | cont => exact q
theorem pss_one (h1 : PS X st t) : PSs X [st] t := by
  intro pins s σ H D I h
  refine wpAny_execs_cons (thn (h1 pins s σ H D I h) fun f s1 q => ?_)
  cases f with
  | next => exact wpAny_execs_nil q
  | ret v => exact q
  | brk => exact q
  | cont => exact q
theorem Inv.quiet {pins : List (Addr × Obj)} {σ : St} {H : Hp} {s : Shared} (I : Inv X pins σ H s) : interactive X.env = false := by simp [interactive, I.ok.kind]
noncomputable def tDrop (te : TE) : TS := fun D σ H => te σ H fun _ H1 => D.nx σ H1
theorem ps_expr (he : PE X e te) (hs : swapsWith e none pos.line X.env = pure false := by rfl) : PS X (.Expr e pos) (tDrop te) := by
  intro pins s σ H D I h
  exact wpAny_Expr_any (thn (he pins s σ H _ I h) fun v s1 ⟨x, H1, I1, r1, q1⟩ => ⟨σ, H1, I1, q1⟩) I.quiet hs
noncomputable def tRet (te : TE) : TS := fun D σ H => te σ H D.rt
theorem ps_ret (he : PE X e te) : PS X (.Return (some e) pos) (tRet te) := by
  intro pins s σ H D I h
  exact wpAny_Return_some (thn (he pins s σ H _ I h) fun v s1 ⟨x, H1, I1, r1, q1⟩ => ⟨x, σ, H1, I1, r1, q1⟩)
noncomputable def tIfS (c : TT) (t u : TS) : TS := fun D σ H => c σ H fun b H1 => if b = true then t D σ H1 else u D σ H1
theorem ps_if {c : Expr} {a b : List Stmt} {tc : TT} (hc : PT X c tc) (ha : PSs X a t) (hb : PSs X b u) : PS X (.If c a b pos) (tIfS tc t u) := by
  intro pins s σ H D I h
  refine wpAny_If (thn (hc pins s σ H _ I h) fun d s1 ⟨H1, I1, q1⟩ => ?_)
  cases d with
  | true => exact ha pins s1 σ H1 D I1 q1
  | false => exact hb pins s1 σ H1 D I1 q1
end

noncomputable abbrev TG := V → St → Hp → (St → Hp → Prop) → Prop
noncomputable abbrev TGs := List V → St → Hp → (St → Hp → Prop) → Prop
noncomputable def PG (X : Cx) (target : Expr) (t : TG) : Prop :=
  ∀ (pins : List (Addr × Obj)) (s : Shared) (σ : St) (H : Hp) (v : V) (u : Value) (Q : St → Hp → Prop), Inv X pins σ H s → RelV v u → t v σ H Q →
    wpAny (model X.prog X.w) X.A (assign target X.env u) (fun _ s' => ∃ σ' H', Inv X pins σ' H' s' ∧ Q σ' H') X.xe s
noncomputable def PGs (X : Cx) (ts : List Expr) (t : TGs) : Prop :=
  ∀ (pins : List (Addr × Obj)) (s : Shared) (σ : St) (H : Hp) (vs : List V) (us : List Value) (Q : St → Hp → Prop), Inv X pins σ H s → Vals vs us → t vs σ H Q →
    wpAny (model X.prog X.w) X.A (assignInOrder ((assignEach ts X.env).map (·.2)) us) (fun _ s' => ∃ σ' H', Inv X pins σ' H' s' ∧ Q σ' H') X.xe s
section
variable {X : Cx} {pos : Pos}
noncomputable def gName (i : Nat) : TG := fun v σ H Q => Q (σ.set i (some v)) H
theorem pg_name {i : Nat} {x : Str} (hN : X.N.Nodup) (hi : X.N[i]? = some x) (hx : Loc X.env.scope x) (hf : X.fn x = true ∨ X.env.scope.names.lookup x = some .local := by first | exact .inl rfl | exact .inr rfl | assumption) : PG X (.Name x pos) (gName i) := by
  intro pins s σ H v u Q I r h
  exact wpAny_assign_Name (store_ok I hN hi hx r (fun s' I' => ⟨_, H, I', h⟩) hf)
noncomputable def gNil : TGs := fun vs σ H Q => vs = [] ∧ Q σ H
noncomputable def gCons (t : TG) (u : TGs) : TGs := fun vs σ H Q => ∃ v r, vs = v :: r ∧ t v σ H fun σ' H' => u r σ' H' Q
theorem pgs_nil : PGs X [] gNil := by
  intro pins s σ H vs us Q I r h
  obtain ⟨e, h⟩ := h
  subst e
  cases r
  exact assignInOrder_nil ⟨σ, H, I, h⟩
theorem pgs_cons {e : Expr} {es : List Expr} {t : TG} {u : TGs} (h1 : PG X e t) (h2 : PGs X es u)
    (hs : (assignEach (e :: es) X.env).map (·.2) = assign e X.env :: (assignEach es X.env).map (·.2) := by rfl) : PGs X (e :: es) (gCons t u) := by
  intro pins s σ H vs us Q I r h
  obtain ⟨v, vr, e1, h⟩ := h
  subst e1
  cases r with
  | cons r rr =>
    rw [hs]
    refine assignInOrder_cons (thn (h1 pins s σ H _ _ _ I r h) fun _ s1 ⟨σ1, H1, I1, q1⟩ => ?_)
    exact h2 pins s1 σ1 H1 _ _ Q I1 rr q1
noncomputable def gTup (K : PySem.W.Frag) (n : Nat) (t : TGs) : TG := fun v σ H Q => ∃ a xs, v = .ref a ∧ SqT K H a xs ∧ xs.length = n ∧ t xs σ H Q
theorem pg_tup {es : List Expr} {k : Nat} {t : TGs} {n : Nat} (hc : X.calm = true) (h : PGs X es t)
    (hn : (assignEach es X.env).length = n := by rfl) (hst : (assignEach es X.env).findIdx? (·.1) = none := by rfl) : PG X (.Tuple es k pos) (gTup X.K n t) := by
  intro pins s σ H v u Q I r hw
  obtain ⟨a, xs, e1, hq, hl, hw⟩ := hw
  subst e1
  cases r
  obtain ⟨its, rv, ht, hz⟩ := I.tuple hq
  refine assign_Tuple_tuple (I.ok.hd hc) ht (by simp [hn, ← hl, rv.length]) hst fun h' hx => ?_
  have I1 : Inv X pins σ H { s with heap := h' } := I.kept (t' := s.toks) fun b o e => hx b o (Nat.ne_of_lt (Heap.lt_size e)) e
  exact h pins _ σ H xs _ Q I1 (by simpa using rv) hw
noncomputable def tAsg (te : TE) (g : TG) : TS := fun D σ H => te σ H fun x H1 => g x σ H1 D.nx
theorem ps_set {i : Nat} {x : Str} {e : Expr} {te : TE} {pos' : Pos} (hN : X.N.Nodup) (hi : X.N[i]? = some x) (hx : Loc X.env.scope x) (he : PE X e te) (hs : swapsWith e (some (.Name x pos')) pos.line X.env = pure false := by rfl) (hf : X.fn x = true ∨ X.env.scope.names.lookup x = some .local := by first | exact .inl rfl | exact .inr rfl | assumption) :
    PS X (.Assign [.Name x pos'] e pos) (tAsg te (gName i)) := by
  intro pins s σ H D I h
  refine wpAny_Assign_Name (thn (he pins s σ H _ I h) fun v s1 ⟨y, H1, I1, r1, q1⟩ => ?_) hs
  exact store_ok I1 hN hi hx r1 (fun s2 I2 => ⟨_, H1, I2, q1⟩) hf
end

section
variable {X : Cx} {pos : Pos}
end

structure It where
  go : Nat → Hp → Prop
  yld : Nat → Hp → V → Hp → Prop
  stop : Nat → Hp → Prop
noncomputable def FpOk (X : Cx) (pins : List (Addr × Obj)) (H : Hp) (b : Addr) : Prop :=
  H b = none ∧ b ≠ X.env.locals ∧ b ∉ X.fs ∧ (b ∈ X.ex ∨ X.s₀.heap.objs.size ≤ b) ∧ (∀ x c, X.env.cells.lookup x = some c → c ≠ b) ∧ ∀ p ∈ X.pn ++ pins, p.1 ≠ b
theorem Inv.fpOk {X : Cx} {pins : List (Addr × Obj)} {σ : St} {H H' : Hp} {s : Shared} {b : Addr} (I : Inv X pins σ H s) (hb : s.heap.objs.size ≤ b) (hn : H' b = none) : FpOk X pins H' b := by
  refine ⟨hn, Nat.ne_of_gt (Nat.lt_of_lt_of_le I.lt hb), I.nofs hb, .inr (Nat.le_trans I.sz hb), fun x c e z => ?_, fun p hp z => ?_⟩
  · obtain ⟨v, q⟩ := I.cell x c e
    exact absurd (Nat.lt_of_lt_of_le q.lt (by rw [z]; exact hb)) (Nat.lt_irrefl _)
  · exact absurd (Nat.lt_of_lt_of_le (Heap.lt_size (I.pin p hp).1) (by rw [z]; exact hb)) (Nat.lt_irrefl _)
structure Turn (P : Program) (w : World) (K : PySem.W.Frag) (tg : Expr) (J : It) (fp : List Addr) (it : Addr) (tn : Nat → Heap → Prop) : Prop where
  mem : it ∈ fp
  obj : ∀ i h, tn i h → ∀ b ∈ fp, ∃ o, h.get? b = some o ∧ ∀ v, o.data ≠ .cell v
  keep : ∀ i h h', tn i h → (∀ b ∈ fp, ∀ o, h.get? b = some o → h'.get? b = some o) → tn i h'
  item : ∀ (X : Cx), X.prog = P → X.w = w → X.K = K → X.calm = true → ∀ (i : Nat) (pins : List (Addr × Obj)) (s : Shared) (σ : St) (H : Hp) (E : Value → Shared → Prop), Inv X pins σ H s → (∀ b ∈ fp, FpOk X pins H b) → tn i s.heap → J.go i H →
    wpAny (model P w) X.A (pyNext (.ref it)) (fun r s1 => ∃ u, r = some u ∧
      wpAny (model P w) X.A (letOwnedTupleGo tg (.ref it) u) (fun _ s2 => ∃ x H', Inv X pins σ H' s2 ∧ RelV x u ∧ J.yld i H x H' ∧ tn (i + 1) s2.heap ∧ ∀ b ∈ fp, H' b = none) E s1) E s
  done : ∀ (X : Cx), X.prog = P → X.w = w → X.K = K → X.calm = true → ∀ (i : Nat) (pins : List (Addr × Obj)) (s : Shared) (σ : St) (H : Hp) (E : Value → Shared → Prop), Inv X pins σ H s → (∀ b ∈ fp, FpOk X pins H b) → tn i s.heap → J.stop i H →
    wpAny (model P w) X.A (pyNext (.ref it)) (fun r s1 => r = none ∧ Inv X pins σ H s1) E s
  self : ∀ (A : Around) (i : Nat) (s : Shared) (Q : Value → Shared → Prop) (E : Value → Shared → Prop), tn i s.heap → Q (.ref it) s → wpAny (model P w) A (pyIter (.ref it)) Q E s
noncomputable abbrev TI := St → Hp → (It → Hp → Prop) → Prop
noncomputable def PIE (X : Cx) (pins : List (Addr × Obj)) (σ : St) (tg : Expr) (R : It → Hp → Prop) (itv : Value) (s2 : Shared) : Prop :=
  ∃ (it : Addr) (fp : List Addr) (tn : Nat → Heap → Prop) (J : It) (H' : Hp), itv = .ref it ∧ Inv X pins σ H' s2 ∧ Turn X.prog X.w X.K tg J fp it tn ∧ tn 0 s2.heap ∧ (∀ b ∈ fp, FpOk X pins H' b) ∧ R J H'
noncomputable def PI (X : Cx) (tg iter : Expr) (wi : TI) : Prop :=
  ∀ (pins : List (Addr × Obj)) (s : Shared) (σ : St) (H : Hp) (R : It → Hp → Prop), Inv X pins σ H s → wi σ H R →
    wpAny (model X.prog X.w) X.A (eval iter X.env) (fun v s1 => wpAny (model X.prog X.w) X.A (pyIter v) (PIE X pins σ tg R) X.xe s1) X.xe s

theorem go_of {M : Model} {A : Around} {E : Value → Shared → Prop} {s : Shared} {tg : Expr} {it : Addr} {u : Value} {o : Obj} {n : String} {vs : Array Value} {Q : Unit → Shared → Prop} (ho : s.heap.get? it = some o) (hc : o.cls = .type n) (hd : o.data = .fields vs)
    (hn : ["enumerate", "zip", "dict_itemiterator", "dict_reverseitemiterator", "odict_iterator", "itertools.zip_longest", "itertools.pairwise"].contains n = false) (hQ : Q () s) : wpAny M A (letOwnedTupleGo tg (.ref it) u) Q E s := by
  unfold letOwnedTupleGo
  cases tg <;> first
    | exact wpAny_pure hQ
    | (cases u <;> first
        | exact wpAny_pure hQ
        | (refine wpAny_bind (wpAny_load ho ?_)
           rw [hc, hd]
           show wpAny M A (if (["enumerate", "zip", "dict_itemiterator", "dict_reverseitemiterator", "odict_iterator", "itertools.zip_longest", "itertools.pairwise"].contains n && vs[0]? == some (rawInt _)) = true then _ else _) Q E s
           rw [if_neg (by intro h; rw [hn, Bool.false_and] at h; cases h)]
           exact wpAny_pure hQ))

noncomputable def Itl (K : PySem.W.Frag) (a : Addr) : It :=
  ⟨fun i H => ∃ xs x, SqL K H a xs ∧ xs[i]? = some x, fun i H x H' => H' = H ∧ ∀ xs, SqL K H a xs → xs[i]? = some x, fun i H => ∃ xs, SqL K H a xs ∧ xs.length ≤ i⟩
noncomputable def Itt (K : PySem.W.Frag) (a : Addr) : It :=
  ⟨fun i H => ∃ xs x, SqT K H a xs ∧ xs[i]? = some x, fun i H x H' => H' = H ∧ ∀ xs, SqT K H a xs → xs[i]? = some x, fun i H => ∃ xs, SqT K H a xs ∧ xs.length ≤ i⟩
noncomputable def Itr (lo : Int) (n : Nat) : It := ⟨fun i _ => i < n, fun i H x H' => H' = H ∧ x = .int (lo + i), fun i _ => n ≤ i⟩
theorem turn_list {P : Program} {w : World} {K : PySem.W.Frag} {tg : Expr} (a it : Addr) : Turn P w K tg (Itl K a) [it] it (fun i h => h.IsListIter it a i) where
  mem := by simp
  obj := fun i h st b hb => by
    have e : b = it := by simpa using hb
    subst e
    obtain ⟨o, e, c, d⟩ := st
    exact ⟨o, e, fun v z => by rw [d] at z; cases z⟩
  keep := fun i h h' st k => st.at fun o e => k it (by simp) o e
  item := by
    intro X hP hw hK hc i pins s σ H E I hf st hg
    subst hP hw hK
    obtain ⟨xs, x, hq, hx⟩ := hg
    obtain ⟨its, rv, p, hz⟩ := I.list hq
    obtain ⟨u, hu, ru⟩ := rv.get hx
    obtain ⟨f0, f1, f2, f3, f4, f5⟩ := hf it (by simp)
    refine wpAny_pyNext_list_item st p.isList (x := u) (by simpa using hu) fun h' st' sb => ?_
    have I1 : Inv X pins σ H { s with heap := h' } := I.turned (t' := s.toks) (fun b o hb e => (sb.2 b hb).trans e) f0 f1 f3 f4 f5
    obtain ⟨o, e, c, d⟩ := id st'
    exact ⟨u, rfl, go_of (s := { s with heap := h' }) e c d (by decide) ⟨x, H, I1, ru, ⟨rfl, fun ys hy => by rw [I.list_inj hy hq]; exact hx⟩, st', fun b hb => (hf b hb).1⟩⟩
  done := by
    intro X hP hw hK hc i pins s σ H E I hf st hg
    subst hP hw hK
    obtain ⟨xs, hq, hx⟩ := hg
    obtain ⟨its, rv, p, hz⟩ := I.list hq
    obtain ⟨f0, f1, f2, f3, f4, f5⟩ := hf it (by simp)
    have hl := rv.length
    exact wpAny_pyNext_list_end (I.ok.hd hc) st p.isList (by simp; omega) fun h' eb => ⟨rfl, I.turned (t' := s.toks) (fun b o hb e => eb b o hb e) f0 f1 f3 f4 f5⟩
  self := fun _ _ _ _ _ st h => wpAny_pyIter_listiter st h
theorem turn_tuple {P : Program} {w : World} {K : PySem.W.Frag} {tg : Expr} (a it : Addr) : Turn P w K tg (Itt K a) [it] it (fun i h => h.IsTupleIter it a i) where
  mem := by simp
  obj := fun i h st b hb => by
    have e : b = it := by simpa using hb
    subst e
    obtain ⟨o, e, c, d⟩ := st
    exact ⟨o, e, fun v z => by rw [d] at z; cases z⟩
  keep := fun i h h' st k => st.at fun o e => k it (by simp) o e
  item := by
    intro X hP hw hK hc i pins s σ H E I hf st hg
    subst hP hw hK
    obtain ⟨xs, x, hq, hx⟩ := hg
    obtain ⟨its, rv, p, hz⟩ := I.tuple hq
    obtain ⟨u, hu, ru⟩ := rv.get hx
    obtain ⟨f0, f1, f2, f3, f4, f5⟩ := hf it (by simp)
    refine wpAny_pyNext_tuple_item st (show s.heap.IsTuple a its.toArray from p) (x := u) (by simpa using hu) fun h' st' sb => ?_
    have I1 : Inv X pins σ H { s with heap := h' } := I.turned (t' := s.toks) (fun b o hb e => (sb.2 b hb).trans e) f0 f1 f3 f4 f5
    obtain ⟨o, e, c, d⟩ := id st'
    exact ⟨u, rfl, go_of (s := { s with heap := h' }) e c d (by decide) ⟨x, H, I1, ru, ⟨rfl, fun ys hy => by rw [I.tuple_inj hy hq]; exact hx⟩, st', fun b hb => (hf b hb).1⟩⟩
  done := by
    intro X hP hw hK hc i pins s σ H E I hf st hg
    subst hP hw hK
    obtain ⟨xs, hq, hx⟩ := hg
    obtain ⟨its, rv, p, hz⟩ := I.tuple hq
    obtain ⟨f0, f1, f2, f3, f4, f5⟩ := hf it (by simp)
    have hl := rv.length
    exact wpAny_pyNext_tuple_end (I.ok.hd hc) st (show s.heap.IsTuple a its.toArray from p) (by simp; omega) fun h' eb => ⟨rfl, I.turned (t' := s.toks) (fun b o hb e => eb b o hb e) f0 f1 f3 f4 f5⟩
  self := fun _ _ _ _ _ st h => wpAny_pyIter_tupleiter st h
theorem turn_range {P : Program} {w : World} {K : PySem.W.Frag} {tg : Expr} (it : Addr) (lo : Int) (n : Nat) : Turn P w K tg (Itr lo n) [it] it (fun i h => IsRangeIter h it (lo + (i : Nat) * 1) ((n : Int) - (i : Nat)) 1) where
  mem := by simp
  obj := fun i h st b hb => by
    have e : b = it := by simpa using hb
    subst e
    exact ⟨_, st, fun v z => by
      have z' : Data.fields _ = Data.cell v := z
      cases z'⟩
  keep := fun i h h' st k => k it (by simp) _ st
  item := by
    intro X hP hw hK hc i pins s σ H E I hf st hg
    subst hP hw hK
    obtain ⟨f0, f1, f2, f3, f4, f5⟩ := hf it (by simp)
    have W := Walks.range (prog := X.prog) (w := X.w) (I.ok.hd hc) it lo 1 n
    refine W.item i s _ _ hg st fun v h' tk hv st' kk => ?_
    obtain ⟨t, rfl⟩ := hv
    have I1 : Inv X pins σ H { s with heap := h', toks := tk } := I.turned (fun b o hb e => kk b o (by simpa using hb) e) f0 f1 f3 f4 f5
    refine ⟨_, rfl, go_of (s := { s with heap := h', toks := tk }) (n := "range_iterator") st' rfl rfl (by decide) ⟨.int (lo + i), H, I1, ⟨t, ?_⟩, ⟨rfl, rfl⟩, st', fun b hb => (hf b hb).1⟩⟩
    rw [Int.mul_one]
  done := by
    intro X hP hw hK hc i pins s σ H E I hf st hg
    subst hP hw hK
    obtain ⟨f0, f1, f2, f3, f4, f5⟩ := hf it (by simp)
    exact wpAny_pyNext_range_end (I.ok.hd hc) st (by have : n ≤ i := hg; omega) fun h' eb => ⟨rfl, I.turned (t' := s.toks) (fun b o hb e => eb b o hb e) f0 f1 f3 f4 f5⟩
  self := fun _ _ _ _ _ st h => wpAny_pyIter_rangeiter st h
end L2

namespace L2
open PySem PySem.Spec PyProof.Rows
section
variable {X : Cx} {tg : Expr}
noncomputable def iList (K : PySem.W.Frag) (tl : TE) : TI := fun σ H R => tl σ H fun x H1 => ∃ a, x = .ref a ∧ (∃ xs, SqL K H1 a xs) ∧ R (Itl K a) H1
noncomputable def iTup (K : PySem.W.Frag) (tl : TE) : TI := fun σ H R => tl σ H fun x H1 => ∃ a, x = .ref a ∧ (∃ xs, SqT K H1 a xs) ∧ R (Itt K a) H1
theorem pi_list {l : Expr} {tl : TE} (hl : PE X l tl) : PI X tg l (iList X.K tl) := by
  intro pins s σ H R I h
  refine thn (hl pins s σ H _ I h) fun v s1 ⟨x, H1, I1, r1, q1⟩ => ?_
  obtain ⟨a, e, ⟨xs, hq⟩, q⟩ := q1
  subst e
  cases r1
  obtain ⟨its, rv, p, hz⟩ := I1.list hq
  refine wpAny_pyIter_list p.isList ?_
  refine ⟨s1.heap.objs.size, [s1.heap.objs.size], _, _, H1, rfl, I1.kept (t' := s1.toks) fun b o e => Heap.get?_push_of_some _ e, turn_list a _, ⟨_, Heap.get?_push_size _ rfl, rfl, rfl⟩, fun b hb => ?_, q⟩
  have e : b = s1.heap.objs.size := by simpa using hb
  subst e
  exact I1.fpOk (Nat.le_refl _) (I1.hok.fresh (Nat.le_refl _))
theorem pi_tup {l : Expr} {tl : TE} (hl : PE X l tl) : PI X tg l (iTup X.K tl) := by
  intro pins s σ H R I h
  refine thn (hl pins s σ H _ I h) fun v s1 ⟨x, H1, I1, r1, q1⟩ => ?_
  obtain ⟨a, e, ⟨xs, hq⟩, q⟩ := q1
  subst e
  cases r1
  obtain ⟨its, rv, p, hz⟩ := I1.tuple hq
  refine wpAny_pyIter_tuple (show s1.heap.IsTuple a its.toArray from p) ?_
  refine ⟨s1.heap.objs.size, [s1.heap.objs.size], _, _, H1, rfl, I1.kept (t' := s1.toks) fun b o e => Heap.get?_push_of_some _ e, turn_tuple a _, ⟨_, Heap.get?_push_size _ rfl, rfl, rfl⟩, fun b hb => ?_, q⟩
  have e : b = s1.heap.objs.size := by simpa using hb
  subst e
  exact I1.fpOk (Nat.le_refl _) (I1.hok.fresh (Nat.le_refl _))
theorem range_it {pins : List (Addr × Obj)} {σ : St} {H : Hp} {s : Shared} {R : It → Hp → Prop} {E : Value → Shared → Prop} {lo hi : Int} {t u v : Tok} {tk : Nat} (I : Inv X pins σ H s) (h1 : -(2 ^ 62) ≤ lo) (h2 : lo < 2 ^ 62) (h3 : -(2 ^ 62) ≤ hi) (h4 : hi < 2 ^ 62)
    (q : R (Itr lo (hi - lo).toNat) H) : wpAny (model X.prog X.w) X.A (pyIter (.ref s.heap.objs.size)) (PIE X pins σ tg R) E { s with heap := s.heap.push { cls := .type "range", data := .fields #[.int lo t, .int hi u, .int 1 v] }, toks := tk } := by
  refine wpAny_pyIter_range (IsRange.new ..) (small_one h1 h2 h3 h4) ?_
  have I1 : Inv X pins σ H { s with heap := s.heap.push { cls := .type "range", data := .fields #[.int lo t, .int hi u, .int 1 v] }, toks := tk } := I.kept fun b o e => Heap.get?_push_of_some _ e
  refine ⟨(s.heap.push { cls := .type "range", data := .fields #[.int lo t, .int hi u, .int 1 v] }).objs.size, [(s.heap.push { cls := .type "range", data := .fields #[.int lo t, .int hi u, .int 1 v] }).objs.size], _, _, H, rfl,
    I1.kept (t' := tk) fun b o e => Heap.get?_push_of_some _ e, turn_range _ lo (hi - lo).toNat, ?_, fun b hb => ?_, q⟩
  · have e1 : lo + ((0 : Nat) : Int) * 1 = lo := by simp
    have e2 : (((hi - lo).toNat : Nat) : Int) - ((0 : Nat) : Int) = Builtin.Range.rangeSize lo hi 1 := by rw [rangeSize_one]; split <;> omega
    show IsRangeIter _ _ (lo + ((0 : Nat) : Int) * 1) ((((hi - lo).toNat : Nat) : Int) - ((0 : Nat) : Int)) 1
    rw [e1, e2]
    exact Heap.get?_push_size _ rfl
  · have e : b = (s.heap.push { cls := .type "range", data := .fields #[.int lo t, .int hi u, .int 1 v] }).objs.size := by simpa using hb
    subst e
    exact I1.fpOk (Nat.le_refl _) (I1.hok.fresh (Nat.le_refl _))
noncomputable def iRng1 (ta : TA) : TI := fun σ H R => ta σ H fun vs H1 => ∃ j : Int, vs = [.int j] ∧ -(2 ^ 62) ≤ j ∧ j < 2 ^ 62 ∧ R (Itr 0 j.toNat) H1
theorem pi_range1 {a : Expr} {ta : TA} {p pos : Pos} (hg : Gl X "range") (hm : X.mg "range" = none) (ha : PA X [a] ta) (hs : starEach [a] X.env = [(false, eval a X.env)] := by rfl) : PI X tg (.Call (.Name "range" p) [a] [] pos) (iRng1 ta) := by
  intro pins s σ H R I h
  refine Call_ (ld_blt I hg hm boot_range (PyProof.Rows.callWith_type1 (thn (ha pos pins s σ H _ I h) fun us s1 ⟨vs, H1, I1, r1, q1⟩ => ?_) hs rfl))
  obtain ⟨j, e, q1, q2, q⟩ := q1
  subst e
  cases r1 with
  | cons r rr =>
    cases rr
    obtain ⟨t, rfl⟩ := r
    exact call_range_1 (range_it I1 (by omega) (by omega) q1 q2 (by simpa using q))
noncomputable def tFor (wi : TI) (g : TG) (tb : TS) : TS := fun D σ H => wi σ H fun J H1 => ∃ W : Nat → Nat → St → Hp → Prop, (∃ m, W 0 m σ H1) ∧ ∀ i m σ H, W i m σ H →
  (J.stop i H ∧ D.nx σ H) ∨ (J.go i H ∧ ∃ N : St → Hp → Prop, (∀ σ' H', N σ' H' → ∃ m', m' < m ∧ W (i + 1) m' σ' H') ∧ ∀ x H', J.yld i H x H' → g x σ H' fun σ2 H2 => tb { D with nx := N, ct := N, bk := D.nx } σ2 H2)
noncomputable def pinsAt (fp : List Addr) (h : Heap) : List (Addr × Obj) := fp.filterMap fun b => (h.get? b).map fun o => (b, o)
theorem mem_pinsAt {fp : List Addr} {h : Heap} {b : Addr} {o : Obj} (hb : b ∈ fp) (e : h.get? b = some o) : (b, o) ∈ pinsAt fp h := List.mem_filterMap.mpr ⟨b, hb, by rw [e]; rfl⟩
theorem of_pinsAt {fp : List Addr} {h : Heap} {p : Addr × Obj} (hp : p ∈ pinsAt fp h) : p.1 ∈ fp ∧ h.get? p.1 = some p.2 := by
  obtain ⟨b, hb, e⟩ := List.mem_filterMap.mp hp
  cases q : h.get? b with
  | none => rw [q] at e; cases e
  | some o =>
    rw [q] at e
    have e' : (b, o) = p := Option.some.inj e
    subst e'
    exact ⟨hb, q⟩
theorem Inv.pinned {pins : List (Addr × Obj)} {σ : St} {H : Hp} {s : Shared} {fp : List Addr} (I : Inv X pins σ H s) (hf : ∀ b ∈ fp, FpOk X pins H b) (ho : ∀ b ∈ fp, ∃ o, s.heap.get? b = some o ∧ ∀ v, o.data ≠ .cell v) : Inv X (pins ++ pinsAt fp s.heap) σ H s :=
  I.pins_of fun p hp => (List.mem_append.mp hp).elim (fun z => I.pin p (List.mem_append_right _ z)) fun z => by
    obtain ⟨hb, e⟩ := of_pinsAt z
    obtain ⟨f0, f1, f2, _⟩ := hf p.1 hb
    obtain ⟨o, e', d⟩ := ho p.1 hb
    rw [e] at e'; cases e'
    exact ⟨e, f0, f1, f2, d⟩
theorem Inv.unpinned {pins pl : List (Addr × Obj)} {σ : St} {H : Hp} {s : Shared} (I : Inv X (pins ++ pl) σ H s) : Inv X pins σ H s := I.pins_of fun p hp => I.pin p (List.mem_append_right _ (List.mem_append_left _ hp))
theorem ps_for {iter : Expr} {body : List Stmt} {wi : TI} {g : TG} {tb : TS} {pos : Pos} (hp : PassesOwn (model X.prog X.w) X.A X.env X.xe) (hc : X.calm = true) (hi : PI X tg iter wi) (hg : PG X tg g) (hb : PSs X body tb)
    (hs : ∀ x, foldedSetIterable iter X.env x = pure x := by intro _; rfl) : PS X (.For tg iter body [] pos) (tFor wi g tb) := by
  intro pins s σ H D I h
  refine wpAny_For (thn (hi pins s σ H _ I h) fun v s1 h1 => thn h1 fun itv s2 h2 => ?_) hs
  obtain ⟨it, fp, tn, J, H2, e, I2, T, st2, f2, W, ⟨m0, w0⟩, turn⟩ := h2
  subst e
  -- what stays true of the iterator's objects through the loop
  have stat : ∀ {H' : Hp}, (∀ b ∈ fp, H' b = none) → ∀ b ∈ fp, FpOk X pins H' b := fun hn b hb => ⟨hn b hb, (f2 b hb).2⟩
  refine codeAny_forLoop_any (fun n s' => ∃ i σ' H', Inv X pins σ' H' s' ∧ tn i s'.heap ∧ (∀ b ∈ fp, H' b = none) ∧ W i n σ' H') ?_ m0 ⟨0, σ, H2, I2, st2, fun b hb => (f2 b hb).1, w0⟩
  rintro n s3 ⟨i, σ3, H3, I3, st3, fr3, w3⟩
  rcases turn i n σ3 H3 w3 with ⟨stop, qn⟩ | ⟨go, N, hN, step⟩
  · refine wpAny_passesOwn hp (thn (T.done X rfl rfl rfl hc i pins s3 σ3 H3 X.xe I3 (stat fr3) st3 stop) fun r s4 ⟨hr, I4⟩ => ?_)
    subst hr
    exact wpAny_execs_nil ⟨σ3, H3, I4, qn⟩
  · refine wpAny_passesOwn hp (thn (T.item X rfl rfl rfl hc i pins s3 σ3 H3 X.xe I3 (stat fr3) st3 go) fun r s4 ⟨u, hr, h4⟩ => ?_)
    subst hr
    refine wpAny_passesOwn hp (thn h4 fun _ s5 ⟨x, H5, I5, r5, y5, st5, fr5⟩ => ?_)
    have I5' := I5.pinned (stat fr5) (T.obj _ _ st5)
    refine wpAny_passesOwn hp (thn (hg _ s5 σ3 H5 x u _ I5' r5 (step x H5 y5)) fun _ s6 ⟨σ6, H6, I6, q6⟩ => ?_)
    refine wpAny_passesOwn hp (thn (hb _ s6 σ6 H6 _ I6 q6) fun f s7 q7 => ?_)
    have again : ∀ {σ7 : St} {H7 : Hp}, Inv X (pins ++ pinsAt fp s5.heap) σ7 H7 s7 → N σ7 H7 → ∃ m, m < n ∧ ∃ i σ' H', Inv X pins σ' H' s7 ∧ tn i s7.heap ∧ (∀ b ∈ fp, H' b = none) ∧ W i m σ' H' := fun {σ7 H7} I7 n7 => by
      obtain ⟨m', hm, w7⟩ := hN σ7 H7 n7
      refine ⟨m', hm, i + 1, σ7, H7, I7.unpinned, T.keep _ _ _ st5 fun b hb o e => (I7.pin (b, o) (List.mem_append_right _ (List.mem_append_right _ (mem_pinsAt hb e)))).1, fun b hb => ?_, w7⟩
      obtain ⟨o, e, d⟩ := T.obj _ _ st5 b hb
      exact (I7.pin (b, o) (List.mem_append_right _ (List.mem_append_right _ (mem_pinsAt hb e)))).2.1
    cases f with
    | next => obtain ⟨σ7, H7, I7, n7⟩ := q7; exact again I7 n7
    | cont => obtain ⟨σ7, H7, I7, n7⟩ := q7; exact again I7 n7
    | brk => obtain ⟨σ7, H7, I7, q7⟩ := q7; exact ⟨σ7, H7, I7.unpinned, q7⟩
    | ret v => obtain ⟨x7, σ7, H7, I7, r7, q7⟩ := q7; exact ⟨x7, σ7, H7, I7.unpinned, r7, q7⟩
end

end L2

namespace L2
open PySem PySem.Spec PyProof.Rows

noncomputable abbrev R2 := V → V → Hp → VK → Prop
noncomputable def OpR (X : Cx) (f : Value → Value → Sem Value) (r : R2) : Prop :=
  ∀ (pins : List (Addr × Obj)) (s : Shared) (σ : St) (H : Hp) (x y : V) (v u : Value) (Q : VK), Inv X pins σ H s → RelV x v → RelV y u → r x y H Q →
    wpAny (model X.prog X.w) X.A (f v u) (EP X pins σ Q) X.xe s
noncomputable def CallR (X : Cx) (f : Value) (r : List V → Hp → VK → Prop) : Prop :=
  ∀ (pins : List (Addr × Obj)) (s : Shared) (σ : St) (H : Hp) (xs : List V) (us : List Value) (Q : VK), Inv X pins σ H s → Vals xs us → r xs H Q →
    wpAny (model X.prog X.w) X.A (call f us) (EP X pins σ Q) X.xe s
noncomputable def TruR (X : Cx) (r : V → Hp → (Bool → Hp → Prop) → Prop) : Prop :=
  ∀ (pins : List (Addr × Obj)) (s : Shared) (σ : St) (H : Hp) (x : V) (v : Value) (Q : Bool → Hp → Prop), Inv X pins σ H s → RelV x v → r x H Q →
    wpAny (model X.prog X.w) X.A (truthy v) (TP X pins σ Q) X.xe s

noncomputable def tOp (r : R2) (ta tb : TE) : TE := fun σ H Q => ta σ H fun x H1 => tb σ H1 fun y H2 => r x y H2 Q
noncomputable def rI (C : Int → Int → Prop) (g : Int → Int → V) : R2 := fun x y H Q => ∃ i j, x = .int i ∧ y = .int j ∧ C i j ∧ Q (g i j) H
noncomputable def rI0 (g : Int → Int → V) : R2 := fun x y H Q => ∃ i j, x = .int i ∧ y = .int j ∧ Q (g i j) H
section
variable {X : Cx} {a b c : Expr} {ta tb tc : TE} {pos : Pos}

theorem binT (ha : PE X a ta) (hb : PE X b tb) {pins : List (Addr × Obj)} {s : Shared} {σ : St} {H : Hp} {R : V → V → Hp → Prop} (I : Inv X pins σ H s)
    (h : ta σ H fun x H1 => tb σ H1 fun y H2 => R x y H2) {Q : Value → Shared → Prop} {f : Value → Value → Sem Value}
    (hf : ∀ v u s2 x y H2, Inv X pins σ H2 s2 → RelV x v → RelV y u → R x y H2 → wpAny (model X.prog X.w) X.A (f v u) Q X.xe s2) :
    wpAny (model X.prog X.w) X.A (eval a X.env) (fun v s₁ => wpAny (model X.prog X.w) X.A (eval b X.env) (fun u s₂ => wpAny (model X.prog X.w) X.A (f v u) Q X.xe s₂) X.xe s₁) X.xe s := by
  refine thn (ha pins s σ H _ I h) fun v s1 ⟨x, H1, I1, r1, q1⟩ => ?_
  refine thn (hb pins s1 σ H1 _ I1 q1) fun u s2 ⟨y, H2, I2, r2, q2⟩ => ?_
  exact hf v u s2 x y H2 I2 r1 r2 q2

theorem pe_op {op : Operator} {r : R2} (ho : OpR X (binaryOp op) r) (ha : PE X a ta) (hb : PE X b tb) : PE X (.BinOp a op b pos) (tOp r ta tb) := by
  intro pins s σ H Q I h
  exact wpAny_BinOp (binT ha hb I h fun v u s2 x y H2 I2 rx ry q => ho pins s2 σ H2 x y v u Q I2 rx ry q)
theorem opI {f : Value → Value → Sem Value} {C : Int → Int → Prop} {g : Int → Int → Int}
    (rule : ∀ (i j : Int) (t u : Tok) (s : Shared) (Q : Value → Shared → Prop) (E : Value → Shared → Prop), C i j → Q (.int (g i j) s.toks) { s with toks := s.toks + 1 } → wpAny (model X.prog X.w) X.A (f (.int i t) (.int j u)) Q E s) :
    OpR X f (rI C fun i j => .int (g i j)) := by
  intro pins s σ H x y v u Q I rx ry h
  obtain ⟨i, j, rfl, rfl, hc, q⟩ := h
  obtain ⟨t, rfl⟩ := rx
  obtain ⟨t', rfl⟩ := ry
  exact rule i j t t' s _ _ hc ⟨.int (g i j), H, I.tok _, ⟨_, rfl⟩, q⟩
theorem opI0 {f : Value → Value → Sem Value} {g : Int → Int → Int}
    (rule : ∀ (i j : Int) (t u : Tok) (s : Shared) (Q : Value → Shared → Prop) (E : Value → Shared → Prop), Q (.int (g i j) s.toks) { s with toks := s.toks + 1 } → wpAny (model X.prog X.w) X.A (f (.int i t) (.int j u)) Q E s) :
    OpR X f (rI0 fun i j => .int (g i j)) := by
  intro pins s σ H x y v u Q I rx ry h
  obtain ⟨i, j, rfl, rfl, q⟩ := h
  obtain ⟨t, rfl⟩ := rx
  obtain ⟨t', rfl⟩ := ry
  exact rule i j t t' s _ _ ⟨.int (g i j), H, I.tok _, ⟨_, rfl⟩, q⟩
theorem opB0 {f : Value → Value → Sem Value} {g : Int → Int → Bool}
    (rule : ∀ (i j : Int) (t u : Tok) (s : Shared) (Q : Value → Shared → Prop) (E : Value → Shared → Prop), Q (.bool (g i j)) s → wpAny (model X.prog X.w) X.A (f (.int i t) (.int j u)) Q E s) :
    OpR X f (rI0 fun i j => .bl (g i j)) := by
  intro pins s σ H x y v u Q I rx ry h
  obtain ⟨i, j, rfl, rfl, q⟩ := h
  obtain ⟨t, rfl⟩ := rx
  obtain ⟨t', rfl⟩ := ry
  exact rule i j t t' s _ _ ⟨.bl (g i j), H, I, rfl, q⟩

noncomputable def CDiv (i j : Int) : Prop := 0 < j ∧ j < 1073741824
noncomputable def CPow (i j : Int) : Prop := 0 ≤ j ∧ j ≤ 1000000 ∧ i.natAbs < 2 ^ 64
noncomputable def CMul (i j : Int) : Prop := (-(2 ^ 64) < i ∧ i < 2 ^ 64) ∨ (-(2 ^ 64) < j ∧ j < 2 ^ 64)
theorem CMul.ok {i j : Int} (h : CMul i j) : IntMulOk i j := by
  rcases h with ⟨h1, h2⟩ | ⟨h1, h2⟩
  · exact .of_left (intBits_le_64 h1 h2)
  · exact .of_right (intBits_le_64 h1 h2)
theorem op_add : OpR X (binaryOp .Add) (rI0 fun i j => .int (i + j)) := opI0 fun _ _ _ _ _ _ _ q => add_int q
theorem op_sub : OpR X (binaryOp .Sub) (rI0 fun i j => .int (i - j)) := opI0 fun _ _ _ _ _ _ _ q => sub_int q
theorem op_mul : OpR X (binaryOp .Mult) (rI CMul fun i j => .int (i * j)) := opI fun _ _ _ _ _ _ _ hc q => mul_int q hc.ok
theorem op_fdiv : OpR X (binaryOp .FloorDiv) (rI CDiv fun i j => .int (i / j)) := opI fun i j _ _ _ _ _ hc q => by
  have h1 : (0 : Int) < j := hc.1
  have h2 : j < 1073741824 := hc.2
  exact floordiv_int (by omega) (by rw [Int.fdiv_eq_ediv_of_nonneg i (by omega)]; exact q) (.inl (PyProof.noPylong_small (by omega)))
theorem op_mod : OpR X (binaryOp .Mod) (rI (fun _ j => 0 < j) fun i j => .int (i % j)) := opI fun i j _ _ _ _ _ hc q => by
  have h1 : (0 : Int) < j := hc
  exact mod_int' (by omega) (by rw [Int.fmod_eq_emod_of_nonneg i (by omega)]; exact q)
theorem op_pow : OpR X (binaryOp .Pow) (rI CPow fun i j => .int (i ^ j.toNat)) := opI fun _ _ _ _ _ _ _ hc q => pow_int_small hc.1 hc.2.1 hc.2.2 q
end

noncomputable def scal : V → V → Bool
  | .non, .non => true | .non, .int _ => true | .int _, .non => true | .non, .bl _ => true | .bl _, .non => true | .non, .str _ => true | .str _, .non => true
  | .int _, .int _ => true | .bl _, .bl _ => true | .str _, .str _ => true | .byt _, .byt _ => true
  | .int _, .str _ => true | .str _, .int _ => true | .bl _, .str _ => true | .str _, .bl _ => true
  | _, _ => false
noncomputable def rEq : R2 := fun x y H Q => scal x y = true ∧ Q (.bl (decide (x = y))) H
theorem dec_int {i j : Int} : decide (V.int i = V.int j) = (i == j) := by
  rw [Bool.eq_iff_iff]
  simp
theorem dec_bl {i j : Bool} : decide (V.bl i = V.bl j) = (i == j) := by
  rw [Bool.eq_iff_iff]
  simp
theorem dec_str {i j : Str} : decide (V.str i = V.str j) = (i == j) := by
  rw [Bool.eq_iff_iff]
  simp
theorem dec_byt {i j : Array UInt8} : decide (V.byt i = V.byt j) = (i.toList == j.toList) := by
  rw [Bool.eq_iff_iff]
  cases i
  cases j
  simp

section
variable {X : Cx} {a b c : Expr} {ta tb tc : TE} {pos : Pos}
theorem fin_bl {pins : List (Addr × Obj)} {σ : St} {H : Hp} {s : Shared} {Q : VK} {k k' : Bool} (I : Inv X pins σ H s) (q : Q (.bl k) H) (e : k = k') : EP X pins σ Q (.bool k') s := by
  subst e
  exact ⟨.bl k, H, I, rfl, q⟩
theorem op_eq : OpR X (compareOp .Eq) rEq := by
  intro pins s σ H x y v u Q I rx ry h
  obtain ⟨hs, q⟩ := h
  cases x with
  | non =>
    cases rx
    cases y with
    | non => cases ry; exact PySem.EqNone.eq_none_none (fin_bl I q (by simp))
    | bl j => cases ry; exact PySem.EqNone.eq_none_bool (fin_bl I q (by simp))
    | int j => obtain ⟨t', rfl⟩ := ry; exact PySem.EqNone.eq_none_int (fin_bl I q (by simp))
    | str j => obtain ⟨t', rfl⟩ := ry; exact PySem.EqNone.eq_none_str (fin_bl I q (by simp))
    | _ => exact absurd (show false = true from hs) Bool.false_ne_true
  | bl i =>
    cases rx
    cases y with
    | non => cases ry; exact PySem.EqNone.eq_bool_none (fin_bl I q (by simp))
    | bl j => cases ry; exact eq_bool (fin_bl I q dec_bl)
    | str j => obtain ⟨t', rfl⟩ := ry; exact PySem.EqMixed.eq_bool_str (fin_bl I q (by simp))
    | _ => exact absurd (show false = true from hs) Bool.false_ne_true
  | int i =>
    obtain ⟨t, rfl⟩ := rx
    cases y with
    | non => cases ry; exact PySem.EqNone.eq_int_none (fin_bl I q (by simp))
    | int j => obtain ⟨t', rfl⟩ := ry; exact eq_int (fin_bl I q dec_int)
    | str j => obtain ⟨t', rfl⟩ := ry; exact PySem.EqMixed.eq_int_str (fin_bl I q (by simp))
    | _ => exact absurd (show false = true from hs) Bool.false_ne_true
  | str i =>
    obtain ⟨t, rfl⟩ := rx
    cases y with
    | non => cases ry; exact PySem.EqNone.eq_str_none (fin_bl I q (by simp))
    | bl j => cases ry; exact PySem.EqMixed.eq_str_bool (fin_bl I q (by simp))
    | int j => obtain ⟨t', rfl⟩ := ry; exact PySem.EqMixed.eq_str_int (fin_bl I q (by simp))
    | str j => obtain ⟨t', rfl⟩ := ry; exact eq_str (fin_bl I q dec_str)
    | _ => exact absurd (show false = true from hs) Bool.false_ne_true
  | byt i =>
    obtain ⟨t, rfl⟩ := rx
    cases y with
    | byt j => obtain ⟨t', rfl⟩ := ry; exact PySem.W.eq_bytes (fin_bl I q dec_byt)
    | _ => exact absurd (show false = true from hs) Bool.false_ne_true
  | _ => cases y <;> exact absurd (show false = true from hs) Bool.false_ne_true
theorem op_lt : OpR X (compareOp .Lt) (rI0 fun i j => .bl (decide (i < j))) := opB0 fun _ _ _ _ _ _ _ q => lt_int q
theorem op_gt : OpR X (compareOp .Gt) (rI0 fun i j => .bl (decide (j < i))) := opB0 fun _ _ _ _ _ _ _ q => gt_int q
theorem OpR.or {f : Value → Value → Sem Value} {r r' : R2} (h : OpR X f r) (h' : OpR X f r') : OpR X f (fun x y H Q => r x y H Q ∨ r' x y H Q) := by
  intro pins s σ H x y v u Q I rx ry q
  rcases q with q | q
  · exact h pins s σ H x y v u Q I rx ry q
  · exact h' pins s σ H x y v u Q I rx ry q

theorem nomark (b : Expr) {op : CmpOp} (h : op ≠ .In := by decide) (h2 : op ≠ .NotIn := by decide) : behindInMarks op b = false := by
  have e1 : (op == CmpOp.In) = false := by cases op <;> first | rfl | exact absurd rfl h
  have e2 : (op == CmpOp.NotIn) = false := by cases op <;> first | rfl | exact absurd rfl h2
  cases b <;> simp [behindInMarks, e1, e2]
noncomputable def tTest (t : TE) : TT := fun σ H Q => t σ H fun x H' => ∃ k, x = .bl k ∧ Q k H'
theorem pt_cmpR {op : CmpOp} {r : R2} (ho : OpR X (compareOp op) r) (ha : PE X a ta) (hb : PE X b tb) (hm : behindInMarks op b = false) : PT X (.Compare a [op] [b] pos) (tTest (tOp r ta tb)) := by
  intro pins s σ H Q I h
  refine wpAny_isTrue_Compare1 (thn (ha pins s σ H _ I h) fun v s1 ⟨x, H1, I1, r1, q1⟩ => thn (hb pins s1 σ H1 _ I1 q1) fun u s2 ⟨y, H2, I2, r2, q2⟩ =>
    thn (ho pins s2 σ H2 x y v u _ I2 r1 r2 q2) fun c s3 ⟨z, H3, I3, r3, k, e, q3⟩ => ?_) hm
  subst e
  cases r3
  exact wpAny_truthy_bool ⟨H3, I3, q3⟩
noncomputable def TruV (K : PySem.W.Frag) (x : V) (H : Hp) (k : Bool) : Prop :=
  match x with
  | .non => k = false
  | .bl b => k = b
  | .int i => k = (i != 0)
  | .str y => y.length ≤ sizeLine ∧ k = ((y.length : Int) != 0)
  | .byt y => y.size ≤ sizeLine ∧ k = ((y.size : Int) != 0)
  | .ref p => (∃ xs, SqL K H p xs ∧ k = !xs.isEmpty) ∨ (∃ xs, SqT K H p xs ∧ k = !xs.isEmpty) ∨ ∃ kvs, H p = some (.dK kvs) ∧ k = !kvs.isEmpty
  | _ => False
theorem isEmpty_kv {κ : Type} {kvs : List (κ × V)} {vs : List (κ × Value)} (r : KV kvs vs) : (!vs.isEmpty) = !kvs.isEmpty := by
  cases r <;> rfl
theorem isEmpty_of {xs : List V} {its : List Value} (r : Vals xs its) : (!its.toArray.isEmpty) = !xs.isEmpty := by
  cases r <;> simp
theorem line63 : (sizeLine : Nat) < 2 ^ 63 := by rw [sizeLine_eq]; decide
theorem tru_ok : TruR X (fun x H Q => ∃ k, TruV X.K x H k ∧ Q k H) := by
  intro pins s σ H x v Q I rx h
  obtain ⟨k, e, q⟩ := h
  have hl := line63
  have hs : sizeLine = 16777216 := sizeLine_eq
  cases x with
  | non =>
    cases rx
    have e' : k = false := e
    subst e'
    exact truthy_none ⟨H, I, q⟩
  | bl b =>
    cases rx
    have e' : k = b := e
    subst e'
    exact wpAny_truthy_bool ⟨H, I, q⟩
  | int i =>
    obtain ⟨t, rfl⟩ := rx
    have e' : k = (i != 0) := e
    subst e'
    exact PySem.P.truthy_int ⟨H, I, q⟩
  | str y =>
    obtain ⟨t, rfl⟩ := rx
    obtain ⟨hy, e'⟩ : y.length ≤ sizeLine ∧ k = ((y.length : Int) != 0) := e
    subst e'
    exact PySem.P.truthy_str (by omega) ⟨H, I.tok _, q⟩
  | byt y =>
    obtain ⟨t, rfl⟩ := rx
    obtain ⟨hy, e'⟩ : y.size ≤ sizeLine ∧ k = ((y.size : Int) != 0) := e
    subst e'
    exact PySem.W.truthy_bytes (by omega) ⟨H, I.tok _, q⟩
  | ref p =>
    cases rx
    have e' : (∃ xs, SqL X.K H p xs ∧ k = !xs.isEmpty) ∨ (∃ xs, SqT X.K H p xs ∧ k = !xs.isEmpty) ∨ ∃ kvs, H p = some (.dK kvs) ∧ k = !kvs.isEmpty := e
    rcases e' with ⟨xs, hx, e'⟩ | ⟨xs, hx, e'⟩ | ⟨kvs, hx, e'⟩
    · subst e'
      obtain ⟨its, r, pl, hz⟩ := I.list hx
      have hlen := r.length
      exact wpAny_truthy_list pl.isList (by simp only [List.size_toArray]; omega) ⟨H, I.tok _, by rw [isEmpty_of r]; exact q⟩
    · subst e'
      obtain ⟨its, r, pl, hz⟩ := I.tuple hx
      have hlen := r.length
      exact truthy_tuple pl (by simp only [List.size_toArray]; omega) ⟨H, I.tok _, by rw [isEmpty_of r]; exact q⟩
    · subst e'
      obtain ⟨hz, hS, vs, r, m⟩ : kvs.length ≤ sizeLine ∧ (p == sysModules) = false ∧ ∃ vs, KV kvs vs ∧ s.heap.DictOf (mixKind X.prog X.w) p vs := I.hok p _ hx
      have hlen : kvs.length = vs.length := Paired.length r
      exact wpAny_truthy_dict hS m (by omega) ⟨H, I.tok _, by rw [isEmpty_kv r]; exact q⟩
  | _ => exact (show False from e).elim
theorem pt_truth (ha : PE X a ta) (he : ∀ whole, isTrue a X.env whole = (do let v ← whole; standAt a.pos; holding [v] (truthy v))) :
    PT X a (fun σ H Q => ta σ H fun x H' => ∃ k, TruV X.K x H' k ∧ Q k H') := by
  intro pins s σ H Q I h
  exact isTrue_plain (thn (ha pins s σ H _ I h) fun v s1 ⟨x, H1, I1, r1, q1⟩ => tru_ok pins s1 σ H1 x v Q I1 r1 q1) (he _)

theorem op_add_str : OpR X (binaryOp .Add) (fun x y H Q => ∃ i j, x = .str i ∧ y = .str j ∧ i.length + j.length ≤ sizeLine ∧ Q (.str (i ++ j)) H) := by
  intro pins s σ H x y v u Q I rx ry h
  obtain ⟨i, j, rfl, rfl, hz, q⟩ := h
  obtain ⟨t, rfl⟩ := rx
  obtain ⟨t', rfl⟩ := ry
  exact add_str (fun t' tk => ⟨.str (i ++ j), H, I.tok _, ⟨_, rfl⟩, q⟩) hz
theorem vals1 {x : V} {us : List Value} (r : Vals [x] us) : ∃ u, us = [u] ∧ RelV x u := by
  cases r with
  | cons r1 r2 => cases r2; exact ⟨_, rfl, r1⟩
theorem vals2 {x y : V} {us : List Value} (r : Vals [x, y] us) : ∃ u w', us = [u, w'] ∧ RelV x u ∧ RelV y w' := by
  cases r with
  | cons r1 r2 =>
    cases r2 with
    | cons r3 r4 => cases r4; exact ⟨_, _, rfl, r1, r3⟩
theorem call_str_int : CallR X (.type "str") (fun xs H Q => ∃ i, xs = [.int i] ∧ i.natAbs.log2 < 1920 ∧ Q (.str (toString i)) H) := by
  intro pins s σ H xs us Q I r h
  obtain ⟨i, rfl, hz, q⟩ := h
  obtain ⟨u, rfl, t, rfl⟩ := vals1 r
  exact PySem.P.str_of_int hz ⟨.str _, H, I.tok _, ⟨_, rfl⟩, q⟩
end
end L2

namespace L2
open PySem PySem.Spec PyProof.Rows

structure ObjM (h : Heap) (x dx C : Addr) (mA : Str → Option Value) : Prop where
  obj : h.get? x = some (PySem.W.instObj C dx)
  ns : h.Ns1 dx mA
  ne : dx ≠ x

section
variable {prog : Program} {w : World} {A : Around} {E : Value → Shared → Prop} {s : Shared} {K : PySem.W.Frag} {x dx C f : Addr} {mA : Str → Option Value} {name : Str} {v : Value}

end

section
variable {P : Program} {w : World} {H H' : Hp} {h h' : Heap} {a C dx : Addr} {fs fs' : List (Str × V)}
end

structure Cls (K : PySem.W.Frag) (C : Addr) : Prop where
  pg : PySem.W.plainGet K C Str.empty = true
  hd : PySem.W.hasDictIn K C = true
  po : PySem.W.plainOver K C = true
  sa : PySem.W.findIn K (.ref C) "__setattr__" = some (some (.builtin "object.__setattr__"))
theorem Cls.get {K : PySem.W.Frag} {C : Addr} (c : Cls K C) (f : Str) : PySem.W.plainGet K C f = true := c.pg
structure Con (K : PySem.W.Frag) (C : Addr) (f : Str) (v : V) (u : Value) : Prop where
  at_ : PySem.W.findIn K (.ref C) f = some (some u)
  rel : RelV v u
  get : PySem.W.specialIn K u "__get__" = some none
  cp : PySem.W.copiedNames.contains f = false
structure Meth (K : PySem.W.Frag) (C : Addr) (m : Str) (f : Addr) : Prop where
  at_ : PySem.W.findIn K (.ref C) m = some (some (.ref f))
  fn : PySem.W.isFn K (.ref f) = true
  kp : PySem.W.keepIn K (.ref f) = true

section
variable {X : Cx} {pins : List (Addr × Obj)} {σ : St} {H : Hp} {s : Shared} {a C dx : Addr} {fs : List (Str × V)} {f : Str} {v : V} {A : Around} {E : Value → Shared → Prop}

theorem Inv.made (I : Inv X pins σ H s) : Inv X pins σ (upd (upd H s.heap.objs.size (.own (s.heap.objs.size + 1))) (s.heap.objs.size + 1) (.ins C s.heap.objs.size []))
    { s with heap := (s.heap.push PySem.W.emptyDict).push (PySem.W.instObj C s.heap.objs.size) } := by
  have e1 : (s.heap.push PySem.W.emptyDict).get? s.heap.objs.size = some PySem.W.emptyDict := Heap.get?_push_size s.heap rfl
  have e2 : ((s.heap.push PySem.W.emptyDict).push (PySem.W.instObj C s.heap.objs.size)).get? (s.heap.objs.size + 1) = some (PySem.W.instObj C s.heap.objs.size) := by
    have := Heap.get?_push_size (s.heap.push PySem.W.emptyDict) (o := PySem.W.instObj C s.heap.objs.size) rfl
    rwa [Heap.size_push] at this
  have e3 : (s.heap.push PySem.W.emptyDict).Ns s.heap.objs.size (fun _ => none) := ⟨PySem.W.emptyDict, #[], _, e1, rfl, (fun e he => absurd he (by simp)), fun _ => rfl⟩
  have I1 := I.laid (a := s.heap.objs.size) (o := .own (s.heap.objs.size + 1)) (h' := s.heap.push PySem.W.emptyDict) (t' := s.toks) (fun b u q => Heap.get?_push_of_some _ q) (Nat.le_refl _) ⟨_, e1⟩
  refine I1.laid (a := s.heap.objs.size + 1) (o := .ins C s.heap.objs.size []) (t' := s.toks) (fun b u q => Heap.get?_push_of_some _ q) (Nat.le_of_eq (Heap.size_push _ _)) ?_
  have ne : s.heap.objs.size ≠ s.heap.objs.size + 1 := Nat.ne_of_lt (Nat.lt_succ_self _)
  refine ⟨by rw [upd_ne ne, upd_same], Nat.zero_le _, ne, e2, fun _ => none, (Heap.Ns1.of_empty e3).at fun o q => Heap.get?_push_of_some _ q, fun _ => True.intro, fun y hy => absurd rfl hy⟩

end

section
variable {X : Cx} {o e value : Expr} {f : Str} {pos pos' tpos : Pos} {ta tv : TE}
end

section
variable {X : Cx} {pins : List (Addr × Obj)} {σ : St} {H : Hp} {s : Shared} {A : Around} {E : Value → Shared → Prop} {Q : Value → Shared → Prop} {c : Value} {b : Bool}
inductive TyOf (K : PySem.W.Frag) (H : Hp) : V → Value → Prop where
  | non : TyOf K H .non (.type "NoneType")
  | bl (x : Bool) : TyOf K H (.bl x) (.type "bool")
  | int (i : Int) : TyOf K H (.int i) (.type "int")
  | str (x : Str) : TyOf K H (.str x) (.type "str")
  | flt (x : UInt64) : TyOf K H (.flt x) (.type "float")
  | lst {a : Addr} {xs : List V} (e : H a = some (.lst xs)) : TyOf K H (.ref a) (.type "list")
  | frz {a : Addr} {o : Obj} {xs : List V} (e : H a = some (.frz o (.lst xs))) : TyOf K H (.ref a) (.type "list")
  | tup {a : Addr} {xs : List V} (e : H a = some (.tup xs)) : TyOf K H (.ref a) (.type "tuple")
  | dK {a : Addr} {kvs : List (Key × V)} (e : H a = some (.dK kvs)) : TyOf K H (.ref a) (.type "dict")
  | dT {a : Addr} {kvs : List (List Key × V)} (e : H a = some (.dT kvs)) : TyOf K H (.ref a) (.type "dict")
  | ins {a C dx : Addr} {fs : List (Str × V)} (e : H a = some (.ins C dx fs)) (cl : Cls K C) (ha : PySem.W.findIn K (.ref C) "__class__" = some (some (.builtin "object.__class__")))
      (hn : PySem.W.specialIn K (.builtin "object.__class__") "__get__" = some (some (.builtin "getset_descriptor.__get__"))) (htk : PySem.W.takesIn K (.builtin "object.__class__") = some true)
      (hm : PySem.W.mroIn K C (.type "object") = some true) : TyOf K H (.ref a) (.ref C)
end
end L2

namespace L2
open PySem PySem.Spec PyProof.Rows

structure Room (k : Nat) (A : Around) : Prop where
  hd : A.handled = none
  dp : A.depth + 3 * k + 5 < recursionLimit
  un : A.units + 16 * k + 200 < cLine
theorem Room.mono {j k : Nat} {A : Around} (r : Room k A) (h : j ≤ k) : Room j A := ⟨r.hd, by have := r.dp; omega, by have := r.un; omega⟩
theorem Room.deeper {k : Nat} {A : Around} (r : Room (k + 1) A) (env : Env) : Room k (A.deeper env) :=
  ⟨r.hd, by have := r.dp; show A.depth + 1 + 3 * k + 5 < _; omega, by have := r.un; show A.units + 3 + 16 * k + 200 < _; omega⟩
theorem Room.in1 {k : Nat} {A : Around} (r : Room (k + 1) A) : Room k A.in1 :=
  ⟨r.hd, by have := r.dp; show A.depth + 3 * k + 5 < _; omega, by have := r.un; show A.units + 1 + 16 * k + 200 < _; omega⟩
theorem Room.depth {k : Nat} {A : Around} (r : Room k A) : A.depth < recursionLimit := by have := r.dp; omega
theorem Room.units {k : Nat} {A : Around} (r : Room k A) : A.units + 64 < cLine := by have := r.un; omega
noncomputable def tNil : TA := fun _ H Q => Q [] H
noncomputable def tCons (ta : TE) (tr : TA) : TA := fun σ H Q => ta σ H fun x H1 => tr σ H1 fun xs H2 => Q (x :: xs) H2
section
variable {X : Cx} {e : Expr} {es : List Expr} {te : TE} {t : TA} {pos : Pos}
theorem pa_nil : PA X [] tNil := fun _ _ _ _ H Q I h => Calls.spliced_nil ⟨[], H, I, .nil, h⟩
theorem pa_cons (ha : PE X e te) (hr : PA X es t) (hs : starEach (e :: es) X.env = (false, eval e X.env) :: starEach es X.env := by rfl) : PA X (e :: es) (tCons te t) := by
  intro pos pins s σ H Q I h
  rw [hs]
  show wpAny _ _ (spliced ((false, eval e X.env) :: backTo pos (starEach es X.env))) _ _ s
  refine Calls.spliced_cons (thn (ha pins s σ H _ I h) fun u s1 ⟨x, H1, I1, r1, q1⟩ => ?_)
  exact thn (hr pos pins s1 σ H1 _ I1 q1) fun us s2 ⟨xs, H2, I2, r2, q2⟩ => ⟨x :: xs, H2, I2, .cons r1 r2, q2⟩

noncomputable def tTup (t : TA) : TE := fun σ H Q => t σ H fun xs H1 => xs.length ≤ sizeLine ∧ ∀ p, H1 p = none → Q (.ref p) (upd H1 p (.tup xs))
noncomputable def tLst (t : TA) : TE := fun σ H Q => t σ H fun xs H1 => xs.length ≤ sizeLine ∧ ∀ p, H1 p = none → Q (.ref p) (upd H1 p (.lst xs))
theorem pe_tup {x1} (h : PA X es t) : PE X (.Tuple es x1 pos) (tTup t) := by
  intro pins s σ H Q I hq
  refine wpAny_Tuple_spliced (thn (h pos pins s σ H _ I hq) fun us s1 ⟨xs, H1, I1, r, z, q⟩ => ⟨by rw [← r.length]; exact z, ?_⟩)
  have hf : H1 s1.heap.objs.size = none := I1.hok.fresh (Nat.le_refl _)
  refine ⟨.ref s1.heap.objs.size, upd H1 s1.heap.objs.size (.tup xs), I1.laid (t' := s1.toks) (fun b u e => Heap.get?_push_of_some _ e) (Nat.le_refl _) ?_, rfl, q _ hf⟩
  exact ⟨z, us, r, ⟨_, Heap.get?_push_size _ rfl, rfl, _, rfl⟩⟩
theorem pe_lst (h : PA X es t) : PE X (.List es pos) (tLst t) := by
  intro pins s σ H Q I hq
  refine wpAny_List_spliced (thn (h pos pins s σ H _ I hq) fun us s1 ⟨xs, H1, I1, r, z, q⟩ => ⟨by rw [← r.length]; exact z, ?_⟩)
  have hf : H1 s1.heap.objs.size = none := I1.hok.fresh (Nat.le_refl _)
  refine ⟨.ref s1.heap.objs.size, upd H1 s1.heap.objs.size (.lst xs), I1.laid (t' := s1.toks) (fun b u e => Heap.get?_push_of_some _ e) (Nat.le_refl _) ?_, rfl, q _ hf⟩
  exact ⟨z, us, 0, r, Heap.get?_push_size _ rfl⟩
end

noncomputable abbrev Sp := List V → Hp → VK → XK → Prop
noncomputable abbrev CXT := List Env → Hp → Shared → XK → Value → Shared → Prop

structure Env0 (P : Program) (w : World) (K : PySem.W.Frag) (mg : Str → Option Value) (base : Heap) (A : Around) (outer : List Env) (s : Shared) (H : Hp) : Prop where
  frames : A.frames = some outer
  mod : Mod K mg base
  bs : ∀ b o, base.get? b = some o → s.heap.get? b = some o ∧ H b = none
  bsz : base.objs.size ≤ s.heap.objs.size
  funs : s.heap.FunFrames base outer
  frf : ∀ b ∈ frs outer, H b = none
  hok : HOk P w H s.heap
  bare : AllBare s.gens
noncomputable def CE (outer : List Env) (P : Program) (w : World) (H : Hp) (s : Shared) (Q : VK) (u : Value) (s' : Shared) : Prop :=
  ∃ v H', s'.os = s.os ∧ AllBare s'.gens ∧ Un (frs outer) [] H H' s.heap s'.heap ∧ HOk P w H' s'.heap ∧ RelV v u ∧ Q v H'
noncomputable def CR (CX : CXT) (outer : List Env) (P : Program) (w : World) (H : Hp) (s : Shared) (Q : VK) (E : XK) (r : Result) (s' : Shared) : Prop :=
  match r with
  | .ok (.ret u) => CE outer P w H s Q u s'
  | .ok _ => False
  | .error e => CX outer H s E e s'
structure FnOk (P : Program) (w : World) (K : PySem.W.Frag) (mg : Str → Option Value) (base : Heap) (CX : CXT) (k : Nat) (f : Addr) (fd : FuncData) (ps : List Str) (sp : Sp) : Prop where
  len : ∀ vs H Q E, sp vs H Q E → vs.length = ps.length
  run : ∀ (A : Around) (outer : List Env) (s : Shared) (H : Hp) (args : Args) (us : List Value) (vs : List V) (Q : VK) (E : XK), Room k A → Env0 P w K mg base A outer s H → BindsTo s fd args (ps.zip us) → Vals vs us → sp vs H Q E →
    codeAny (model P w) A (.call (.ref f) args) (CR CX outer P w H s Q E) s
theorem FnOk.mono {P : Program} {w : World} {K : PySem.W.Frag} {mg : Str → Option Value} {base : Heap} {CX : CXT} {j k : Nat} {f : Addr} {fd : FuncData} {ps : List Str} {sp : Sp} (F : FnOk P w K mg base CX j f fd ps sp) (h : j ≤ k) :
    FnOk P w K mg base CX k f fd ps sp := ⟨F.len, fun A outer s H args us vs Q E hr => F.run A outer s H args us vs Q E (hr.mono h)⟩
theorem FnOk.imp {P : Program} {w : World} {K : PySem.W.Frag} {mg : Str → Option Value} {base : Heap} {CX : CXT} {k : Nat} {f : Addr} {fd : FuncData} {ps : List Str} {sp sp' : Sp} (F : FnOk P w K mg base CX k f fd ps sp)
    (h : ∀ vs H Q E, sp' vs H Q E → sp vs H Q E) : FnOk P w K mg base CX k f fd ps sp' :=
  ⟨fun vs H Q E q => F.len vs H Q E (h _ _ _ _ q), fun A outer s H args us vs Q E hr he hb hv hs => F.run A outer s H args us vs Q E hr he hb hv (h _ _ _ _ hs)⟩

theorem Env0.in1 {P : Program} {w : World} {K : PySem.W.Frag} {mg : Str → Option Value} {base : Heap} {A : Around} {outer : List Env} {s : Shared} {H : Hp} (e : Env0 P w K mg base A outer s H) :
    Env0 P w K mg base A.in1 outer s H := ⟨e.frames, e.mod, e.bs, e.bsz, e.funs, e.frf, e.hok, e.bare⟩

section
variable {X : Cx} {pins : List (Addr × Obj)} {σ : St} {H : Hp} {s s' : Shared}
theorem Inv.env0 (I : Inv X pins σ H s) : Env0 X.prog X.w X.K X.mg X.base X.A X.stack s H :=
  ⟨I.ok.frames, I.ok.mod, I.bs, Nat.le_trans I.ok.bsz I.sz, I.stack, I.stkFree, I.hok, I.bare⟩
theorem Inv.after {Q : VK} {u : Value} (I : Inv X pins σ H s) (h : CE X.stack X.prog X.w H s Q u s') : EP X pins σ Q u s' := by
  obtain ⟨v, H', os, bare, un, hok, r, q⟩ := h
  obtain ⟨hh, g, d, t, os'⟩ := s'
  obtain rfl : os' = s.os := os
  exact ⟨v, H', I.call (h' := hh) (g' := g) (d' := d) (t' := t) (ch := []) un hok bare (fun b z => absurd z (by simp)), r, q⟩
end

noncomputable def tCall (sp : Sp) (dvs : List V) (E : XK) (t : TA) : TE := fun σ H Q => t σ H fun vs H1 => sp (vs ++ dvs) H1 Q E
noncomputable def Binds (K : PySem.W.Frag) (fd : FuncData) (ps : List Str) (ds : List Value) : Prop :=
  ∀ (s : Shared) (us : List Value), K.In s.heap → (us ++ ds).length = ps.length → BindsTo s fd ⟨us, []⟩ (ps.zip (us ++ ds))
theorem Binds.all {K : PySem.W.Frag} {fd : FuncData} {ps : List Str} (h : ∀ us : List Value, us.length = ps.length → bindArgs fd ⟨us, []⟩ = pure (ps.zip us)) : Binds K fd ps [] := fun s us _ hl => by
  rw [List.append_nil] at hl ⊢
  exact .of_eq (h us hl)

noncomputable def Passes (CX : CXT) (X : Cx) (E : XK) : Prop := ∀ (pins : List (Addr × Obj)) (σ : St) (H : Hp) (s : Shared) (e : Value) (s' : Shared), Inv X pins σ H s → CX X.stack H s E e s' → X.xe e s'

section
variable {X : Cx} {CX : CXT} {k : Nat} {f C : Addr} {fd : FuncData} {ps : List Str} {sp : Sp} {dvs : List V} {ds : List Value} {E : XK} {x m : Str} {p pos apos : Pos} {e o : Expr} {es : List Expr} {ta : TE} {t : TA}

theorem run_fn {pins : List (Addr × Obj)} {σ : St} {H : Hp} {s : Shared} {Q : VK} {us : List Value} {vs : List V} (F : FnOk X.prog X.w X.K X.mg X.base CX k f fd ps sp) (hr : Room k X.A) (hb : Binds X.K fd ps ds) (hd : Vals dvs ds) (hx : Passes CX X E)
    (I : Inv X pins σ H s) (r : Vals vs us) (h : sp (vs ++ dvs) H Q E) : wpAny (model X.prog X.w) X.A (call (.ref f) us) (EP X pins σ Q) X.xe s := by
  have r2 : Vals (vs ++ dvs) (us ++ ds) := r.append hd
  have hl : (us ++ ds).length = ps.length := by rw [← r2.length]; exact F.len _ _ _ _ h
  refine wpAny_call (codeAny_mono (F.run X.A X.stack s H ⟨us, []⟩ (us ++ ds) (vs ++ dvs) Q E hr I.env0 (hb s us I.kIn hl) r2 h) fun r s' hq => ?_)
  cases r with
  | error e => exact hx pins σ H s e s' I hq
  | ok fl =>
    cases fl with
    | ret u => exact I.after hq
    | next => exact False.elim hq
    | brk => exact False.elim hq
    | cont => exact False.elim hq

theorem pe_call (F : FnOk X.prog X.w X.K X.mg X.base CX k f fd ps sp) (hr : Room k X.A) (hg : Gl X x) (hm : X.mg x = some (.ref f)) (hk : PySem.W.keepIn X.K (.ref f) = true) (hb : Binds X.K fd ps ds) (hd : Vals dvs ds) (hx : Passes CX X E)
    (ha : PA X (e :: es) t) (hdb : (x == ("__debug__" : Str)) = false := by decide) (he : starEach (e :: es) X.env = (false, eval e X.env) :: starEach es X.env := by rfl) (hpl : (backTo pos (starEach es X.env)).any (·.1) = false := by rfl) :
    PE X (.Call (.Name x p) (e :: es) [] pos) (tCall sp dvs E t) := by
  intro pins s σ H Q I h
  refine wpAny_Call_Name_kw (ld_glob I hg hm ?_ hdb)
  refine PySem.W.callWith_K (h₀ := X.base) I.ok.mod.kin hk (thn (ha pos pins s σ H _ I h) fun us s1 ⟨vs, H1, I1, r, q⟩ => ⟨I1.kIn, ?_⟩) he hpl
  exact run_fn F hr hb hd hx I1 r q
structure Mk (K : PySem.W.Frag) (C f : Addr) : Prop where
  makes : PySem.W.makesIn K C = true
  init : PySem.W.findIn K (.ref C) "__init__" = some (some (.ref f))
  fn : PySem.W.isFn K (.ref f) = true
  kp : PySem.W.keepIn K (.ref C) = true

end

section
variable {X : Cx} {CX : CXT} {k : Nat} {f C : Addr} {fd : FuncData} {ps ks : List Str} {sp : Sp} {E : XK} {x m : Str} {p pos apos kpos : Pos} {e o : Expr} {es : List Expr} {kws : List Keyword} {te ta : TE} {t tk : TA} {nm : Option Str}
structure KBinds (K : PySem.W.Frag) (fd : FuncData) (ps ks : List Str) (g : List Value → List Value → List Value) (gV : List V → List V → List V) : Prop where
  to : ∀ (s : Shared) (us ws : List Value), K.In s.heap → (g us ws).length = ps.length → BindsTo s fd ⟨us, ks.zip ws⟩ (ps.zip (g us ws))
  rel : ∀ {vs : List V} {us : List Value} {zs : List V} {ws : List Value}, Vals vs us → Vals zs ws → Vals (gV vs zs) (g us ws)
variable {g : List Value → List Value → List Value} {gV : List V → List V → List V}
end

structure FnScope (N P : List Str) (sc : Scope) : Prop where
  kind : sc.kind = .function
  co : sc.isCoroutine = false
  gen : sc.isGenerator = false
  nd : N.Nodup
  pre : N.take P.length = P
  par : ∀ x ∈ P, sc.names.lookup x = some .local ∨ sc.names.lookup x = some .cell
  nofree : ∀ y ∈ sc.names, y.2 ≠ .free

theorem bindL_out {kindOf : Str → Option NameKind} {x : Str} : ∀ {binds : List (Str × Value)} {m : Str → Option Value}, (∀ v, (x, v) ∉ binds) → bindL kindOf binds m x = m x
  | [], _, _ => rfl
  | (n, v) :: r, m, h => by
    unfold bindL
    rw [bindL_out fun w hw => h w (List.mem_cons_of_mem _ hw)]
    split
    · have : x ≠ n := by rintro rfl; exact h v List.mem_cons_self
      simp [this]
    · rfl
theorem bindC_out {kindOf : Str → Option NameKind} {x : Str} : ∀ {binds : List (Str × Value)} {m : Str → Option Value}, (∀ v, (x, v) ∉ binds) → bindC kindOf binds m x = m x
  | [], _, _ => rfl
  | (n, v) :: r, m, h => by
    unfold bindC
    rw [bindC_out fun w hw => h w (List.mem_cons_of_mem _ hw)]
    split
    · rfl
    · have : x ≠ n := by rintro rfl; exact h v List.mem_cons_self
      simp [this]
theorem bindL_get {kindOf : Str → Option NameKind} {x : Str} {v : Value} : ∀ {P : List Str} {vs : List Value} {i : Nat} {m : Str → Option Value}, P.Nodup → P[i]? = some x → vs[i]? = some v → kindOf x = some .local →
    bindL kindOf (P.zip vs) m x = some v
  | [], _, _, _, _, h, _, _ => by simp at h
  | _ :: _, [], _, _, _, _, h, _ => by simp at h
  | p :: P, w :: vs, 0, m, nd, h1, h2, hk => by
    simp at h1 h2; subst h1; subst h2
    show bindL kindOf ((p, w) :: P.zip vs) m p = _
    unfold bindL
    rw [bindL_out fun v hv => (List.nodup_cons.mp nd).1 (List.of_mem_zip hv).1, if_pos hk]
    simp
  | p :: P, w :: vs, i + 1, m, nd, h1, h2, hk => by
    show bindL kindOf ((p, w) :: P.zip vs) m x = _
    unfold bindL
    exact bindL_get (i := i) (List.nodup_cons.mp nd).2 (by simpa using h1) (by simpa using h2) hk
theorem bindC_get {kindOf : Str → Option NameKind} {x : Str} {v : Value} : ∀ {P : List Str} {vs : List Value} {i : Nat} {m : Str → Option Value}, P.Nodup → P[i]? = some x → vs[i]? = some v → kindOf x ≠ some .local →
    bindC kindOf (P.zip vs) m x = some v
  | [], _, _, _, _, h, _, _ => by simp at h
  | _ :: _, [], _, _, _, _, h, _ => by simp at h
  | p :: P, w :: vs, 0, m, nd, h1, h2, hk => by
    simp at h1 h2; subst h1; subst h2
    show bindC kindOf ((p, w) :: P.zip vs) m p = _
    unfold bindC
    rw [bindC_out fun v hv => (List.nodup_cons.mp nd).1 (List.of_mem_zip hv).1, if_neg hk]
    simp
  | p :: P, w :: vs, i + 1, m, nd, h1, h2, hk => by
    show bindC kindOf ((p, w) :: P.zip vs) m x = _
    unfold bindC
    exact bindC_get (i := i) (List.nodup_cons.mp nd).2 (by simpa using h1) (by simpa using h2) hk

noncomputable def start (N : List Str) (vs : List V) : St := vs.map some ++ List.replicate (N.length - vs.length) none

noncomputable def cxOf (CX : CXT) (P : Program) (w : World) (K : PySem.W.Frag) (mg : Str → Option Value) (base : Heap) (N : List Str) (qual : Str) (scope : Scope) (f : Addr) (cd : Value) (A : Around) (outer : List Env) (s : Shared) (H : Hp) (E : XK) : Cx where
  prog := P
  w := w
  K := K
  mg := mg
  base := base
  A := A.deeper (envOfC qual scope s.heap.objs.size f cd)
  N := N
  s₀ := s
  H₀ := H
  env := envOfC qual scope s.heap.objs.size f cd
  outer := outer
  stack := envOfC qual scope s.heap.objs.size f cd :: outer
  ex := []
  calm := true
  fn := fun _ => true
  pn := []
  xe := fun e s' => wpAny (model P w) (A.deeper (envOfC qual scope s.heap.objs.size f cd)) (leaving (envOfC qual scope s.heap.objs.size f cd) e) (fun _ s'' => CX outer H s E e s'') (fun e' s'' => CX outer H s E e' s'') s'

theorem cell_has {sc : Scope} {n : Nat} {x : Str} (h : sc.names.lookup x = some .cell) : ∃ c, (cellsFrom n sc.names []).lookup x = some c := by
  have q := PySem.W.cellsFrom_some sc.names n [] (.inl h)
  exact Option.isSome_iff_exists.mp q

theorem inv_start {CX : CXT} {P : Program} {w : World} {K : PySem.W.Frag} {mg : Str → Option Value} {base : Heap} {N ps : List Str} {qual : Str} {scope : Scope} {f : Addr} {cd : Value} {A : Around} {outer : List Env} {s s1 : Shared} {H : Hp} {E : XK} {us : List Value} {vs : List V}
    (S : FnScope N ps scope) (hd : A.handled = none) (e0 : Env0 P w K mg base A outer s H) (hl : vs.length = ps.length) (r : Vals vs us)
    (x : InCallC s s.heap.objs.size (bindL (envOfC qual scope s.heap.objs.size f cd).kindOf (ps.zip us) fun _ => none) (cellsFrom (s.heap.objs.size + 1) scope.names []) (bindC (envOfC qual scope s.heap.objs.size f cd).kindOf (ps.zip us) fun _ => none) s1) :
    Inv (cxOf CX P w K mg base N qual scope f cd A outer s H E) [] (start N vs) H s1 := by
  have hpl : ps.length ≤ N.length := by have := congrArg List.length S.pre; rw [List.length_take] at this; omega
  obtain ⟨h1, tk, rfl, hk⟩ := x.done
  have noA : ∀ b : Addr, b ∉ (cxOf CX P w K mg base N qual scope f cd A outer s H E).ex := fun b z => absurd (show b ∈ ([] : List Addr) from z) (by simp)
  refine ⟨⟨e0.mod, S.kind, rfl, rfl, Nat.le_refl _, fun y z c h1 h2 => ?_, fun y hy => ?_, fun y c _ h => ?_, fun _ => hd, Around.frames_deeper e0.frames, .inr ⟨rfl, rfl⟩, fun b z => absurd z (noA b), e0.bs, e0.bsz, fun b _ _ => noA b, fun b z => absurd z (noA b), e0.funs, e0.frf⟩,
    rfl, e0.bare, Un.kept hk, ⟨_, x.toInCall.ns, fun i y v h1 h2 h3 => ?_⟩, fun y c h => ⟨_, x.cell y c h⟩, e0.hok.fresh (Nat.le_refl _), fun y c h => ?_, fun p hp => absurd (show p ∈ ([] : List (Addr × Obj)) from hp) (by simp), e0.hok.kept hk, ?_⟩
  · exact name_of_addr x.apart (PySem.mem_of_lookup h1) (PySem.mem_of_lookup h2)
  · have hy : scope.names.lookup y = some .cell ∨ scope.names.lookup y = some .free := hy
    rcases hy with hy | hy
    · exact cell_has hy
    · exact absurd rfl (S.nofree _ (PySem.mem_of_lookup hy))
  · exact Nat.le_of_lt (x.above y c (PySem.mem_of_lookup h))
  · have hi : i < vs.length := by
      unfold start at h2
      by_cases hi : i < vs.length
      · exact hi
      · rw [List.getElem?_append_right (by simpa using hi)] at h2
        rw [List.getElem?_replicate] at h2
        split at h2 <;> cases h2
    have ha : vs[i]? = some v := by
      unfold start at h2
      rw [List.getElem?_append_left (by simpa using hi), List.getElem?_map] at h2
      cases e : vs[i]? with
      | none => rw [e] at h2; cases h2
      | some a => rw [e] at h2; cases h2; rfl
    obtain ⟨u, hu, rv⟩ := r.get ha
    have hp : ps[i]? = some y := by
      rw [← S.pre, List.getElem?_take_of_lt (by omega)]; exact h1
    have ndP : ps.Nodup := by rw [← S.pre]; exact S.nd.sublist (List.take_sublist _ _)
    refine ⟨u, rv, ?_⟩
    rcases S.par y (List.mem_of_getElem? hp) with k | k
    · exact .inl ⟨k, bindL_get ndP hp hu k⟩
    · obtain ⟨c, e⟩ := cell_has (n := s.heap.objs.size + 1) k
      refine .inr ⟨.inl k, c, e, ?_⟩
      have q := x.cell y c e
      rw [bindC_get ndP hp hu (by show scope.names.lookup y ≠ _; rw [k]; decide)] at q
      exact q
  · exact e0.hok.fresh (Nat.le_of_lt (x.above y c (PySem.mem_of_lookup h)))
  · unfold start
    show _ = N.length
    rw [List.length_append, List.length_map, List.length_replicate]
    omega

theorem fn_of {CX : CXT} {P : Program} {w : World} {K : PySem.W.Frag} {mg : Str → Option Value} {base : Heap} {k : Nat} {f : Addr} {name qual : Str} {params : Arguments} {body : List Stmt} {scope : Scope} {dV kV doc pm cdv ct oc : Value} {an od : Option Addr}
    {osl : Array (Option Value)} {N ps : List Str} {sp : Sp} (lk : K.lookup f = some ⟨oc, od, .func (PySem.W.fnOf name qual params body scope dV kV doc pm an cdv ct), osl⟩) (hcd : PySem.W.codeIn K cdv qual = true) (S : FnScope N ps scope)
    (len : ∀ vs H Q E, sp vs H Q E → vs.length = ps.length)
    (hbody : ∀ (A : Around) (outer : List Env) (s : Shared) (H : Hp) (vs : List V) (Q : VK) (E : XK), Room k (A.deeper (envOfC qual scope s.heap.objs.size f cdv)) → sp vs H Q E →
      ∃ t, PSs (cxOf CX P w K mg base N qual scope f cdv A outer s H E) body t ∧ t { nx := fun _ H' => Q .non H', rt := Q } (start N vs) H) :
    FnOk P w K mg base CX (k + 1) f (PySem.W.fnOf name qual params body scope dV kV doc pm an cdv ct) ps sp := by
  refine ⟨len, fun A outer s H args us vs Q E hr e0 hb r hsp => ?_⟩
  have hl := len _ _ _ _ hsp
  have KX : K.In s.heap := e0.mod.kin.keeps fun b o e => (e0.bs b o e).1
  have lim : s.heap.NoLimit := e0.mod.nolimit.keeps fun b o e => (e0.bs b o e).1
  have hkind : ∀ y ∈ ps.zip us, scope.names.lookup y.1 = some .local ∨ (scope.names.lookup y.1 = some .cell ∧ ((cellsFrom (s.heap.objs.size + 1) scope.names []).lookup y.1).isSome = true) := fun ⟨n, v⟩ hy => by
    rcases S.par n (List.of_mem_zip hy).1 with q | q
    · exact .inl q
    · exact .inr ⟨q, PySem.W.cellsFrom_some _ _ _ (.inl q)⟩
  refine codeAny_call_function hr.depth (KX _ _ lk) rfl S.co S.gen rfl (PySem.W.codeRec_of KX hcd) (hb _ _ _ _ ?_)
  refine wpAny_newFunctionEnv_cells S.kind hkind fun env he s1 x => ?_
  subst he
  refine ⟨lim.keeps x.toInCall.keep, codeAny_func ?_⟩
  obtain ⟨t, ht, hq⟩ := hbody A outer s H vs Q E (hr.deeper _) hsp
  have I : Inv (cxOf CX P w K mg base N qual scope f cdv A outer s H E) [] (start N vs) H s1 := inv_start S hr.hd e0 hl r x
  refine wpAny_mono (ht [] s1 (start N vs) H _ I hq) (fun fl s' hs => ?_) fun e s' hs => hs
  have fin : ∀ {σ' : St} {H' : Hp} {v : V} {u : Value}, Inv (cxOf CX P w K mg base N qual scope f cdv A outer s H E) [] σ' H' s' → RelV v u → Q v H' → CE outer P w H s Q u s' :=
    fun {σ' H' v u} J rv q => ⟨v, H', J.os, J.bare, J.base, J.hok, rv, q⟩
  cases fl with
  | ret u =>
    obtain ⟨v, σ', H', J, rv, q⟩ := hs
    exact fin J rv q
  | next =>
    obtain ⟨σ', H', J, q⟩ := hs
    exact fin (v := V.non) (u := Value.none) J rfl q
  | brk =>
    obtain ⟨_, _, _, q⟩ := hs
    exact False.elim q
  | cont =>
    obtain ⟨_, _, _, q⟩ := hs
    exact False.elim q
end L2

namespace L2
open PySem PySem.Spec PyProof.Rows
section
variable {X : Cx} {x : Str} {p pos : Pos} {e : Expr} {es : List Expr} {t : TA} {id T : String} {r : List V → Hp → VK → Prop}

noncomputable def tCB (r : List V → Hp → VK → Prop) (t : TA) : TE := fun σ H Q => t σ H fun vs H1 => r vs H1 Q
theorem pe_callB (hc : CallR X (.builtin id) r) (hg : Gl X x) (hm : X.mg x = none) (hv : bootBuiltins x = some (.builtin id)) (ha : PA X (e :: es) t) (hn : x ≠ "__name__" := by decide) (hdb : (x == ("__debug__" : Str)) = false := by decide)
    (he : starEach (e :: es) X.env = (false, eval e X.env) :: starEach es X.env := by rfl) (hpl : (backTo pos (starEach es X.env)).any (·.1) = false := by rfl) : PE X (.Call (.Name x p) (e :: es) [] pos) (tCB r t) := by
  intro pins s σ H Q I h
  refine wpAny_Call_Name_kw (ld_blt I hg hm hv ?_ hn hdb)
  exact PyProof.Rows.callWith_builtin1 (thn (ha pos pins s σ H _ I h) fun us s1 ⟨vs, H1, I1, r1, q1⟩ => hc pins s1 σ H1 vs us Q I1 r1 q1) he hpl
theorem pe_callTy (hc : CallR X (.type T) r) (hg : Gl X x) (hm : X.mg x = none) (hv : bootBuiltins x = some (.type T)) (ha : PA X (e :: es) t) (hn : x ≠ "__name__" := by decide) (hdb : (x == ("__debug__" : Str)) = false := by decide)
    (he : starEach (e :: es) X.env = (false, eval e X.env) :: starEach es X.env := by rfl) (hpl : (backTo pos (starEach es X.env)).any (·.1) = false := by rfl) : PE X (.Call (.Name x p) (e :: es) [] pos) (tCB r t) := by
  intro pins s σ H Q I h
  refine wpAny_Call_Name_kw (ld_blt I hg hm hv ?_ hn hdb)
  exact PyProof.Rows.callWith_type1 (thn (ha pos pins s σ H _ I h) fun us s1 ⟨vs, H1, I1, r1, q1⟩ => hc pins s1 σ H1 vs us Q I1 r1 q1) he hpl
end
end L2

namespace HT
open PySem PyProof.Rows

section
open PySem.SeqAt
open PySem.AutoSeq1 (wpAny_loadPart')
open PySem.MeetsSeq PySem.MeetsSeq2 PySem.MeetsSeq3

end

section
variable {prog : Program} {w : World} {A : Around} {E : Value → Shared → Prop} {s : Shared}

noncomputable def sIx (n d : Nat) : Option Int → Nat
  | none => d
  | some v => if v < 0 then (v + (n : Int)).toNat else min v.toNat n
theorem sIx_none (n d : Nat) : sIx n d none = d := rfl
theorem sIx_nat (n d k : Nat) : sIx n d (some (k : Int)) = min k n := by
  show (if (k : Int) < 0 then ((k : Int) + (n : Int)).toNat else min (k : Int).toNat n) = min k n
  rw [if_neg (by omega), Int.toNat_natCast]
theorem sIx_le (n d : Nat) (hd : d ≤ n) (o : Option Int) : sIx n d o ≤ n := by
  cases o with
  | none => exact hd
  | some v =>
    show (if v < 0 then (v + (n : Int)).toNat else min v.toNat n) ≤ n
    by_cases hv : v < 0
    · rw [if_pos hv]; omega
    · rw [if_neg hv]; exact Nat.min_le_right _ _
theorem clip_eq (v : Int) (n d : Nat) : (if v < 0 then max (v + (n : Int)) 0 else min v (n : Int)) = ((sIx n d (some v) : Nat) : Int) := by
  show (if v < 0 then max (v + (n : Int)) 0 else min v (n : Int)) = (((if v < 0 then (v + (n : Int)).toNat else min v.toNat n) : Nat) : Int)
  by_cases hv : v < 0
  · simp only [if_pos hv]; omega
  · simp only [if_neg hv]; omega
theorem adjust_gen (lo hi : Option Int) (n : Nat) : Builtin.Slice.sliceAdjust lo hi 1 (n : Int) = (((sIx n 0 lo : Nat) : Int), ((sIx n n hi : Nat) : Int)) := by
  have h1 : ¬ ((1 : Int) < 0) := by omega
  unfold Builtin.Slice.sliceAdjust
  simp only [h1, if_false]
  refine Prod.ext ?_ ?_
  · cases lo with
    | none => rfl
    | some v => exact clip_eq v n 0
  · cases hi with
    | none => rfl
    | some v => exact clip_eq v n n
theorem places_gen (i j : Nat) : Builtin.Slice.slicePlaces (i : Int) (j : Int) 1 = j - i := by
  unfold Builtin.Slice.slicePlaces
  have h1 : (1 : Int) > 0 := by omega
  simp only [h1, if_true, Int.ediv_one]
  split <;> omega
theorem slicePart_ {v : Value} {o : Option Int} {Q : Option Int → Shared → Prop} (p : IsPart v o) (h : Q o s) : wpAny (model prog w) A (Builtin.Slice.slicePartIndex v) Q E s := by
  cases p with
  | none => exact slicePart_none h
  | int i t => exact slicePart_int h
theorem sliceApplied_gen {sl : Addr} {vl vu : Value} {lo hi : Option Int} {n : Nat} {Q : Int × Int × Nat → Shared → Prop} (hs : s.heap.IsSliceOf sl vl vu .none) (pl : IsPart vl lo) (pu : IsPart vu hi)
    (h : Q (((sIx n 0 lo : Nat) : Int), 1, sIx n n hi - sIx n 0 lo) s) : wpAny (model prog w) A (Builtin.Slice.sliceApplied (.ref sl) (pure (n : Int))) Q E s := by
  obtain ⟨os, hos, hcs, hds⟩ := id hs
  unfold Builtin.Slice.sliceApplied Builtin.Slice.sliceFields
  refine wpAny_bind (wpAny_bind (wpAny_field hos hds (x := vl) rfl (wpAny_bind (wpAny_field hos hds (x := vu) rfl (wpAny_bind (wpAny_field hos hds (x := .none) rfl (wpAny_pure ?_)))))))
  refine wpAny_bind (slicePart_none ?_)
  show wpAny _ _ (if ((1 : Int) == 0) = true then _ else _) _ _ s
  rw [if_neg (by decide)]
  refine wpAny_bind (slicePart_ pl (wpAny_bind (slicePart_ pu (wpAny_bind (wpAny_pure ?_)))))
  show wpAny _ _ (match Builtin.Slice.sliceAdjust lo hi 1 (n : Int) with | (lo, hi) => pure (lo, (1 : Int), Builtin.Slice.slicePlaces lo hi 1)) _ _ s
  rw [adjust_gen lo hi n]
  show wpAny _ _ (pure (((sIx n 0 lo : Nat) : Int), (1 : Int), Builtin.Slice.slicePlaces ((sIx n 0 lo : Nat) : Int) ((sIx n n hi : Nat) : Int) 1)) _ _ s
  rw [places_gen]
  exact wpAny_pure h
theorem pick_gen (xs : Array Value) (i k : Nat) : ((List.range k).filterMap fun (m : Nat) => xs[((i : Int) + (m : Int) * 1).toNat]?).toArray = ((xs.toList.drop i).take k).toArray := by
  have e : (fun (m : Nat) => xs[((i : Int) + (m : Int) * 1).toNat]?) = fun m => xs[i + m]? := by
    funext m
    have : ((i : Int) + (m : Int) * 1).toNat = i + m := by omega
    rw [this]
  rw [e]
  have := pick_run xs i k
  rw [List.filterMap_map] at this
  have e2 : ((fun x => xs[x]?) ∘ fun x => i + x) = fun m => xs[i + m]? := rfl
  rw [e2] at this
  rw [this]

theorem getItem_tuple_cut {t sl : Addr} {items : Array Value} {vl vu : Value} {lo hi : Option Int} {Q : Value → Shared → Prop} (ht : IsTup s.heap t items) (hs : s.heap.IsSliceOf sl vl vu .none) (pl : IsPart vl lo) (pu : IsPart vu hi)
    (hw : ¬ (sIx items.size 0 lo = 0 ∧ sIx items.size items.size hi = items.size))
    (h : Q (.ref s.heap.objs.size) { s with heap := s.heap.push { cls := .type "tuple", data := .seq ((items.toList.drop (sIx items.size 0 lo)).take (sIx items.size items.size hi - sIx items.size 0 lo)).toArray } })
    (hsz : items.size ≤ sizeLine) : wpAny (model prog w) A (getItem (.ref t) (.ref sl)) Q E s := by
  have htake : sizeOk (.seq ((items.toList.drop (sIx items.size 0 lo)).take (sIx items.size items.size hi - sIx items.size 0 lo)).toArray) := by
    show ((items.toList.drop (sIx items.size 0 lo)).take (sIx items.size items.size hi - sIx items.size 0 lo)).toArray.size ≤ sizeLine
    rw [List.size_toArray, List.length_take, List.length_drop, Array.length_toList]
    omega
  have hj : sIx items.size items.size hi ≤ items.size := sIx_le _ _ (Nat.le_refl _) hi
  obtain ⟨os, hos, hcs, hds⟩ := id hs
  have hTs : s.TypeIs (.ref sl) "slice" := ⟨os, hos, hcs⟩
  unfold getItem
  try with_reducible refine wpAny_holding ?_
  first | refine wpAny_bind (wpAny_pure ?_) | skip
  refine wpAny_bind (wpAny_sequenceKey ht.typeIs (by decide) ?_)
  refine wpAny_bind (wpAny_callSpecial?_slot (name := Str.ofString "__getitem__") ht.typeIs PyProof.Rows.slot_tuple_getitem
    (wpAny_call_entry PyProof.Rows.slot_tuple_getitem ht.typeIs entry_tuple_getitem ?_ (args_tuple_getitem _ _)))
  show wpAny _ _ (Builtin.Tuple.tupleItemsOf (.ref t) >>= _) _ _ s
  refine wpAny_bind (tupleItemsOf_ ht ?_)
  refine wpAny_bind (wpAny_typeOf hTs ?_)
  rw [if_pos (by decide)]
  refine wpAny_bind (sliceApplied_gen hs pl pu ?_)
  have hno : ¬ ((((sIx items.size 0 lo : Nat) : Int) == 0 && (1 : Int) == 1 && (sIx items.size items.size hi - sIx items.size 0 lo) == items.size) = true) := by
    intro q
    rw [Bool.and_eq_true, Bool.and_eq_true] at q
    have q1 : ((sIx items.size 0 lo : Nat) : Int) = 0 := eq_of_beq q.1.1
    have q2 : sIx items.size items.size hi - sIx items.size 0 lo = items.size := eq_of_beq q.2
    exact hw ⟨by omega, by omega⟩
  show wpAny _ _ (if (((sIx items.size 0 lo : Nat) : Int) == 0 && (1 : Int) == 1 && (sIx items.size items.size hi - sIx items.size 0 lo) == items.size) = true then _ else _) _ _ s
  rw [if_neg hno, pick_gen]
  first
    | exact wpAny_bind (m := Builtin.Tuple.tupleExact _) (wpAny_newObj_type (wpAny_pure ⟨_, rfl, wpAny_pure h⟩) htake)
    | exact wpAny_bind (m := Builtin.Tuple.tupleExact _) (wpAny_newObj_type (wpAny_bind (wpAny_pure (wpAny_pure ⟨_, rfl, wpAny_pure h⟩))) htake)
    | exact wpAny_bind (wpAny_bind (m := Builtin.Tuple.tupleExact _) (wpAny_newObj_type (wpAny_pure (wpAny_pure ⟨_, rfl, wpAny_pure h⟩)) htake))
    | exact wpAny_bind (wpAny_bind (m := Builtin.Tuple.tupleExact _) (wpAny_newObj_type (wpAny_pure ⟨_, rfl, wpAny_pure h⟩) htake))
end
end HT

namespace L2
open PySem PySem.Spec PyProof.Rows

noncomputable abbrev TO := St → Hp → (Option Int → Hp → Prop) → Prop
noncomputable def PO (X : Cx) (e : Option Expr) (t : TO) : Prop :=
  ∀ (pins : List (Addr × Obj)) (s : Shared) (σ : St) (H : Hp) (Q : Option Int → Hp → Prop), Inv X pins σ H s → t σ H Q →
    wpAny (model X.prog X.w) X.A (evalPart e X.env) (fun u s' => ∃ o H', Inv X pins σ H' s' ∧ IsPart u o ∧ Q o H') X.xe s
noncomputable def tNoPart : TO := fun _ H Q => Q none H
noncomputable def tPart (t : TE) : TO := fun σ H Q => t σ H fun x H1 => ∃ i, x = .int i ∧ Q (some i) H1

section
variable {X : Cx} {e : Expr} {te : TE} {lo hi : Option Expr} {tl th : TO} {pos p2 : Pos}

theorem po_none : PO X none tNoPart := by
  intro pins s σ H Q I h
  rw [evalPart_none]
  exact wpAny_pure ⟨none, H, I, .none, h⟩
theorem po_some (h : PE X e te) : PO X (some e) (tPart te) := by
  intro pins s σ H Q I hw
  rw [evalPart_some]
  refine thn (h pins s σ H _ I hw) fun u s1 ⟨x, H1, I1, r1, q1⟩ => ?_
  obtain ⟨i, rfl, q⟩ := q1
  obtain ⟨t, rfl⟩ := r1
  exact ⟨some i, H1, I1, .int i t, q⟩

noncomputable def SlR (X : Cx) (r : V → Option Int → Option Int → Hp → VK → Prop) : Prop :=
  ∀ (pins : List (Addr × Obj)) (s : Shared) (σ : St) (H : Hp) (x : V) (v vl vu : Value) (lo hi : Option Int) (sl : Addr) (Q : VK), Inv X pins σ H s → RelV x v → s.heap.IsSliceOf sl vl vu .none → IsPart vl lo → IsPart vu hi → r x lo hi H Q →
    ∃ T id, typeLookup (.type T) "__getitem__" = pure (some (.builtin id)) ∧ s.TypeIs v T ∧ wpAny (model X.prog X.w) X.A (getItem v (.ref sl)) (EP X pins σ Q) X.xe s
theorem SlR.or {r r' : V → Option Int → Option Int → Hp → VK → Prop} (h : SlR X r) (h' : SlR X r') : SlR X (fun x lo hi H Q => r x lo hi H Q ∨ r' x lo hi H Q) := by
  intro pins s σ H x v vl vu lo hi sl Q I rx hs pl pu q
  rcases q with q | q
  · exact h pins s σ H x v vl vu lo hi sl Q I rx hs pl pu q
  · exact h' pins s σ H x v vl vu lo hi sl Q I rx hs pl pu q
noncomputable def tSl (r : V → Option Int → Option Int → Hp → VK → Prop) (te : TE) (tl th : TO) : TE := fun σ H Q => te σ H fun x H1 => tl σ H1 fun l H2 => th σ H2 fun u H3 => r x l u H3 Q
theorem pe_slice {r : V → Option Int → Option Int → Hp → VK → Prop} (hr : SlR X r) (he : PE X e te) (hl : PO X lo tl) (hu : PO X hi th) : PE X (.Subscript e (.Slice lo hi none p2) pos) (tSl r te tl th) := by
  intro pins s σ H Q I h
  refine Subscript_ (thn (he pins s σ H _ I h) fun v s1 ⟨x, H1, I1, r1, q1⟩ => ?_)
  refine wpAny_Slice (thn (hl pins s1 σ H1 _ I1 q1) fun vl s2 ⟨l, H2, I2, pl, q2⟩ => thn (hu pins s2 σ H2 _ I2 q2) fun vu s3 ⟨u, H3, I3, pu, q3⟩ => ?_)
  rw [evalPart_none]
  refine wpAny_pure ?_
  have I4 : Inv X pins σ H3 { s3 with heap := s3.heap.push { cls := .type "slice", data := .fields #[vl, vu, .none] } } := I3.kept (t' := s3.toks) fun b ob q => Heap.get?_push_of_some _ q
  obtain ⟨T, id, hT, ht, hg⟩ := hr pins { s3 with heap := s3.heap.push { cls := .type "slice", data := .fields #[vl, vu, .none] } } σ H3 x v vl vu l u s3.heap.objs.size Q I4 r1 (Heap.IsSliceOf.new ..) pl pu q3
  show wpAny (model X.prog X.w) X.A (subscriptTail e (.Slice lo hi none p2) v (.ref s3.heap.objs.size)) (EP X pins σ Q) X.xe { s3 with heap := s3.heap.push { cls := .type "slice", data := .fields #[vl, vu, .none] } }
  exact tail_any (ops := [.ref s3.heap.objs.size, v]) ht hT hg (by with_unfolding_all rfl)

noncomputable def cutV (xs : List V) (lo hi : Option Int) : List V := (xs.drop (HT.sIx xs.length 0 lo)).take (HT.sIx xs.length xs.length hi - HT.sIx xs.length 0 lo)
theorem cutV_length (xs : List V) (lo hi : Option Int) : (cutV xs lo hi).length ≤ xs.length := by
  unfold cutV
  rw [List.length_take, List.length_drop]
  omega
noncomputable def rSlT (K : PySem.W.Frag) : V → Option Int → Option Int → Hp → VK → Prop := fun x lo hi H Q => ∃ a xs, x = .ref a ∧ SqT K H a xs ∧
  ¬ (HT.sIx xs.length 0 lo = 0 ∧ HT.sIx xs.length xs.length hi = xs.length) ∧ ∀ p, H p = none → Q (.ref p) (upd H p (.tup (cutV xs lo hi)))
theorem sl_tup : SlR X (rSlT X.K) := by
  intro pins s σ H x v vl vu lo hi sl Q I rx hs pl pu h
  obtain ⟨a, xs, rfl, hx, hw, q⟩ := h
  cases rx
  obtain ⟨its, r, ht, hz⟩ := I.tuple hx
  have hlen : its.toArray.size = xs.length := by rw [List.size_toArray]; exact r.length.symm
  refine ⟨"tuple", _, PyProof.Rows.slot_tuple_getitem.lookup, ht.typeIs, ?_⟩
  refine HT.getItem_tuple_cut ht hs pl pu (by rw [hlen]; exact hw) ?_ (by rw [hlen]; exact hz)
  rw [hlen]
  refine ⟨.ref s.heap.objs.size, _, I.laid (t' := s.toks) (o := .tup (cutV xs lo hi)) (fun b ob q => Heap.get?_push_of_some _ q) (Nat.le_refl _) ?_, rfl, q _ (I.hok.fresh (Nat.le_refl _))⟩
  exact ⟨Nat.le_trans (cutV_length xs lo hi) hz, _, (r.drop (HT.sIx xs.length 0 lo)).take (HT.sIx xs.length xs.length hi - HT.sIx xs.length 0 lo), IsTup.new _ _⟩

end
end L2

namespace L2
open PySem PySem.Spec PyProof.Rows

noncomputable def ixN (n : Nat) (i : Int) : Option Nat := if 0 ≤ i then (if i < n then some i.toNat else none) else if -(n : Int) ≤ i then some (i + n).toNat else none
noncomputable def atI {α : Type} (xs : List α) (i : Int) : Option α := (ixN xs.length i).bind fun j => xs[j]?
theorem ixN_seq {n : Nat} {i : Int} {j : Nat} (h : ixN n i = some j) : seqIndex? i n = some j ∧ j < n ∧ -(n : Int) ≤ i ∧ i < n := by
  unfold ixN at h
  by_cases h0 : 0 ≤ i
  · rw [if_pos h0] at h
    by_cases h1 : i < n
    · rw [if_pos h1] at h
      have e : i.toNat = j := Option.some.inj h
      exact ⟨by rw [seqIndex_of h0 h1, e], by omega, by omega, h1⟩
    · rw [if_neg h1] at h; cases h
  · rw [if_neg h0] at h
    by_cases h1 : -(n : Int) ≤ i
    · rw [if_pos h1] at h
      have e : (i + n).toNat = j := Option.some.inj h
      exact ⟨by rw [seqIndex_neg (by omega) h1, e], by omega, h1, by omega⟩
    · rw [if_neg h1] at h; cases h
theorem atI_get {α : Type} {xs : List α} {i : Int} {v : α} (h : atI xs i = some v) : ∃ j, seqIndex? i xs.length = some j ∧ xs[j]? = some v ∧ j < xs.length ∧ -(xs.length : Int) ≤ i ∧ i < xs.length := by
  unfold atI at h
  cases e : ixN xs.length i with
  | none => rw [e] at h; cases h
  | some j =>
    rw [e] at h
    obtain ⟨h1, h2, h3, h4⟩ := ixN_seq e
    exact ⟨j, h1, h, h2, h3, h4⟩
noncomputable def PlainIx (b : Expr) : Prop := ∀ o i, subscripted b false o i = operate [o, i] (getItem o i)
noncomputable def IxR (X : Cx) (r : R2) : Prop :=
  ∀ (value slice : Expr) (pins : List (Addr × Obj)) (s : Shared) (σ : St) (H : Hp) (x y : V) (v u : Value) (Q : VK), Inv X pins σ H s → RelV x v → RelV y u → r x y H Q →
    subscripted slice false v u = operate [v, u] (getItem v u) → wpAny (model X.prog X.w) X.A (subscriptTail value slice v u) (EP X pins σ Q) X.xe s
noncomputable def MtR (X : Cx) (id : String) (r : V → List V → Hp → VK → Prop) : Prop :=
  ∀ (pins : List (Addr × Obj)) (s : Shared) (σ : St) (H : Hp) (x : V) (xs : List V) (v : Value) (us : List Value) (Q : VK), Inv X pins σ H s → RelV x v → Vals xs us → r x xs H Q →
    wpAny (model X.prog X.w) X.A (call (.builtin id) (v :: us)) (EP X pins σ Q) X.xe s
section
variable {X : Cx} {a b : Expr} {ta tb : TE} {pos : Pos}
theorem IxR.or {r r' : R2} (h : IxR X r) (h' : IxR X r') : IxR X (fun x y H Q => r x y H Q ∨ r' x y H Q) := by
  intro value slice pins s σ H x y v u Q I rx ry q hs
  rcases q with q | q
  · exact h value slice pins s σ H x y v u Q I rx ry q hs
  · exact h' value slice pins s σ H x y v u Q I rx ry q hs
theorem MtR.or {id : String} {r r' : V → List V → Hp → VK → Prop} (h : MtR X id r) (h' : MtR X id r') : MtR X id (fun x xs H Q => r x xs H Q ∨ r' x xs H Q) := by
  intro pins s σ H x xs v us Q I rx rs q
  rcases q with q | q
  · exact h pins s σ H x xs v us Q I rx rs q
  · exact h' pins s σ H x xs v us Q I rx rs q
theorem pe_ix {r : R2} (hr : IxR X r) (ha : PE X a ta) (hb : PE X b tb) (hs : PlainIx b) : PE X (.Subscript a b pos) (tOp r ta tb) := by
  intro pins s σ H Q I h
  exact Subscript_ (binT ha hb I h fun v u s2 x y H2 I2 rx ry q => hr a b pins s2 σ H2 x y v u Q I2 rx ry q (hs _ _))

noncomputable def rIxL (K : PySem.W.Frag) : R2 := fun x y H Q => ∃ p xs i v, x = .ref p ∧ y = .int i ∧ SqL K H p xs ∧ atI xs i = some v ∧ Q v H
noncomputable def rIxT (K : PySem.W.Frag) : R2 := fun x y H Q => ∃ p xs i v, x = .ref p ∧ y = .int i ∧ SqT K H p xs ∧ atI xs i = some v ∧ Q v H
noncomputable def rIxS : R2 := fun x y H Q => ∃ z i c, x = .str z ∧ y = .int i ∧ z.length ≤ sizeLine ∧ atI z.cps.toList i = some c ∧ Q (.str ⟨#[c]⟩) H
theorem ix_list : IxR X (rIxL X.K) := by
  intro value slice pins s σ H x y v u Q I rx ry h hs
  obtain ⟨p, xs, i, z, rfl, rfl, hq, he, q⟩ := h
  cases rx
  obtain ⟨t, rfl⟩ := ry
  obtain ⟨its, r, pl, hz⟩ := I.list hq
  obtain ⟨j, h1, h2, h3, h4, h5⟩ := atI_get he
  obtain ⟨w, ew, rw'⟩ := r.get h2
  have hl := r.length
  have hn := line63
  have fin : EP X pins σ Q w s := ⟨z, H, I, rw', q⟩
  by_cases h0 : 0 ≤ i
  · have hj : i.toNat = j := by
      rw [seqIndex_of h0 h5] at h1
      exact Option.some.inj h1
    exact item_listR pl.isList h0 (by omega) (by rw [hj]; simpa using ew) fin hs
  · have hj : (i + (its.toArray.size : Int)).toNat = j := by
      rw [seqIndex_neg (by omega) h4] at h1
      rw [List.size_toArray, ← hl]
      exact Option.some.inj h1
    exact subscriptTail_builtinR (x := w) pl.isList.typeIs slot_list_getitem.lookup
      (wpAny_getItem_list_neg (Q := fun r s' => r = w ∧ EP X pins σ Q r s') pl.isList (by omega) (by rw [List.size_toArray] <;> omega) (by omega) (by rw [hj]; simpa using ew) ⟨rfl, fin⟩) hs
theorem ix_tup : IxR X (rIxT X.K) := by
  intro value slice pins s σ H x y v u Q I rx ry h hs
  obtain ⟨p, xs, i, z, rfl, rfl, hq, he, q⟩ := h
  cases rx
  obtain ⟨t, rfl⟩ := ry
  obtain ⟨its, r, pl, hz⟩ := I.tuple hq
  obtain ⟨j, h1, h2, h3, h4, h5⟩ := atI_get he
  obtain ⟨w, ew, rw'⟩ := r.get h2
  have hl := r.length
  have hn := line63
  have fin : EP X pins σ Q w s := ⟨z, H, I, rw', q⟩
  exact subscriptTail_builtinR (x := w) pl.typeIs slot_tuple_getitem.lookup
    (getItem_tuple (j := j) (Q := fun r s' => r = w ∧ EP X pins σ Q r s') pl (by omega) (by omega) (by rw [List.size_toArray, ← hl]; exact h1) (by simpa using ew) ⟨rfl, fin⟩) hs
theorem ix_str : IxR X rIxS := by
  intro value slice pins s σ H x y v u Q I rx ry h hs
  obtain ⟨z, i, c, rfl, rfl, hz, he, q⟩ := h
  obtain ⟨t, rfl⟩ := rx
  obtain ⟨t', rfl⟩ := ry
  obtain ⟨j, h1, h2, h3, h4, h5⟩ := atI_get he
  have hl : z.cps.toList.length = z.length := by simp [Str.length]
  rw [hl] at h1 h4 h5
  have hn := line63
  exact tail_any (typeIs_str s z t) slot_str_getitem.lookup (getItem_str (c := c) (by
    have e1 : decide (i < -(2 ^ 63 : Int)) = false := decide_eq_false (by omega)
    have e2 : decide (i ≥ 2 ^ 63) = false := decide_eq_false (by omega)
    rw [e1, e2, Bool.or_false]) (by rw [h1]; simpa using h2) ⟨.str ⟨#[c]⟩, H, I.tok _, ⟨_, rfl⟩, q⟩) hs
noncomputable def rIx (K : PySem.W.Frag) : R2 := fun x y H Q => rIxL K x y H Q ∨ rIxT K x y H Q ∨ rIxS x y H Q
theorem ix_seq : IxR X (rIx X.K) := ix_list.or (ix_tup.or ix_str)

theorem Inv.lst {pins : List (Addr × Obj)} {σ : St} {H : Hp} {s : Shared} {p : Addr} {xs : List V} (I : Inv X pins σ H s) (h : H p = some (.lst xs)) :
    ∃ (its : List Value) (n : Nat), Vals xs its ∧ s.heap.get? p = some { cls := .type "list", data := .seq its.toArray n } ∧ xs.length ≤ sizeLine := by
  obtain ⟨z, its, n, r, e⟩ := I.hok p _ h
  exact ⟨its, n, r, e, z⟩
theorem slice_bounds (lo hi : Option Int) (n : Nat) : (sliceBounds lo hi none n).1 = ((HT.sIx n 0 lo : Nat) : Int) ∧ (sliceBounds lo hi none n).2.1 = ((HT.sIx n n hi : Nat) : Int) ∧ (sliceBounds lo hi none n).2.2 = 1 := by
  refine ⟨?_, ?_, rfl⟩
  · cases lo with
    | none => simp [sliceBounds, HT.sIx]
    | some i =>
      simp only [sliceBounds, HT.sIx, Option.getD_none, show (1 : Int) > 0 by decide, if_true]
      by_cases h : i < 0
      · simp only [h, if_true] <;> omega
      · simp only [h, if_false] <;> omega
  · cases hi with
    | none => simp [sliceBounds, HT.sIx]
    | some i =>
      simp only [sliceBounds, HT.sIx, Option.getD_none, show (1 : Int) > 0 by decide, if_true]
      by_cases h : i < 0
      · simp only [h, if_true] <;> omega
      · simp only [h, if_false] <;> omega
theorem slicePick_cut (its : List Value) (lo hi : Option Int) : slicePick its.toArray lo hi none = ((its.drop (HT.sIx its.length 0 lo)).take (HT.sIx its.length its.length hi - HT.sIx its.length 0 lo)).toArray := by
  obtain ⟨h1, h2, h3⟩ := slice_bounds lo hi its.toArray.size
  unfold slicePick
  rw [h1, h2, h3]
  simp only [sliceRange_one, pick_run, List.size_toArray] <;> rfl
noncomputable def rSlL (K : PySem.W.Frag) : V → Option Int → Option Int → Hp → VK → Prop := fun x lo hi H Q => ∃ a xs, x = .ref a ∧ SqL K H a xs ∧ ∀ p, H p = none → Q (.ref p) (upd H p (.lst (cutV xs lo hi)))
theorem sl_list : SlR X (rSlL X.K) := by
  intro pins s σ H x v vl vu lo hi sl Q I rx hs pl pu h
  obtain ⟨a, xs, rfl, hx, q⟩ := h
  cases rx
  obtain ⟨its, r, ht, hz⟩ := I.list hx
  have hlen := r.length
  refine ⟨"list", _, slot_list_getitem.lookup, ht.isList.typeIs, ?_⟩
  refine wpAny_getItem_list_slice ht.isList hs pl pu .none (by simp) ?_ (by rw [List.size_toArray] <;> omega)
  rw [slicePick_cut, ← hlen]
  refine ⟨.ref s.heap.objs.size, _, I.laid (t' := s.toks) (o := .lst (cutV xs lo hi)) (fun b ob q => Heap.get?_push_of_some _ q) (Nat.le_refl _) ?_, rfl, q _ (I.hok.fresh (Nat.le_refl _))⟩
  exact ⟨Nat.le_trans (cutV_length xs lo hi) hz, _, 0, (r.drop (HT.sIx xs.length 0 lo)).take (HT.sIx xs.length xs.length hi - HT.sIx xs.length 0 lo), Heap.get?_push_size _ rfl⟩

theorem call_len_seq : CallR X (.builtin "len") (fun xs H Q => ∃ p ys, xs = [.ref p] ∧ (SqL X.K H p ys ∨ SqT X.K H p ys) ∧ Q (.int ys.length) H) := by
  intro pins s σ H xs us Q I r h
  obtain ⟨p, ys, rfl, hq, q⟩ := h
  obtain ⟨u, rfl, rx⟩ := vals1 r
  cases rx
  have hn := line63
  rcases hq with hq | hq
  · obtain ⟨its, r', pl, hz⟩ := I.list hq
    have hlen := r'.length
    exact Calls.call_len_list pl.isList (by simp only [List.size_toArray] <;> omega) ⟨.int ys.length, H, I.tok _, ⟨s.toks + 1, by rw [List.size_toArray, hlen]⟩, q⟩
  · obtain ⟨its, r', pl, hz⟩ := I.tuple hq
    have hlen := r'.length
    exact len_tuple pl (by simp only [List.size_toArray] <;> omega) ⟨.int ys.length, H, I.tok _, ⟨s.toks + 1, by rw [List.size_toArray, hlen]⟩, q⟩
theorem call_len_str : CallR X (.builtin "len") (fun xs H Q => ∃ z, xs = [.str z] ∧ z.length ≤ sizeLine ∧ Q (.int z.length) H) := by
  intro pins s σ H xs us Q I r h
  obtain ⟨z, rfl, hz, q⟩ := h
  obtain ⟨u, rfl, t, rfl⟩ := vals1 r
  have hn := line63
  exact len_str (by omega) ⟨.int z.length, H, I.tok _, ⟨_, rfl⟩, q⟩
theorem CallR.or {f : Value} {r r' : List V → Hp → VK → Prop} (h : CallR X f r) (h' : CallR X f r') : CallR X f (fun xs H Q => r xs H Q ∨ r' xs H Q) := by
  intro pins s σ H xs us Q I rs q
  rcases q with q | q
  · exact h pins s σ H xs us Q I rs q
  · exact h' pins s σ H xs us Q I rs q
theorem call_list_of : CallR X (.type "list") (fun xs H Q => ∃ p ys, xs = [.ref p] ∧ (SqL X.K H p ys ∨ SqT X.K H p ys) ∧ ∀ l, H l = none → Q (.ref l) (upd H l (.lst ys))) := by
  intro pins s σ H xs us Q I r h
  obtain ⟨p, ys, rfl, hq, q⟩ := h
  obtain ⟨u, rfl, rx⟩ := vals1 r
  cases rx
  have fin : ∀ (its : List Value), Vals ys its → ys.length ≤ sizeLine → ∀ (h' : Heap) (c' : Nat), (∀ b o', s.heap.get? b = some o' → h'.get? b = some o') →
      h'.get? s.heap.objs.size = some { cls := .type "list", dict := none, data := .seq its.toArray c', slots := #[] } → EP X pins σ Q (.ref s.heap.objs.size) { s with heap := h' } := fun its r' hz h' c' kp e =>
    ⟨.ref s.heap.objs.size, _, I.laid (t' := s.toks) kp (Nat.le_refl _) (show ObjOk X.prog X.w _ h' _ (.lst ys) from ⟨hz, its, c', r', e⟩), rfl, q _ (I.hok.fresh (Nat.le_refl _))⟩
  rcases hq with hq | hq
  · obtain ⟨its, r', pl, hz⟩ := I.list hq
    have hlen := r'.length
    obtain ⟨o, ho, hc, n, hd⟩ := pl.isList
    exact call_list_seq p (.inl rfl) ho hc hd (fun h' c' kp e => fin its r' hz h' c' kp e) (by simp only [List.size_toArray] <;> omega)
  · obtain ⟨its, r', pl, hz⟩ := I.tuple hq
    have hlen := r'.length
    obtain ⟨o, ho, hc, n, hd⟩ := pl
    exact call_list_seq p (.inr rfl) ho hc hd (fun h' c' kp e => fin its r' hz h' c' kp e) (by simp only [List.size_toArray] <;> omega)
theorem call_tuple_of : CallR X (.type "tuple") (fun xs H Q => ∃ p ys, xs = [.ref p] ∧ ((SqL X.K H p ys ∧ ∀ l, H l = none → Q (.ref l) (upd H l (.tup ys))) ∨ (SqT X.K H p ys ∧ Q (.ref p) H))) := by
  intro pins s σ H xs us Q I r h
  obtain ⟨p, ys, rfl, h⟩ := h
  obtain ⟨u, rfl, rx⟩ := vals1 r
  cases rx
  rcases h with ⟨hq, q⟩ | ⟨hq, q⟩
  · obtain ⟨its, r', pl, hz⟩ := I.list hq
    have hlen := r'.length
    refine call_tuple_list pl.isList (fun h' kp => ?_) (by simp only [List.size_toArray] <;> omega)
    have I1 : Inv X pins σ H { s with heap := h' } := I.kept (t' := s.toks) kp
    have I2 : Inv X pins σ (upd H h'.objs.size (.tup ys)) { s with heap := h'.push { cls := .type "tuple", data := .seq its.toArray } } :=
      I1.laid (t' := s.toks) (fun b o e => Heap.get?_push_of_some _ e) (Nat.le_refl _) (show ObjOk X.prog X.w _ _ _ (.tup ys) from ⟨hz, its, r', IsTup.new _ _⟩)
    exact ⟨.ref h'.objs.size, _, I2, rfl, q _ (I1.hok.fresh (Nat.le_refl _))⟩
  · obtain ⟨its, r', pl, hz⟩ := I.tuple hq
    exact call_tuple_same pl ⟨.ref p, H, I, rfl, q⟩

noncomputable def tyV (K : PySem.W.Frag) (T : String) (x : V) (H : Hp) : Prop := match x with
  | .str _ => T = "str"
  | .int _ => T = "int"
  | .ref p => (T = "list" ∧ ∃ xs, SqL K H p xs) ∨ (T = "tuple" ∧ ∃ o, K.lookup p = some o ∧ o.cls = .type "tuple" ∧ o.dict = none) ∨
      (T = "dict" ∧ ((∃ kvs, H p = some (.dK kvs)) ∨ ∃ kvs, H p = some (.dT kvs))) ∨ (T = "set" ∧ ∃ S n, H p = some (.set S n))
  | _ => False
theorem tyV_is {pins : List (Addr × Obj)} {σ : St} {H : Hp} {s : Shared} {T : String} {x : V} {v : Value} (I : Inv X pins σ H s) (r : RelV x v) (ty : tyV X.K T x H) :
    s.TypeIs v T ∧ ∀ a, v = .ref a → ∃ ob, s.heap.get? a = some ob ∧ ob.dict = none := by
  cases x with
  | str z =>
    obtain ⟨t, rfl⟩ := r
    cases (show T = "str" from ty)
    exact ⟨typeIs_str s z t, fun _ e => nomatch e⟩
  | int i =>
    obtain ⟨t, rfl⟩ := r
    cases (show T = "int" from ty)
    exact ⟨typeIs_int s i t, fun _ e => nomatch e⟩
  | ref p =>
    cases r
    rcases ty with ⟨rfl, xs, hq⟩ | ⟨rfl, o, hk, hc, hd⟩ | ⟨rfl, hk⟩ | ⟨rfl, S, n, hk⟩
    · obtain ⟨its, _, pl, _⟩ := I.list hq
      refine ⟨pl.isList.typeIs, fun a e => ?_⟩
      cases e
      obtain ⟨o, n, e, c, hd, _⟩ := pl
      exact ⟨o, e, hd⟩
    · refine ⟨⟨o, I.kIn p o hk, hc⟩, fun a e => ?_⟩
      cases e
      exact ⟨o, I.kIn _ o hk, hd⟩
    · have z : ∃ o, s.heap.get? p = some o ∧ o.ExactDict := by
        rcases hk with ⟨kvs, hk⟩ | ⟨kvs, hk⟩
        · obtain ⟨_, _, _, _, o, _, _, e, ex, _⟩ := I.hok p _ hk
          exact ⟨o, e, ex⟩
        · obtain ⟨_, _, _, _, o, _, _, e, ex, _⟩ := I.hok p _ hk
          exact ⟨o, e, ex⟩
      obtain ⟨o, e, ex⟩ := z
      refine ⟨⟨o, e, ex.1⟩, fun a e2 => ?_⟩
      cases e2
      exact ⟨o, e, ex.2.1⟩
    · obtain ⟨o, _, _, _, e, ex, _⟩ := I.hok p _ hk
      refine ⟨⟨o, e, ex.1⟩, fun a e2 => ?_⟩
      cases e2
      exact ⟨o, e, ex.2.1⟩
  | _ => exact False.elim ty
noncomputable def tBM (K : PySem.W.Frag) (T : String) (r : V → List V → Hp → VK → Prop) (to : TE) (t : TA) : TE := fun σ H Q => to σ H fun x H1 => tyV K T x H1 ∧ t σ H1 fun xs H2 => r x xs H2 Q
variable {o e : Expr} {es : List Expr} {to : TE} {t : TA} {name : Str} {apos cpos : Pos} {T id : String} {r : V → List V → Hp → VK → Prop}
theorem pe_bm (pa : PlainAttrs T) (slot : Slot T name id) (hty : typeOf (.builtin id) = pure (.type "method_descriptor")) (hm : MtR X id r) (ho : PE X o to) (ha : PA X (e :: es) t)
    (hbase : attributeBase o name X.env (eval o X.env) = eval o X.env := by rfl)
    (hfew : ((backTo cpos (starEach (e :: es) X.env)).all (fun x => !x.1) && (backToKw cpos (keywordEach [] X.env)).all (fun x => x.1.isSome)
      && decide ((e :: es).length + ([] : List Keyword).length + (if ([] : List Keyword).isEmpty then 0 else 1) < 30)) = true := by rfl)
    (hline : (apos.endLine == cpos.line) = true := by rfl) (hs : starEach (e :: es) X.env = (false, eval e X.env) :: starEach es X.env := by rfl) (hplain : (backTo cpos (starEach es X.env)).any (·.1) = false := by rfl) :
    PE X (.Call (.Attribute o name apos) (e :: es) [] cpos) (tBM X.K T r to t) := by
  intro pins s σ H Q I h
  refine wpAny_Call_method_late hbase hfew hline rfl (thn (ho pins s σ H _ I h) fun v s1 ⟨x, H1, I1, r1, ty, q1⟩ => ?_)
  obtain ⟨h1, h2⟩ := tyV_is I1 r1 ty
  refine ⟨T, id, pa, slot, hty, h1, h2, ?_⟩
  have hA := ha cpos pins s1 σ H1 _ I1 q1
  rw [hs] at hA ⊢
  refine Calls.callWith_builtin (by show (false || (backTo cpos (starEach es X.env)).any (·.1)) = false; rw [hplain] <;> rfl) (Calls.evalArgs_plain ?_)
  exact thn hA fun us s2 ⟨vs, H2, I2, r2, q2⟩ => hm pins s2 σ H2 x vs v us Q I2 r1 r2 q2
end
end L2

namespace L2
open PySem PySem.Spec PyProof.Rows

noncomputable def MtM (X : Cx) (id : String) (r : V → List V → Hp → VK → Prop) : Prop :=
  ∀ (pins : List (Addr × Obj)) (s : Shared) (σ : St) (H : Hp) (x : V) (xs : List V) (v : Value) (us : List Value) (Q : VK), Inv X pins σ H s → RelV x v → Vals xs us → r x xs H Q →
    wpAny (model X.prog X.w) X.A (call (.builtin id) (v :: us)) (EP X pins σ Q) X.xe s

theorem Vals.one : ∀ {x : V} {us : List Value}, Vals [x] us → ∃ u, us = [u] ∧ RelV x u
  | _, _, .cons r .nil => ⟨_, rfl, r⟩
theorem Vals.zero : ∀ {us : List Value}, Vals [] us → us = []
  | _, .nil => rfl
theorem Vals.rep {xs : List V} {us : List Value} (h : Vals xs us) : ∀ k : Nat, Vals (List.replicate k xs).flatten (List.replicate k us).flatten
  | 0 => .nil
  | k + 1 => by
    rw [List.replicate_succ, List.replicate_succ, List.flatten_cons, List.flatten_cons]
    exact Vals.append h (Vals.rep h k)
section
variable {X : Cx} {pins : List (Addr × Obj)} {σ : St} {H : Hp} {s : Shared} {l b : Addr} {xs ys zs : List V}

theorem Inv.lset {its its' : List Value} {n : Nat} {f : Array Value → Array Value} {t' : Nat} (I : Inv X pins σ H s) (hH : H l = some (.lst xs))
    (e : s.heap.get? l = some { cls := .type "list", data := .seq its.toArray n }) (hf : f its.toArray = its'.toArray) (hv : Vals ys its') (hz : ys.length ≤ sizeLine) :
    Inv X pins σ (upd H l (.lst ys)) { s with heap := s.heap.update l (Obj.mapSeq f), toks := t' } := by
  have q := PySem.IsL.update e f
  rw [hf] at q
  refine I.write (x := l) (e := l) (by rw [hH]; exact trivial) (.inl rfl) (fun b' u hb hu => (Heap.get?_update_other s.heap (Obj.mapSeq f) (Ne.symm hb)).trans hu) ⟨_, q⟩ ?_
  exact ⟨hz, its', _, hv, q⟩
theorem Inv.lnew {its : List Value} {t' : Nat} (I : Inv X pins σ H s) (hv : Vals ys its) (hz : ys.length ≤ sizeLine) :
    Inv X pins σ (upd H s.heap.objs.size (.lst ys)) { s with heap := s.heap.push { cls := .type "list", data := .seq its.toArray }, toks := t' } :=
  I.laid (fun _ _ q => Heap.get?_push_of_some _ q) (Nat.le_refl _) ⟨hz, its, 0, hv, Heap.get?_push_size _ rfl⟩
theorem Inv.fresh (I : Inv X pins σ H s) : H s.heap.objs.size = none := I.hok.fresh (Nat.le_refl _)
theorem Inv.lstM (I : Inv X pins σ H s) (hH : H l = some (.lst xs)) : xs.length ≤ sizeLine ∧ ∃ (its : List Value) (n : Nat), Vals xs its ∧ xs.length = its.length ∧ s.heap.get? l = some { cls := .type "list", data := .seq its.toArray n } := by
  obtain ⟨z, its, n, r, e⟩ := I.hok l _ hH
  exact ⟨z, its, n, r, r.length, e⟩

end

section
variable {X : Cx}

noncomputable def rAppend : V → List V → Hp → VK → Prop := fun x vs H Q => ∃ l xs y, x = .ref l ∧ vs = [y] ∧ H l = some (.lst xs) ∧ xs.length < sizeLine ∧ Q .non (upd H l (.lst (xs ++ [y])))
theorem mt_append : MtM X "list.append" rAppend := by
  intro pins s σ H x vs v us Q I rx rv h
  obtain ⟨l, xs, y, rfl, rfl, hH, hz, q⟩ := h
  cases rx
  obtain ⟨u, rfl, ru⟩ := rv.one
  obtain ⟨z, its, n, r, hl, e⟩ := I.lstM hH
  refine call_meets F.slot_list_append ⟨_, e, rfl⟩ F.entry_list_append (F.args_list_append_2 _ _) (PySem.list_append l its.toArray n u (by rw [List.size_toArray]; omega)) ⟨e, ?_⟩
  refine ⟨.non, _, I.lset (its' := its ++ [u]) hH e (by simp) (r.append (.cons ru .nil)) ?_, rfl, q⟩
  rw [List.length_append, List.length_singleton]
  omega

end

section
variable {prog : Program} {w : World} {A : Around} {E : Value → Shared → Prop} {s : Shared}
end

section
variable {X : Cx}
end
end L2

namespace Att
open PySem PySem.W PySem.Calls PyProof.Rows

theorem ints_of_wellAll {P : Params} {h : Heap} : ∀ (ns : List Int) (vs : List Value), WellAll P h vs (ns.map WData.int) → IntsAre vs ns := by
  intro ns
  induction ns with
  | nil =>
    intro vs w
    rw [List.map_nil] at w
    cases w
    exact .nil
  | cons n ns ih =>
    intro vs w
    rw [List.map_cons] at w
    cases w with
    | cons a b =>
      cases a
      exact .cons _ _ (ih _ b)

theorem script_of {l : OpenLaw} {n : Nat} (hn : l.most = some n) {P : Params} {h : Heap} {args : List WData} {vals : List Value}
    (hpre : l.row.toRowW.claim.pre args = true) (hwl : WellAll P h vals args) :
    ∃ a vs ns, vals = [Value.ref a] ∧ args = [WData.list (ns.map WData.int)] ∧ h.get? a = some { cls := .type "list", data := .seq vs.toArray } ∧ IntsAre vs ns ∧ ns.length ≤ n := by
  have hsh : WShape.hasAll [] args [.list .int] = true := (pre_splitW hpre).1
  have hc : l.pre.holds [] { args := args } = true := (pre_splitW hpre).2
  obtain ⟨d, r, rfl, h1, h2⟩ := hasAllW_cons hsh
  obtain rfl := hasAllW_nil h2
  obtain ⟨xs, rfl, h3⟩ := hasW_list h1
  obtain ⟨ns, rfl⟩ := items_int h3
  have hlen : ns.length ≤ n := by
    unfold OpenLaw.pre at hc
    have h4 : (WTm.not (.lt (.lit (.int (n : Int))) (.len (.arg 0)))).holds [] { args := [.list (ns.map .int)] } = true := by
      have h4 := (holds_andW hc).1
      rw [hn] at h4
      exact h4
    have h5 := condW_of h4 (w_not (w_lt w_lit (w_len_list (w_arg rfl))))
    rw [List.length_map] at h5
    refine Nat.le_of_not_lt fun q => ?_
    have q' : (n : Int) < ((ns.length : Nat) : Int) := by omega
    first
      | (rw [decide_eq_true q'] at h5; exact absurd h5 (by decide))
      | (simp at h5; omega)
  cases hwl with
  | cons w1 w2 =>
    cases w2
    cases w1 with
    | list ho hall => exact ⟨_, _, ns, rfl, rfl, ho, ints_of_wellAll ns _ hall, hlen⟩

theorem post_true (l : OpenLaw) (args : List WData) : l.row.toRowW.claim.post args (.bool true) args = true :=
  postW_of (r := l.row.toRowW) (X := (true == true))
    (show WShape.has [] (.bool true) .bool = true by first | rfl | decide | simp [WShape.has, WShape.arms, WShape.armsAll])
    (show (WTm.eq .res (.lit (.bool true))).value [] { args := args, res := some (.bool true), after := args } = some (.bool (true == true)) from w_eq_bool (w_res rfl) w_lit) rfl

section
variable {prog : Program} {w : World} {A : Around} {E : Value → Shared → Prop} {s : Shared} {K : Frag}

end
end Att

namespace L2
open PySem PySem.Spec PyProof.Rows

theorem vals_ints : ∀ {vs : List Value} {ns : List Int}, IntsAre vs ns → Vals (ns.map V.int) vs
  | _, _, .nil => .nil
  | _, _, .cons n t h => .cons ⟨t, rfl⟩ (vals_ints h)

noncomputable def Only (H : Hp) : Prop := ∀ b, H b = none ∨ ∃ o xs, H b = some (.frz o (.lst xs))

theorem law_call {P : Program} {w : World} {K : PySem.W.Frag} {mg mb : Str → Option Value} {CX : CXT} {k : Nat} {fa a : Addr} {fd : FuncData} {x : Str} {sp : Sp} {s₁ : Shared} {vs : List Value} {ns : List Int}
    (KX : K.In s₁.heap) (hns : s₁.heap.Ns mainGlobals mg) (hb : s₁.heap.Ns builtinsNs mb) (hbb : ∀ x : Str, x ≠ "__name__" → mb x = bootBuiltins x) (hlim : s₁.heap.NoLimit) (hg : s₁.gens = #[])
    (ha : s₁.heap.get? a = some { cls := .type "list", data := .seq vs.toArray }) (hi : IntsAre vs ns) (hl : ns.length ≤ sizeLine) (hr : Room k callerA)
    (F : ∀ base : Heap, K.In base → base.Ns mainGlobals mg → FnOk P w K mg base CX k fa fd [x] sp) (hbind : ∀ (s : Shared) (u : Value), BindsTo s fd ⟨[u], []⟩ [(x, u)])
    (hsp : ∀ H : Hp, Only H → SqL K H a (ns.map V.int) → sp [.ref a] H (fun v _ => v = .bl true) fun _ _ _ => False)
    (hCX : ∀ H e s', CX [] H s₁ (fun _ _ _ => False) e s' → False) :
    codeAny (model P w) callerA (.call (.ref fa) ⟨[.ref a], []⟩) (fun r s' => r = .ok (.ret (.bool true)) ∧ OldK s₁.heap s'.heap ∧ s'.os = s₁.os ∧ AllBare s'.gens) s₁ := by
  have rv := vals_ints hi
  have lenV := hi.length
  -- from an abstract heap in which nothing but the script may be tracked
  have core : ∀ H : Hp, Only H → SqL K H a (ns.map V.int) → HOk P w H s₁.heap → (∀ b, H b ≠ none → b = a) → (H a ≠ none → K.lookup a = none) →
      codeAny (model P w) callerA (.call (.ref fa) ⟨[.ref a], []⟩) (fun r s' => r = .ok (.ret (.bool true)) ∧ OldK s₁.heap s'.heap ∧ s'.os = s₁.os ∧ AllBare s'.gens) s₁ := by
    intro H hO hS hok hA hK
    have base_of : ∀ {b : Addr} {o : Obj}, s₁.heap.get? b = some o → H b = none → (hidT s₁.heap H).get? b = some o := fun e n => hidT_get e n
    have noA : ∀ {b : Addr} {o : Obj} {es : Array DictEntry} {ep : Nat}, s₁.heap.get? b = some o → o.data = .dict es ep → H b = none := fun {b o es ep} e d => by
      cases q : H b with
      | none => rfl
      | some u =>
        have e' : b = a := hA b (by rw [q]; simp)
        subst e'
        rw [ha] at e; cases e
        have d' : Data.seq vs.toArray _ = Data.dict es ep := d
        cases d'
    have nsK : ∀ {b : Addr} {m : Str → Option Value}, s₁.heap.Ns b m → (hidT s₁.heap H).Ns b m := fun {b m} ⟨o, es, ep, e, d, r⟩ => ⟨o, es, ep, base_of e (noA e d), d, r⟩
    have hKb : K.In (hidT s₁.heap H) := fun b o e => base_of (KX b o e) (by
      cases q : H b with
      | none => rfl
      | some u =>
        have e' : b = a := hA b (by rw [q]; simp)
        subst e'
        rw [hK (by rw [q]; simp)] at e; cases e)
    have hM : Mod K mg (hidT s₁.heap H) := ⟨hKb, nsK hns, ⟨mb, nsK hb, hbb⟩, let ⟨mc, h1, h2⟩ := hlim; ⟨mc, nsK h1, h2⟩⟩
    have e0 : Env0 P w K mg (hidT s₁.heap H) callerA [] s₁ H := ⟨rfl, hM, fun b o e => of_hidT e, Nat.le_of_eq (hidT_size _ _), trivial, fun b hb => absurd (show b ∈ ([] : List Addr) from hb) (by simp), hok, .of_eq hg⟩
    refine codeAny_mono ((F _ hKb (nsK hns)).run callerA [] s₁ H ⟨[.ref a], []⟩ [.ref a] [.ref a] _ _ hr e0 (hbind s₁ (.ref a)) (.cons rfl .nil) (hsp H hO hS)) fun r s' h => ?_
    cases r with
    | error e => exact (hCX H e s' h).elim
    | ok fl =>
      cases fl with
      | next => exact False.elim h
      | brk => exact False.elim h
      | cont => exact False.elim h
      | ret u =>
        obtain ⟨v, H', os, bare, un, hok', r', q⟩ := h
        have q' : v = .bl true := q
        subst q'
        obtain rfl : u = Value.bool true := r'
        refine ⟨rfl, OldK.of_keep fun b o e => ?_, os, bare⟩
        cases q : H b with
        | none => exact un.keep b o e q (by intro z; exact absurd (show b ∈ ([] : List Addr) from z) (by simp)) (by simp)
        | some u =>
          rcases hO b with z | ⟨ob, xs, z⟩
          · rw [q] at z; cases z
          · have z2 := un.frzs b ob _ z
            obtain ⟨e1, _⟩ := hok b _ z
            obtain ⟨e2, _⟩ := hok' b _ z2
            rw [e] at e1; cases e1
            exact e2
  cases hk : K.lookup a with
  | some o =>
    -- the script is one of the module's own objects
    have e := KX a o hk
    rw [ha] at e
    cases e
    refine core (fun _ => none) (fun _ => .inl rfl) (.inr ⟨_, vs.toArray, _, hk, rfl, rfl, rfl, by rw [List.size_toArray, lenV]; exact hl, by simpa using rv⟩) (fun b u z => by have z' : (none : Option HO) = some u := z; cases z') (fun b z => absurd rfl z) fun z => absurd rfl z
  | none =>
    refine core (fun b => if b = a then some (.frz { cls := .type "list", data := .seq vs.toArray } (.lst (ns.map V.int))) else none) (fun b => ?_) (.inl (.inr ⟨{ cls := .type "list", data := .seq vs.toArray }, if_pos rfl⟩)) (fun b u z => ?_) (fun b z => ?_) fun _ => hk
    · by_cases hb : b = a
      · exact .inr ⟨_, _, if_pos hb⟩
      · exact .inl (if_neg hb)
    · by_cases hb : b = a
      · have z' := (if_pos hb).symm.trans z
        cases z'
        subst hb
        exact ⟨ha, by rw [List.length_map]; exact hl, vs, _, rv, ha⟩
      · have z' := (if_neg hb).symm.trans z
        cases z'
    · by_cases hb : b = a
      · exact hb
      · exact absurd (if_neg hb) z
end L2

namespace L2
open PySem PySem.Spec PyProof.Rows

end L2


namespace L2
open PySem PySem.Spec PyProof.Rows

noncomputable def defArgs (s : Stmt) : Arguments := match s with
  | .FunctionDef _ a _ _ _ _ _ _ _ _ => a
  | _ => { posonlyargs := [], args := [], vararg := none, kwonlyargs := [], kw_defaults := [], kwarg := none, defaults := [] }
noncomputable def defBody (s : Stmt) : List Stmt := match s with
  | .FunctionDef _ _ b _ _ _ _ _ _ _ => b
  | _ => []
noncomputable def defScope (s : Stmt) : Scope := match s with
  | .FunctionDef _ _ _ _ _ _ sc _ _ _ => sc
  | _ => { kind := .function, names := [], isGenerator := false, isCoroutine := false }

noncomputable abbrev CX0 : CXT := fun _ _ _ _ _ _ => False
noncomputable abbrev E0 : XK := fun _ _ _ => False
theorem pass0 {X : Cx} : Passes CX0 X E0 := fun _ _ _ _ _ _ _ h => h.elim

structure Fun (K : PySem.W.Frag) (x qual : Str) (st : Stmt) (f : Addr) (fd : FuncData) : Prop where
  ex : ∃ (oc : Value) (od : Option Addr) (kV doc pm : Value) (an : Option Addr) (cdv ct : Value) (osl : Array (Option Value)),
    fd = PySem.W.fnOf x qual (defArgs st) (defBody st) (defScope st) .none kV doc pm an cdv ct ∧ K.lookup f = some ⟨oc, od, .func fd, osl⟩ ∧ PySem.W.codeIn K cdv qual = true
  kp : PySem.W.keepIn K (.ref f) = true
section
variable {P : Program} {w : World} {K : PySem.W.Frag} {mg : Str → Option Value} {base : Heap}
theorem Fun.ok {x qual : Str} {st : Stmt} {f : Addr} {fd : FuncData} {N ps : List Str} {k : Nat} {sp : Sp} (F : Fun K x qual st f fd) (S : FnScope N ps (defScope st)) (len : ∀ vs H Q E, sp vs H Q E → vs.length = ps.length)
    (hbody : ∀ (cdv : Value) (A : Around) (outer : List Env) (s : Shared) (H : Hp) (vs : List V) (Q : VK) (E : XK), Room k (A.deeper (envOfC qual (defScope st) s.heap.objs.size f cdv)) → sp vs H Q E →
      ∃ t, PSs (cxOf CX0 P w K mg base N qual (defScope st) f cdv A outer s H E).nox (defBody st) t ∧ t { nx := fun _ H' => Q .non H', rt := Q } (start N vs) H) : FnOk P w K mg base CX0 (k + 1) f fd ps sp := by
  obtain ⟨oc, od, kV, doc, pm, an, cdv, ct, osl, rfl, lk, hcd⟩ := F.ex
  refine fn_of lk hcd S len fun A outer s H vs Q E hr hsp => ?_
  obtain ⟨t, h, q⟩ := hbody cdv A outer s H vs Q E hr hsp
  exact ⟨t, h.nox, q⟩
theorem Fun.binds {x qual : Str} {st : Stmt} {f : Addr} {fd : FuncData} {ps : List Str} (F : Fun K x qual st f fd)
    (h : ∀ (kV doc pm : Value) (an : Option Addr) (cdv ct : Value) (us : List Value), us.length = ps.length → bindArgs (PySem.W.fnOf x qual (defArgs st) (defBody st) (defScope st) .none kV doc pm an cdv ct) ⟨us, []⟩ = pure (ps.zip us)) : Binds K fd ps [] := by
  obtain ⟨oc, od, kV, doc, pm, an, cdv, ct, osl, rfl, lk, hcd⟩ := F.ex
  exact .all (h kV doc pm an cdv ct)
theorem fun_mk {x qual : Str} {st : Stmt} {f : Addr} {oc : Value} {od an : Option Addr} {osl : Array (Option Value)} {kV doc pm cdv ct : Value} (l : K.lookup f = some ⟨oc, od, .func (PySem.W.fnOf x qual (defArgs st) (defBody st) (defScope st) .none kV doc pm an cdv ct), osl⟩)
    (c : PySem.W.codeIn K cdv qual = true) (k : PySem.W.keepIn K (.ref f) = true) : Fun K x qual st f (PySem.W.fnOf x qual (defArgs st) (defBody st) (defScope st) .none kV doc pm an cdv ct) := ⟨⟨oc, od, kV, doc, pm, an, cdv, ct, osl, rfl, l, c⟩, k⟩
end
section
variable {X : Cx}
theorem pv (i : Nat) {x : Str} {pos : Pos} (hN : X.N[i]? = some x := by rfl) (hv : Vis X.env.scope x := by first | exact Or.inl rfl | exact Or.inr (Or.inl rfl) | exact Or.inr (Or.inr rfl)) (hd : (x == ("__debug__" : Str)) = false := by decide)
    (hcd : (x == ("__classdict__" : Str)) = false := by decide) : PE X (.Name x pos) (tVar i) := pe_var hN hv hd hcd
end

noncomputable def Same (H H' : Hp) : Prop := ∀ b o, H b = some o → H' b = some o
theorem Same.refl (H : Hp) : Same H H := fun _ _ h => h
theorem Same.trans {H H1 H2 : Hp} (a : Same H H1) (b : Same H1 H2) : Same H H2 := fun c o h => b c o (a c o h)
theorem Same.free {H H' : Hp} (e : Same H H') {l : Addr} (h : H' l = Option.none) : H l = Option.none := by
  cases q : H l with
  | none => rfl
  | some o =>
    rw [e l o q] at h
    cases h
theorem Same.seq {K : PySem.W.Frag} {H H' : Hp} {a : Addr} {xs : List V} (e : Same H H') (h : SqL K H a xs) : SqL K H' a xs := by
  rcases h with (h | ⟨o, h⟩) | h
  · exact .inl (.inl (e _ _ h))
  · exact .inl (.inr ⟨o, e _ _ h⟩)
  · exact .inr h

end L2

namespace L2
open PySem PySem.Spec PyProof.Rows

section
variable {prog : Program} {w : World} {A : Around} {R : Result → Shared → Prop} {s : Shared}
noncomputable abbrev F0 : Value → Shared → Prop := fun _ _ => False
theorem offF' {α : Type} {t : Sem α} {Q Q' : α → Shared → Prop} {M : Model} {A : Around} {E : Value → Shared → Prop} {s : Shared} (h : wpAny M A t Q F0 s) (hq : ∀ a s, Q a s → Q' a s) : wpAny M A t Q' E s := wpAny_mono h hq fun _ _ z => z.elim
theorem compLoop_turns {elt target iter : Expr} {ifs : List Expr} {scope : Scope} {pos : Pos} {it acc : Value} {env : Env} (I : Nat → Shared → Prop)
    (turn : ∀ n s, I n s → wpAny (model prog w) A (pyNext it) (fun r s₁ => match r with
      | none => R (.ok .next) s₁
      | some v => wpAny (model prog w) A (letOwnedTupleGo target it v) (fun _ s₁ => wpAny (model prog w) A (assign target env v) (fun _ s₂ =>
          wpAny (model prog w) A (forIn ifs true fun c r => if r = true then do let ok ← isTrue c env (eval c env); pure (ForInStep.yield ok) else pure (ForInStep.yield r)) (fun ok s₃ =>
            if ok = true then wpAny (model prog w) A (eval elt env) (fun x s₄ =>
              wpAny (model prog w) A (call (.builtin "list.append") [acc, x]) (fun _ s₅ => ∃ m, m < n ∧ I m s₅) F0 s₄) F0 s₃
            else ∃ m, m < n ∧ I m s₃) F0 s₂) F0 s₁) F0 s₁) F0 s)
    (n : Nat) (h : I n s) :
    codeAny (model prog w) A (.compLoop (.ListComp elt [⟨target, iter, ifs, 0⟩] scope pos) 0 it acc env) R s := by
  refine codeAny_loop rfl I (fun n s hI => ?_) n h
  show wpAny _ A ((compTurn (.ListComp elt [⟨target, iter, ifs, 0⟩] scope pos) 0 it acc env).onRaise (fun x => do noteFrame x env; theTreesLotGoes x)) _ _ s
  refine wpAny_noted ?_
  rw [compTurn_list]
  refine wpAny_bind (wpAny_standAt (wpAny_bind (offF' (turn n s hI) (fun r s₁ h₁ => ?_))))
  cases r with
  | none => exact wpAny_pure h₁
  | some v =>
    refine wpAny_bind (offF' h₁ fun _ s₁' h₁' => ?_)
    refine wpAny_bind (offF' h₁' fun _ s₂ h₂ => wpAny_bind (offF' h₂ fun ok s₃ h₃ => ?_))
    cases ok with
    | false => exact wpAny_pure ⟨rfl, h₃⟩
    | true =>
      exact wpAny_bind (wpAny_bind (offF' h₃ fun x s₄ h₄ => wpAny_bind (offF' h₄ fun _ s₅ h₅ => wpAny_pure (wpAny_pure ⟨rfl, h₅⟩))))
end

theorem lookup_relabel {env : Env} (x : Str) : ∀ (names : List (Str × NameKind)),
    (names.map fun (n, k) => if (k == NameKind.free && env.scope.kind == .function && env.kindOf n == some .cell) then (n, NameKind.cell) else (n, k)).lookup x
      = (names.lookup x).map fun k => if (k == NameKind.free && env.scope.kind == .function && env.kindOf x == some .cell) = true then NameKind.cell else k
  | [] => rfl
  | (n, k) :: r => by
    have ih := lookup_relabel (env := env) x r
    rw [List.map_cons]
    cases hx : x == n with
    | true =>
      have e : x = n := eq_of_beq hx
      subst e
      by_cases hc : (k == NameKind.free && env.scope.kind == .function && env.kindOf x == some .cell) = true
      · simp only [hc, if_true, List.lookup_cons, beq_self_eq_true, Option.map_some]
      · simp only [hc, if_false, List.lookup_cons, beq_self_eq_true, Option.map_some, Bool.false_eq_true]
    | false =>
      by_cases hc : (k == NameKind.free && env.scope.kind == .function && env.kindOf n == some .cell) = true
      · simp only [hc, if_true, List.lookup_cons, hx]; exact ih
      · simp only [hc, if_false, List.lookup_cons, hx, Bool.false_eq_true]; exact ih

noncomputable def clOf (env : Env) : List (Str × NameKind) → List (Str × Addr) → List (Str × Addr)
  | [], acc => acc
  | (n, k) :: r, acc => clOf env r (if k = .free then (match env.cells.lookup n with | some c => (n, c) :: acc | none => acc) else acc)

theorem closure_eq {env : Env} {scope : Scope} (h : ∀ p ∈ scope.names, p.2 = .free → ∃ c, env.cells.lookup p.1 = some c) : closureFor scope env = pure (clOf env scope.names []) := by
  have gen : ∀ (l : List (Str × NameKind)) (acc : List (Str × Addr)), (∀ p ∈ l, p.2 = .free → ∃ c, env.cells.lookup p.1 = some c) →
      (forIn l acc fun x r => if (x.2 == NameKind.free) = true then (do let a ← cellOf env x.1; pure (ForInStep.yield ((x.1, a) :: r))) else pure (ForInStep.yield r) : Sem (List (Str × Addr))) = pure (clOf env l acc) := by
    intro l
    induction l with
    | nil => intro acc _; rfl
    | cons p r ih =>
      intro acc hp
      obtain ⟨n, k⟩ := p
      rw [List.forIn_cons]
      have hr : ∀ p ∈ r, p.2 = .free → ∃ c, env.cells.lookup p.1 = some c := fun p hm => hp p (List.mem_cons_of_mem _ hm)
      by_cases hk : k = .free
      · subst hk
        obtain ⟨c, hc⟩ := hp (n, .free) List.mem_cons_self rfl
        have e : cellOf env n = pure c := by unfold cellOf; rw [hc]
        simp only [beq_self_eq_true, if_true, e]
        show (forIn r ((n, c) :: acc) _ : Sem _) = _
        rw [ih _ hr]
        show _ = (pure (clOf env r (if NameKind.free = NameKind.free then (match env.cells.lookup n with | some c => (n, c) :: acc | none => acc) else acc)) : Sem _)
        rw [if_pos rfl, hc]
      · have hb : (k == NameKind.free) = false := by simpa using hk
        simp only [hb, Bool.false_eq_true, if_false]
        show (forIn r acc _ : Sem _) = _
        rw [ih _ hr]
        show _ = (pure (clOf env r (if k = NameKind.free then (match env.cells.lookup n with | some c => (n, c) :: acc | none => acc) else acc)) : Sem _)
        rw [if_neg hk]
  have q := gen scope.names [] h
  simp only [closureFor]
  rw [q]
  rfl

theorem clOf_mem {env : Env} : ∀ (l : List (Str × NameKind)) (acc : List (Str × Addr)), (∀ x c, acc.lookup x = some c → env.cells.lookup x = some c) → ∀ x c, (clOf env l acc).lookup x = some c → env.cells.lookup x = some c
  | [], _, h => h
  | (n, k) :: r, acc, h => by
    refine clOf_mem r _ ?_
    by_cases hk : k = .free
    · rw [if_pos hk]
      cases e : env.cells.lookup n with
      | none => exact h
      | some c =>
        intro x c' hx
        rw [List.lookup_cons] at hx
        cases q : x == n with
        | true => rw [q] at hx; cases hx; rw [eq_of_beq q]; exact e
        | false => rw [q] at hx; exact h x c' hx
    · rw [if_neg hk]; exact h
theorem clOf_old {env : Env} : ∀ (l : List (Str × NameKind)) (acc : List (Str × Addr)) (x : Str), (acc.lookup x).isSome = true → ((clOf env l acc).lookup x).isSome = true
  | [], _, _, h => h
  | (n, k) :: r, acc, x, h => by
    refine clOf_old r _ x ?_
    by_cases hk : k = .free
    · rw [if_pos hk]
      cases e : env.cells.lookup n with
      | none => exact h
      | some c =>
        show (List.lookup x ((n, c) :: acc)).isSome = true
        rw [List.lookup_cons]
        cases q : x == n with
        | true => rfl
        | false => exact h
    · rw [if_neg hk]; exact h
theorem clOf_has {env : Env} : ∀ (l : List (Str × NameKind)) (acc : List (Str × Addr)), (∀ p ∈ l, p.2 = .free → ∃ c, env.cells.lookup p.1 = some c) → ∀ x, (x, NameKind.free) ∈ l → ((clOf env l acc).lookup x).isSome = true
  | [], _, _, _, h => nomatch h
  | (n, k) :: r, acc, hp, x, h => by
    rcases List.mem_cons.mp h with e | h
    · cases e
      obtain ⟨c, hc⟩ := hp (n, .free) List.mem_cons_self rfl
      show ((clOf env r (if NameKind.free = NameKind.free then (match env.cells.lookup n with | some c => (n, c) :: acc | none => acc) else acc)).lookup n).isSome = true
      rw [if_pos rfl, hc]
      exact clOf_old r _ n (by simp [List.lookup_cons])
    · exact clOf_has r _ (fun p hm => hp p (List.mem_cons_of_mem _ hm)) x h

noncomputable def compOk (sc scope : Scope) (N tgs frees : List Str) (js : List Nat) : Bool :=
  scope.kind == .function && scope.names.all (fun p => p.2 != .cell && (p.2 != .free || sc.names.lookup p.1 == some .cell || sc.names.lookup p.1 == some .free) && (p.2 != .local || scope.names.lookup p.1 == some .local))
    && tgs.all (fun x => scope.names.lookup x == some .local) && frees.all (fun x => scope.names.lookup x == some .free) && (js.map fun j => N[j]?) == frees.map some

noncomputable def upC (m : Nat) (js : List Nat) (σ : St) : St := List.replicate m none ++ js.map fun j => (σ[j]?).join

noncomputable def compCx (X : Cx) (Nc : List Str) (scope : Scope) (C : Addr) (s₀ : Shared) (H₀ : Hp) (fp : List Addr) : Cx where
  prog := X.prog
  w := X.w
  K := X.K
  mg := X.mg
  base := X.base
  A := X.A
  N := Nc
  s₀ := s₀
  H₀ := H₀
  env := compEnvC scope (clOf X.env scope.names []) C X.env
  outer := X.stack
  stack := X.stack
  ex := fp
  fn := fun _ => false
  calm := X.calm
  pn := []
  xe := F0

noncomputable def PIfs (X : Cx) (ifs : List Expr) (t : TT) : Prop :=
  ∀ (pins : List (Addr × Obj)) (s : Shared) (σ : St) (H : Hp) (Q : Bool → Hp → Prop), Inv X pins σ H s → t σ H Q →
    wpAny (model X.prog X.w) X.A (forIn ifs true fun c r => if r = true then do let ok ← isTrue c X.env (eval c X.env); pure (ForInStep.yield ok) else pure (ForInStep.yield r)) (TP X pins σ Q) X.xe s
noncomputable def tYes : TT := fun _ H Q => Q true H
theorem pifs_nil {X : Cx} : PIfs X [] tYes := fun _ _ _ H _ I h => wpAny_tests_nil ⟨H, I, h⟩
noncomputable def tBlk (J : It) (m : Nat) (js : List Nat) (g : TG) (tc : TT) (te : TE) (σ : St) (H1 : Hp) (Q : VK) : Prop := ∀ D, H1 D = none →
  ∃ W : Nat → Nat → St → Hp → Prop, (∃ k, W 0 k (upC m js σ) (upd H1 D (.lst []))) ∧ ∀ i k σ' H', W i k σ' H' →
    (J.stop i H' ∧ Q (.ref D) H') ∨ (J.go i H' ∧ ∀ x H2, J.yld i H' x H2 → g x σ' H2 fun σ2 H3 => tc σ2 H3 fun b H4 => if b = true then te σ2 H4 fun y H5 => ∃ ys k', H5 D = some (.lst ys) ∧ ys.length < sizeLine ∧ k' < k ∧ W (i + 1) k' σ2 (upd H5 D (.lst (ys ++ [y])))
      else ∃ k', k' < k ∧ W (i + 1) k' σ2 H4)

section
variable {X : Cx} {pins : List (Addr × Obj)} {σ : St} {H2 : Hp} {s2 : Shared} {tg elt iter : Expr} {ifs : List Expr} {scope sc : Scope} {pos : Pos} {tgs frees : List Str} {js : List Nat} {g : TG} {te : TE} {tc : TT}

theorem compOk_parts {N : List Str} (h : compOk sc scope N tgs frees js = true) : scope.kind = .function ∧ (∀ p ∈ scope.names, p.2 ≠ .cell) ∧ (∀ p ∈ scope.names, p.2 = .free → sc.names.lookup p.1 = some .cell ∨ sc.names.lookup p.1 = some .free) ∧
    (∀ p ∈ scope.names, p.2 = .local → scope.names.lookup p.1 = some .local) ∧ (∀ x ∈ tgs, scope.names.lookup x = some .local) ∧ (∀ x ∈ frees, scope.names.lookup x = some .free) ∧ (js.map fun j => N[j]?) = frees.map some := by
  unfold compOk at h
  simp only [Bool.and_eq_true, List.all_eq_true, bne_iff_ne, ne_eq, Bool.or_eq_true, beq_iff_eq] at h
  obtain ⟨⟨⟨⟨h1, h2⟩, h3⟩, h4⟩, h5⟩ := h
  refine ⟨h1, fun p hp => (h2 p hp).1.1, fun p hp e => ?_, fun p hp e => ?_, h3, h4, h5⟩
  · rcases (h2 p hp).1.2 with (q | q) | q
    · exact absurd e q
    · exact .inl q
    · exact .inr q
  · rcases (h2 p hp).2 with q | q
    · exact absurd e q
    · exact q

theorem comp_start {C : Addr} {s3 : Shared} {H3 : Hp} {h4 : Heap} {tk : Nat} {fp : List Addr} {m0 : Str → Option Value} (I : Inv X pins σ H3 s3) (f3 : ∀ b ∈ fp, FpOk X pins H3 b) (ofp : ∀ b ∈ fp, b < s3.heap.objs.size)
    (hsc : X.env.scope = sc) (hok : compOk sc scope X.N tgs frees js = true) (hC : C = s3.heap.objs.size) (hk : ∀ b o, s3.heap.get? b = some o → h4.get? b = some o) (hn : h4.Ns C m0) :
    Inv (compCx X (tgs ++ frees) scope C s3 H3 fp) [] (upC tgs.length js σ) H3 { s3 with heap := h4, toks := tk } := by
  obtain ⟨k1, k2, k3, k4, k5, k6, k7⟩ := compOk_parts hok
  have hcl : ∀ x c, (clOf X.env scope.names []).lookup x = some c → X.env.cells.lookup x = some c := clOf_mem scope.names [] (fun _ _ z => nomatch z)
  have hfr : ∀ p ∈ scope.names, p.2 = .free → ∃ c, X.env.cells.lookup p.1 = some c := fun p hp e => I.ok.has p.1 (by
    show X.env.scope.names.lookup p.1 = _ ∨ X.env.scope.names.lookup p.1 = _
    rw [hsc]; exact k3 p hp e)
  have rl : ∀ x, (relabel scope X.env).names.lookup x = (scope.names.lookup x).map fun k => if (k == NameKind.free && X.env.scope.kind == .function && X.env.kindOf x == some .cell) = true then NameKind.cell else k := fun x => lookup_relabel x scope.names
  have hasc : ∀ x, ((relabel scope X.env).names.lookup x = some .cell ∨ (relabel scope X.env).names.lookup x = some .free) → ∃ c, (clOf X.env scope.names []).lookup x = some c := fun x hx => by
    rw [rl x] at hx
    cases e : scope.names.lookup x with
    | none => rw [e] at hx; simp at hx
    | some k =>
      have hm := PySem.mem_of_lookup e
      have hkf : k = .free := by
        rw [e] at hx
        simp only [Option.map_some, Option.some.injEq] at hx
        by_cases q : k = .free
        · exact q
        · have hb : (k == NameKind.free) = false := by simpa using q
          rw [hb] at hx
          simp only [Bool.false_and, Bool.false_eq_true, if_false] at hx
          rcases hx with z | z
          · exact absurd z (k2 _ hm)
          · exact z
      subst hkf
      exact Option.isSome_iff_exists.mp (clOf_has scope.names [] hfr x hm)
  have cfr : ∀ x c, X.env.cells.lookup x = some c → c ≠ C := fun x c e z => by
    obtain ⟨v, q⟩ := I.cell x c e
    exact absurd (z ▸ q.lt) (by rw [hC]; exact Nat.lt_irrefl _)
  have base0 : ∀ b o, X.base.get? b = some o → b ∉ fp := fun b o e hb => by
    obtain ⟨_, _, _, q, _⟩ := f3 b hb
    rcases q with q | q
    · exact I.ok.noex b o e q
    · exact absurd (Nat.lt_of_lt_of_le (Heap.lt_size (I.ok.bs b o e).1) q) (Nat.lt_irrefl _)
  have stk : ∀ b ∈ fp, b ∉ frs X.stack := fun b hb z => by
    obtain ⟨_, q1, q2, _⟩ := f3 b hb
    rcases List.mem_cons.mp (I.stkSub b z) with e | e
    · exact q1 e
    · exact q2 e
  refine ⟨⟨I.ok.mod, k1, I.ok.glob, I.ok.blt, by rw [hC]; exact Nat.le_refl _, fun x y c e1 e2 => I.ok.inj x y c (hcl x c e1) (hcl y c e2), hasc, (fun x c z _ => nomatch z), I.ok.hd, I.ok.frames, .inl rfl,
      fun b hb => ⟨fun z => absurd (ofp b hb) (by rw [show b = C from z, hC]; exact Nat.lt_irrefl _), fun x c e => (f3 b hb).2.2.2.2.1 x c (hcl x c e)⟩,
      fun b o e => I.bs b o e, Nat.le_trans I.ok.bsz I.sz, base0, stk, I.stack, I.stkFree⟩,
    rfl, I.bare, Un.kept hk, ⟨m0, hn, fun i x v e1 e2 e3 => ?_⟩, fun x c e => ?_, I.hok.fresh (by rw [show (compCx X (tgs ++ frees) scope C s3 H3 fp).env.locals = C from rfl, hC]; exact Nat.le_refl _), fun x c e => I.freeC x c (hcl x c e),
    fun p hp => absurd (show p ∈ ([] : List (Addr × Obj)) from hp) (by simp), I.hok.kept hk, ?_⟩
  · -- a name's value
    have hi : tgs.length ≤ i := by
      refine Nat.le_of_not_lt fun hlt => ?_
      have e2 : (upC tgs.length js σ)[i]? = some (some v) := e2
      unfold upC at e2
      rw [List.getElem?_append_left (by simpa using hlt), List.getElem?_replicate] at e2
      split at e2 <;> cases e2
    have e2 : (upC tgs.length js σ)[i]? = some (some v) := e2
    unfold upC at e2
    rw [List.getElem?_append_right (by simpa using hi), List.length_replicate, List.getElem?_map] at e2
    have e1 : (tgs ++ frees)[i]? = some x := e1
    rw [List.getElem?_append_right hi] at e1
    obtain ⟨j, ej, e2⟩ := Option.map_eq_some_iff.mp e2
    have hj : X.N[j]? = some x := by
      have q := congrArg (fun l => l[i - tgs.length]?) k7
      simp only [List.getElem?_map, ej, e1, Option.map_some] at q
      exact Option.some.inj q
    have hσ : σ[j]? = some (some v) := by
      cases q : σ[j]? with
      | none => rw [q] at e2; cases e2
      | some o => rw [q] at e2; exact congrArg some e2
    have hf : scope.names.lookup x = some .free := k6 x (List.mem_of_getElem? e1)
    have hX : X.env.kindOf x = some .cell ∨ X.env.kindOf x = some .free := by
      show X.env.scope.names.lookup x = _ ∨ X.env.scope.names.lookup x = _
      rw [hsc]; exact k3 _ (PySem.mem_of_lookup hf) rfl
    obtain ⟨m, _, hl⟩ := I.loc
    obtain ⟨u, r, l⟩ := hl j x v hj hσ (by
      rcases hX with q | q
      · exact .inr (.inl q)
      · exact .inr (.inr q))
    refine ⟨u, r, .inr ⟨?_, ?_⟩⟩
    · show (relabel scope X.env).names.lookup x = _ ∨ (relabel scope X.env).names.lookup x = _
      rw [rl x, hf]
      by_cases q : (NameKind.free == NameKind.free && X.env.scope.kind == .function && X.env.kindOf x == some .cell) = true
      · exact .inl (by rw [Option.map_some, if_pos q])
      · exact .inr (by rw [Option.map_some, if_neg q])
    · rcases l with ⟨q, _⟩ | ⟨_, c, ec, hcell⟩
      · rcases hX with z | z <;> (rw [z] at q; cases q)
      · obtain ⟨c', ec'⟩ := Option.isSome_iff_exists.mp (clOf_has scope.names [] hfr x (PySem.mem_of_lookup hf))
        have e : c' = c := Option.some.inj ((hcl x c' ec').symm.trans ec)
        subst e
        obtain ⟨o, ho, hd⟩ := hcell
        exact ⟨c', ec', o, hk _ _ ho, hd⟩
  · obtain ⟨v, o, ho, hd⟩ := I.cell x c (hcl x c e)
    exact ⟨v, o, hk _ _ ho, hd⟩
  · show (upC tgs.length js σ).length = (tgs ++ frees).length
    have q := congrArg List.length k7
    rw [List.length_map, List.length_map] at q
    unfold upC
    rw [List.length_append, List.length_replicate, List.length_map, List.length_append, q]

theorem comp_block {J : It} {fp : List Addr} {it : Addr} {tn : Nat → Heap → Prop} {RR : Value → Addr → Result → Shared → Prop} {E : Value → Shared → Prop} {Q : VK}
    (I2 : Inv X pins σ H2 s2) (T : Turn X.prog X.w X.K tg J fp it tn) (st2 : tn 0 s2.heap) (f2 : ∀ b ∈ fp, FpOk X pins H2 b) (hc : X.calm = true)
    (hsc : X.env.scope = sc) (hok : compOk sc scope X.N tgs frees js = true)
    (hg : ∀ C s₀ H₀ fp, PG (compCx X (tgs ++ frees) scope C s₀ H₀ fp) tg g) (hi : ∀ C s₀ H₀ fp, PIfs (compCx X (tgs ++ frees) scope C s₀ H₀ fp) ifs tc) (he : ∀ C s₀ H₀ fp, PE (compCx X (tgs ++ frees) scope C s₀ H₀ fp) elt te)
    (hw : tBlk J tgs.length js g tc te σ H2 Q)
    (hRR : ∀ D C s' H' m, Inv X pins σ H' s' → Q (.ref D) H' → FpOk X pins H' C → s'.heap.Ns C m → RR (.ref D) C (.ok .next) s') :
    wpAny (model X.prog X.w) X.A (newList []) (fun acc s₃ => wpAny (model X.prog X.w) X.A (newFunctionEnv scope X.env.globals (clOf X.env scope.names []) [] X.env.qual none .none (some X.env)) (fun cenv s₄ =>
      codeAny (model X.prog X.w) X.A (.compStart (.ListComp elt [⟨tg, iter, ifs, 0⟩] scope pos) 0 (.ref it) acc { cenv with scope := relabel scope X.env }) (RR acc cenv.locals) s₄) E s₃) E s2 := by
  obtain ⟨k1, k2, k3, k4, k5, k6, k7⟩ := compOk_parts hok
  refine wpAny_newObj_type (wpAny_newFunctionEnv k2 (by intro y hy; simp at hy) (fun h4 hn4 hs4 => ?_) k1)
  dsimp only at hn4 hs4 ⊢
  generalize hh3 : s2.heap.push { cls := .type "list", dict := none, data := .seq ([] : List Value).toArray } = h3 at hn4 hs4 ⊢
  generalize hD : s2.heap.objs.size = D
  have hDn : H2 D = none := by rw [← hD]; exact I2.fresh
  have hsz3 : h3.objs.size = D + 1 := by rw [← hh3, Heap.size_push, hD]
  have keep23 : ∀ b o, s2.heap.get? b = some o → h3.get? b = some o := fun b o e => by rw [← hh3]; exact Heap.get?_push_of_some _ e
  have keep34 : ∀ b o, h3.get? b = some o → h4.get? b = some o := fun b o e => hs4.extBut b o (Nat.ne_of_lt (Heap.lt_size e)) (Heap.get?_push_of_some _ e)
  have I3 : Inv X pins σ (upd H2 D (.lst [])) { s2 with heap := h3 } := by
    have q := I2.lnew (its := []) (ys := []) (t' := s2.toks) .nil (Nat.zero_le _)
    rw [hD] at q
    rw [← hh3]
    exact q
  have nfp : ∀ b ∈ fp, b ≠ D := fun b hb z => by
    obtain ⟨o, e, _⟩ := T.obj 0 _ st2 b hb
    exact absurd (Heap.lt_size e) (by rw [z, hD]; exact Nat.lt_irrefl _)
  have f3 : ∀ b ∈ fp, FpOk X pins (upd H2 D (.lst [])) b := fun b hb => by
    obtain ⟨q0, q⟩ := f2 b hb
    exact ⟨by rw [upd_ne (nfp b hb)]; exact q0, q⟩
  have ofp : ∀ b ∈ fp, b < h3.objs.size := fun b hb => by
    obtain ⟨o, e, _⟩ := T.obj 0 _ st2 b hb
    exact Heap.lt_size (keep23 b o e)
  obtain ⟨W, ⟨n0, w0⟩, turn⟩ := hw D hDn
  have loop : ∀ s4 : Shared, s4 = { s2 with heap := h4, toks := s2.toks + ([] : List (Str × Value)).length } →
      codeAny (model X.prog X.w) X.A (.compLoop (.ListComp elt [⟨tg, iter, ifs, 0⟩] scope pos) 0 (.ref it) (.ref D) (compEnvC scope (clOf X.env scope.names []) h3.objs.size X.env)) (RR (.ref D) h3.objs.size) s4 := by
    rintro s4 rfl
    generalize hX' : compCx X (tgs ++ frees) scope h3.objs.size { s2 with heap := h3 } (upd H2 D (.lst [])) fp = X'
    have I4 : Inv X' [] (upC tgs.length js σ) (upd H2 D (.lst [])) { s2 with heap := h4, toks := s2.toks + ([] : List (Str × Value)).length } := by
      rw [← hX']
      exact comp_start (s3 := { s2 with heap := h3 }) I3 f3 ofp hsc hok rfl keep34 hn4
    have eP : X'.prog = X.prog := by rw [← hX']; rfl
    have eW : X'.w = X.w := by rw [← hX']; rfl
    have eK : X'.K = X.K := by rw [← hX']; rfl
    have eA : X'.A = X.A := by rw [← hX']; rfl
    have eC : X'.calm = true := by rw [← hX']; exact hc
    have T' : Turn X'.prog X'.w X'.K tg J fp it tn := by rw [eP, eW, eK]; exact T
    have eE : X'.env = compEnvC scope (clOf X.env scope.names []) h3.objs.size X.env := by rw [← hX']; rfl
    have eX : X'.xe = F0 := by rw [← hX']; rfl
    have stat : ∀ {H' : Hp}, (∀ b ∈ fp, H' b = none) → ∀ b ∈ fp, FpOk X' [] H' b := fun {H'} hn b hb => by
      obtain ⟨_, q1, q2, q3, q4, q5⟩ := f3 b hb
      rw [← hX']
      refine ⟨hn b hb, ?_, ?_, .inl hb, fun x c e => ?_, fun p hp => absurd (show p ∈ ([] : List (Addr × Obj)) from hp) (by simp)⟩
      · exact fun z => absurd (ofp b hb) (by rw [show b = h3.objs.size from z]; exact Nat.lt_irrefl _)
      · intro z
        rcases List.mem_cons.mp (I3.stkSub b z) with e | e
        · exact q1 e
        · exact q2 e
      · exact q4 x c (clOf_mem scope.names [] (fun _ _ z => nomatch z) x c e)
    have hgX : PG X' tg g := by rw [← hX']; exact hg _ _ _ _
    have hiX : PIfs X' ifs tc := by rw [← hX']; exact hi _ _ _ _
    have heX : PE X' elt te := by rw [← hX']; exact he _ _ _ _
    refine compLoop_turns (fun n s' => ∃ i σ' H', Inv X' [] σ' H' s' ∧ tn i s'.heap ∧ (∀ b ∈ fp, H' b = none) ∧ W i n σ' H') ?_ n0 ⟨0, _, _, I4, T.keep 0 _ _ st2 (fun b _ o e => keep34 b o (keep23 b o e)), fun b hb => (f3 b hb).1, w0⟩
    rintro n s5 ⟨i, σ5, H5, I5, st5, fr5, w5⟩
    rw [← eP, ← eW, ← eE, ← eA]
    rcases turn i n σ5 H5 w5 with ⟨stop, qn⟩ | ⟨go, step⟩
    · refine thn (T'.done X' rfl rfl rfl eC i [] s5 σ5 H5 F0 I5 (stat fr5) st5 stop) fun r s6 ⟨hr, I6⟩ => ?_
      subst hr
      have un : Un (frs X.stack) fp H2 H5 s2.heap s6.heap := by
        have u1 : Un (frs X.stack) fp H2 (upd H2 D (.lst [])) s2.heap h3 := Un.laid keep23 (Nat.le_of_eq hD) hDn
        have u2 := I6.base
        rw [← hX'] at u2
        exact u1.trans u2
      have hpx : HOk X.prog X.w H5 s6.heap := by have q := I6.hok; rw [eP, eW] at q; exact q
      have hos : s6.os = s2.os := by have q := I6.os; rw [← hX'] at q; exact q
      have IX : Inv X pins σ H5 s6 := I2.call' (ch := fp) hos un hpx I6.bare fun b hb => ⟨(f2 b hb).2.2.2.1, (f2 b hb).2.1, (f2 b hb).2.2.2.2.1, (f2 b hb).2.2.2.2.2⟩
      obtain ⟨m, hm, _⟩ := I6.loc
      have hloc : X'.env.locals = h3.objs.size := by rw [eE]; rfl
      rw [hloc] at hm
      have hle : s2.heap.objs.size ≤ h3.objs.size := by rw [hD, hsz3]; exact Nat.le_succ _
      refine hRR D h3.objs.size s6 H5 m IX qn (I2.fpOk hle ?_) hm
      have q := I6.free
      rw [hloc] at q
      exact q
    · refine thn (T'.item X' rfl rfl rfl eC i [] s5 σ5 H5 F0 I5 (stat fr5) st5 go) fun r s6 ⟨u, hr, h6⟩ => ?_
      subst hr
      refine thn h6 fun _ s7 ⟨x, H7, I7, r7, y7, st7, fr7⟩ => ?_
      have I7' := I7.pinned (stat fr7) (T.obj _ _ st7)
      have xe0 : X'.xe = F0 := eX
      have conv : ∀ {α : Type} {t : Sem α} {Q : α → Shared → Prop} {s : Shared}, wpAny (model X'.prog X'.w) X'.A t Q X'.xe s → wpAny (model X'.prog X'.w) X'.A t Q F0 s := fun h => by rw [xe0] at h; exact h
      refine thn (conv (hgX _ s7 σ5 H7 x u _ I7' r7 (step x H7 y7))) fun _ s8 ⟨σ8, H8, I8, q8⟩ => ?_
      refine thn (conv (hiX _ s8 σ8 H8 _ I8 q8)) fun ok s9 ⟨H9, I9, q9⟩ => ?_
      have again : ∀ {σz : St} {Hz : Hp} {sz : Shared} {k' : Nat}, Inv X' ([] ++ pinsAt fp s7.heap) σz Hz sz → k' < n → W (i + 1) k' σz Hz → ∃ m, m < n ∧ ∃ i σ' H', Inv X' [] σ' H' sz ∧ tn i sz.heap ∧ (∀ b ∈ fp, H' b = none) ∧ W i m σ' H' := fun {σz Hz sz k'} Iz hk wz => by
        refine ⟨k', hk, i + 1, σz, Hz, Iz.unpinned, T.keep _ _ _ st7 fun b hb o e => (Iz.pin (b, o) (List.mem_append_right _ (List.mem_append_right _ (mem_pinsAt hb e)))).1, fun b hb => ?_, wz⟩
        obtain ⟨o, e, d⟩ := T.obj _ _ st7 b hb
        exact (Iz.pin (b, o) (List.mem_append_right _ (List.mem_append_right _ (mem_pinsAt hb e)))).2.1
      cases ok with
      | false =>
        rw [if_neg (by decide)] at q9
        rw [if_neg (by decide)]
        obtain ⟨k', hk, wz⟩ := q9
        exact again I9 hk wz
      | true =>
        rw [if_pos rfl] at q9
        rw [if_pos rfl]
        refine thn (conv (heX _ s9 σ8 H9 _ I9 q9)) fun v s10 ⟨y, H10, I10, r10, ys, k', hys, hl, hk, wz⟩ => ?_
        refine thn (conv (mt_append (X := X') _ s10 σ8 H10 (.ref D) [y] (.ref D) [v] (fun z Hz => W (i + 1) k' σ8 Hz) I10 rfl (.cons r10 .nil) ⟨D, ys, y, rfl, rfl, hys, hl, wz⟩)) fun _ s11 ⟨_, H11, I11, _, q11⟩ => ?_
        exact again I11 hk q11
  rw [show s2.heap.objs.size = D from hD] at *
  exact codeAny_compStart_list (loop _ rfl) (T.self _ 0 _ _ _ (T.keep 0 _ _ st2 fun b _ o e => keep34 b o (keep23 b o e)) (loop _ rfl))

noncomputable def tComp (wi : TI) (m : Nat) (js : List Nat) (g : TG) (tc : TT) (te : TE) : TE := fun σ H Q => wi σ H fun J H1 => tBlk J m js g tc te σ H1 Q

theorem comp_hfree (ok : X.Ok) (hsc : X.env.scope = sc) (hok : compOk sc scope X.N tgs frees js = true) : closureFor scope X.env = pure (clOf X.env scope.names []) :=
  closure_eq fun p hp e => ok.has p.1 (by
    show X.env.scope.names.lookup p.1 = _ ∨ X.env.scope.names.lookup p.1 = _
    rw [hsc]; exact (compOk_parts hok).2.2.1 p hp e)

theorem pe_comp (sc : Scope) (tgs frees : List Str) (js : List Nat) {wi : TI} (hp : PI X tg iter wi) (hc : X.calm = true) (hsc : X.env.scope = sc) (hok : compOk sc scope X.N tgs frees js = true)
    (hg : ∀ C s₀ H₀ fp, PG (compCx X (tgs ++ frees) scope C s₀ H₀ fp) tg g) (hi : ∀ C s₀ H₀ fp, PIfs (compCx X (tgs ++ frees) scope C s₀ H₀ fp) ifs tc) (he : ∀ C s₀ H₀ fp, PE (compCx X (tgs ++ frees) scope C s₀ H₀ fp) elt te)
    (hs : ∀ x, foldedSetIterable iter X.env x = pure x := by intro _; rfl) :
    PE X (.ListComp elt [⟨tg, iter, ifs, 0⟩] scope pos) (tComp wi tgs.length js g tc te) := by
  intro pins s σ H Q I h
  obtain ⟨k1, k2, k3, k4, k5, k6, k7⟩ := compOk_parts hok
  rw [eval_ListComp]
  refine wpAny_comprehension_free (use := none) rfl hs (comp_hfree I.ok hsc hok) k1 k4 (thn (hp pins s σ H _ I h) fun v s1 h1 => thn h1 fun itv s2 h2 => ?_)
  obtain ⟨it, fp, tn, J, H2, e, I2, T, st2, f2, hw⟩ := h2
  subst e
  refine comp_block (RR := fun acc C => compPost (model X.prog X.w) X.A X.xe none (EP X pins σ Q) acc C) I2 T st2 f2 hc hsc hok hg hi he hw ?_
  intro D C s' H' m I' q fC hn
  refine ⟨m, hn, fun h' hs' => ⟨.ref D, H', ?_, rfl, q⟩⟩
  obtain ⟨c0, c1, c2, c3, c4, c5⟩ := fC
  exact I'.turned (t' := s'.toks) (fun b o hb e => hs'.extBut b o hb e) c0 c1 c3 c4 c5

theorem ps_setComp (sc : Scope) (tgs frees : List Str) (js : List Nat) {wi : TI} {i : Nat} {x : Str} {pos' spos : Pos} (hN : X.N.Nodup) (hx : X.N[i]? = some x) (hl : X.env.scope.names.lookup x = some .local)
    (hp : PI X tg iter wi) (hc : X.calm = true) (hsc : X.env.scope = sc) (hok : compOk sc scope X.N tgs frees js = true)
    (hg : ∀ C s₀ H₀ fp, PG (compCx X (tgs ++ frees) scope C s₀ H₀ fp) tg g) (hi : ∀ C s₀ H₀ fp, PIfs (compCx X (tgs ++ frees) scope C s₀ H₀ fp) ifs tc) (he : ∀ C s₀ H₀ fp, PE (compCx X (tgs ++ frees) scope C s₀ H₀ fp) elt te)
    (hsw : swapsWith (.ListComp elt [⟨tg, iter, ifs, 0⟩] scope pos) (some (.Name x pos')) spos.line X.env = pure true := by with_unfolding_all rfl) (hs : ∀ x, foldedSetIterable iter X.env x = pure x := by intro _; rfl) :
    PS X (.Assign [.Name x pos'] (.ListComp elt [⟨tg, iter, ifs, 0⟩] scope pos) spos) (tAsg (tComp wi tgs.length js g tc te) (gName i)) := by
  intro pins s σ H D I h
  obtain ⟨k1, k2, k3, k4, k5, k6, k7⟩ := compOk_parts hok
  rw [exec_Assign_Name_used _ _ _ _ hsw]
  refine wpAny_bind (wpAny_standAt (wpAny_bind ?_))
  show wpAny _ X.A (do let _ ← comprehension (.ListComp elt [⟨tg, iter, ifs, 0⟩] scope pos) scope X.env _ (newList []) false (eval iter X.env) (some (assign (.Name x pos') X.env))) _ _ s
  refine wpAny_bind (wpAny_mono (wpAny_comprehension_free (use := some (assign (.Name x pos') X.env)) (Q := fun _ s' => SP X pins D .next s') rfl hs (comp_hfree I.ok hsc hok) k1 k4
    (thn (hp pins s σ H _ I h) fun v s1 h1 => thn h1 fun itv s2 h2 => ?_)) (fun _ s' hq => wpAny_pure (wpAny_pure hq)) fun _ _ e => e)
  obtain ⟨it, fp, tn, J, H2, e, I2, T, st2, f2, hw⟩ := h2
  subst e
  refine comp_block (RR := fun acc C => compPost (model X.prog X.w) X.A X.xe (some (assign (.Name x pos') X.env)) (fun _ s' => SP X pins D .next s') acc C) I2 T st2 f2 hc hsc hok hg hi he hw ?_
  intro D' C s' H' m I' q fC hn
  obtain ⟨c0, c1, c2, c3, c4, c5⟩ := fC
  show wpAny _ X.A (assign (.Name x pos') X.env (.ref D')) _ _ _
  refine wpAny_assign_Name (store_ok2 (v := V.ref D') I' hN hx (.inl hl) rfl (fun s3 I3 hb => ?_) (.inr hl))
  obtain ⟨a, sb, ha⟩ := hb
  have hCa : C ≠ a := by
    rcases ha with z | z
    · rw [z]; exact c1
    · exact (c4 x a z).symm
  refine ⟨m, hn.sameBut sb hCa, fun h' hs' => ⟨_, H', I3.turned (t' := s3.toks) (fun b o hb e => hs'.extBut b o hb e) c0 c1 c3 c4 c5, q⟩⟩
end
end L2

namespace L2
open PySem PySem.Spec PyProof.Rows
inductive KT where
  | int (i : Int) | tup (l : List KT)
noncomputable instance : DecidableEq KT := fun _ _ => Classical.propDecidable _
noncomputable def leafH : KT → Int
  | .int i => hashInt i
  | .tup _ => 0
noncomputable def hK : Nat → KT → Int
  | n + 1, .tup ks => reduceHash (Builtin.Tuple.tupleHashOf (ks.map (hK n)))
  | _, k => leafH k
noncomputable def entsK : List KT → List Addr → List Value → List DictEntry
  | k :: ks, a :: as, u :: us => ⟨hK 8 k, .ref a, u⟩ :: entsK ks as us
  | _, _, _ => []
noncomputable def dictφ (a : Addr) (ks : List KT) (as : List Addr) (vs : List V) : Heap → Prop := fun h =>
  ∃ us, Vals vs us ∧ ∃ o es ep, h.get? a = some o ∧ o.ExactDict ∧ o.data = .dict es ep ∧ es.toList = entsK ks as us
end L2

namespace L2
open PySem PySem.Spec PyProof.Rows

inductive D where
  | non | bl (b : Bool) | int (i : Int) | str (x : Str) | tup (ds : List D) | lst (ds : List D) | obj (c : Str) (ns : List Str) (ds : List D)
  /-- an exception of an own class -/
  | exc (c : Str) (ns : List Str) (ds : List D)
  deriving Inhabited

theorem Same.tup {K : PySem.W.Frag} {H H' : Hp} {a : Addr} {xs : List V} (e : Same H H') (h : SqT K H a xs) : SqT K H' a xs := by
  rcases h with (h | ⟨o, h⟩) | h
  · exact .inl (.inl (e _ _ h))
  · exact .inl (.inr ⟨o, e _ _ h⟩)
  · exact .inr h

noncomputable def ClsAt (K : PySem.W.Frag) (c : Str) (C : Addr) : Prop := PySem.W.nsIn K mainGlobals c = some (some (.ref C))
theorem ClsAt.one {K : PySem.W.Frag} {c : Str} {C C' : Addr} (h : ClsAt K c C) (h' : ClsAt K c C') : C' = C := by
  have := h.symm.trans h'
  cases this; rfl
noncomputable def Xe (C a : Addr) (od : Option Addr) : Heap → Prop := fun h => ∃ fs, h.get? a = some { cls := .ref C, dict := od, data := .fields fs }
noncomputable def Xd (dx : Addr) (fs : List (Str × V)) : Heap → Prop := fun h => ∃ mA, h.Ns1 dx mA ∧ ∀ f, RelO (fs.lookup f) (mA f)
noncomputable def XD (G : Hp) : Option Addr → List (Str × V) → Prop
  | none, fs => fs = []
  | some dx, fs => G dx = some (.ext (Xd dx fs))
theorem XD.mono {G G' : Hp} (e : Same G G') : ∀ {od : Option Addr} {fs : List (Str × V)}, XD G od fs → XD G' od fs
  | none, _, h => h
  | some _, _, h => e _ _ h
mutual
noncomputable def Rep (K : PySem.W.Frag) (G : Hp) : D → V → Prop
  | .non, v => v = .non
  | .bl b, v => v = .bl b
  | .int i, v => v = .int i
  | .str x, v => v = .str x
  | .tup ds, v => ∃ a vs, v = .ref a ∧ SqT K G a vs ∧ Reps K G ds vs
  | .lst ds, v => ∃ a vs, v = .ref a ∧ SqL K G a vs ∧ Reps K G ds vs
  | .obj c ns ds, v => ∃ C a dx vs, ClsAt K c C ∧ v = .ref a ∧ G a = some (.ins C dx (ns.zip vs)) ∧ ns.length = ds.length ∧ Reps K G ds vs
  | .exc c ns ds, v => ∃ C a od vs, ClsAt K c C ∧ v = .ref a ∧ G a = some (.ext (Xe C a od)) ∧ XD G od (ns.zip vs) ∧ ns.length = ds.length ∧ Reps K G ds vs
noncomputable def Reps (K : PySem.W.Frag) (G : Hp) : List D → List V → Prop
  | [], vs => vs = []
  | d :: r, vs => ∃ v vr, vs = v :: vr ∧ Rep K G d v ∧ Reps K G r vr
end
section
variable {K : PySem.W.Frag} {G G' : Hp}
mutual
theorem Rep.mono (e : Same G G') : ∀ (d : D) (v : V), Rep K G d v → Rep K G' d v
  | .non, _, h => by unfold Rep at h ⊢; exact h
  | .bl _, _, h => by unfold Rep at h ⊢; exact h
  | .int _, _, h => by unfold Rep at h ⊢; exact h
  | .str _, _, h => by unfold Rep at h ⊢; exact h
  | .tup ds, _, h => by
    unfold Rep at h ⊢
    obtain ⟨a, vs, h1, h2, h3⟩ := h
    exact ⟨a, vs, h1, e.tup h2, Reps.mono e ds vs h3⟩
  | .lst ds, _, h => by
    unfold Rep at h ⊢
    obtain ⟨a, vs, h1, h2, h3⟩ := h
    exact ⟨a, vs, h1, e.seq h2, Reps.mono e ds vs h3⟩
  | .obj C ns ds, _, h => by
    unfold Rep at h ⊢
    obtain ⟨C, a, dx, vs, h0, h1, h2, h4, h3⟩ := h
    exact ⟨C, a, dx, vs, h0, h1, e _ _ h2, h4, Reps.mono e ds vs h3⟩
  | .exc C ns ds, _, h => by
    unfold Rep at h ⊢
    obtain ⟨C, a, od, vs, h0, h1, h2, h5, h4, h3⟩ := h
    exact ⟨C, a, od, vs, h0, h1, e _ _ h2, h5.mono e, h4, Reps.mono e ds vs h3⟩
theorem Reps.mono (e : Same G G') : ∀ (ds : List D) (vs : List V), Reps K G ds vs → Reps K G' ds vs
  | [], _, h => by unfold Reps at h ⊢; exact h
  | d :: r, _, h => by
    unfold Reps at h ⊢
    obtain ⟨v, vr, h1, h2, h3⟩ := h
    exact ⟨v, vr, h1, Rep.mono e d v h2, Reps.mono e r vr h3⟩
end
theorem rep_non {v : V} : Rep K G .non v ↔ v = .non := by unfold Rep; exact Iff.rfl
theorem rep_bl {b : Bool} {v : V} : Rep K G (.bl b) v ↔ v = .bl b := by unfold Rep; exact Iff.rfl
theorem rep_int {i : Int} {v : V} : Rep K G (.int i) v ↔ v = .int i := by unfold Rep; exact Iff.rfl
theorem rep_str {x : Str} {v : V} : Rep K G (.str x) v ↔ v = .str x := by unfold Rep; exact Iff.rfl
theorem rep_tup {ds : List D} {v : V} : Rep K G (.tup ds) v ↔ ∃ a vs, v = .ref a ∧ SqT K G a vs ∧ Reps K G ds vs := by
  constructor <;> (intro h; unfold Rep at *; exact h)
theorem rep_lst {ds : List D} {v : V} : Rep K G (.lst ds) v ↔ ∃ a vs, v = .ref a ∧ SqL K G a vs ∧ Reps K G ds vs := by
  constructor <;> (intro h; unfold Rep at *; exact h)
theorem reps_nil {vs : List V} : Reps K G [] vs ↔ vs = [] := by unfold Reps; exact Iff.rfl
theorem reps_cons {d : D} {r : List D} {vs : List V} : Reps K G (d :: r) vs ↔ ∃ v vr, vs = v :: vr ∧ Rep K G d v ∧ Reps K G r vr := by
  rw [Reps]
theorem Reps.length : ∀ {ds : List D} {vs : List V}, Reps K G ds vs → ds.length = vs.length
  | [], _, h => by rw [reps_nil] at h; rw [h]; rfl
  | d :: r, _, h => by
    rw [reps_cons] at h
    obtain ⟨v, vr, rfl, _, h3⟩ := h
    rw [List.length_cons, List.length_cons, Reps.length h3]
theorem Reps.get : ∀ {ds : List D} {vs : List V} {i : Nat} {d : D}, Reps K G ds vs → ds[i]? = some d → ∃ v, vs[i]? = some v ∧ Rep K G d v
  | [], _, _, _, _, e => by simp at e
  | d :: r, _, 0, _, h, e => by
    rw [reps_cons] at h
    obtain ⟨v, vr, rfl, h2, h3⟩ := h
    simp at e; subst e
    exact ⟨v, rfl, h2⟩
  | d :: r, _, i + 1, _, h, e => by
    rw [reps_cons] at h
    obtain ⟨v, vr, rfl, h2, h3⟩ := h
    obtain ⟨u, e1, e2⟩ := Reps.get h3 (by simpa using e)
    exact ⟨u, by simpa using e1, e2⟩
theorem Reps.snoc : ∀ {ds : List D} {vs : List V} {d : D} {v : V}, Reps K G ds vs → Rep K G d v → Reps K G (ds ++ [d]) (vs ++ [v])
  | [], _, d, v, h, r => by
    rw [reps_nil] at h; subst h
    exact reps_cons.mpr ⟨v, [], rfl, r, reps_nil.mpr rfl⟩
  | e :: t, _, d, v, h, r => by
    rw [reps_cons] at h
    obtain ⟨u, vr, rfl, h2, h3⟩ := h
    exact reps_cons.mpr ⟨u, vr ++ [v], rfl, h2, h3.snoc r⟩
theorem Reps.append : ∀ {ds es : List D} {vs us : List V}, Reps K G ds vs → Reps K G es us → Reps K G (ds ++ es) (vs ++ us)
  | [], _, _, _, h, r => by rw [reps_nil] at h; subst h; exact r
  | e :: t, _, _, us, h, r => by
    rw [reps_cons] at h
    obtain ⟨u, vr, rfl, h2, h3⟩ := h
    exact reps_cons.mpr ⟨u, vr ++ us, rfl, h2, h3.append r⟩
theorem Reps.take : ∀ {ds : List D} {vs : List V} (n : Nat), Reps K G ds vs → Reps K G (ds.take n) (vs.take n)
  | _, _, 0, _ => by rw [List.take_zero, List.take_zero]; exact reps_nil.mpr rfl
  | [], _, _ + 1, h => by rw [reps_nil] at h; subst h; exact reps_nil.mpr rfl
  | e :: t, _, n + 1, h => by
    rw [reps_cons] at h
    obtain ⟨u, vr, rfl, h2, h3⟩ := h
    exact reps_cons.mpr ⟨u, vr.take n, rfl, h2, h3.take n⟩
theorem Reps.drop : ∀ {ds : List D} {vs : List V} (n : Nat), Reps K G ds vs → Reps K G (ds.drop n) (vs.drop n)
  | _, _, 0, h => h
  | [], _, _ + 1, h => by rw [reps_nil] at h; subst h; exact reps_nil.mpr rfl
  | e :: t, _, n + 1, h => by
    rw [reps_cons] at h
    obtain ⟨u, vr, rfl, h2, h3⟩ := h
    exact h3.drop n
theorem Reps.set : ∀ {ds : List D} {vs : List V} {d : D} {v : V} (i : Nat), Reps K G ds vs → Rep K G d v → Reps K G (ds.set i d) (vs.set i v)
  | [], _, _, _, _, h, _ => by rw [reps_nil] at h; subst h; exact reps_nil.mpr rfl
  | e :: t, _, d, v, 0, h, r => by
    rw [reps_cons] at h
    obtain ⟨u, vr, rfl, h2, h3⟩ := h
    exact reps_cons.mpr ⟨v, vr, rfl, r, h3⟩
  | e :: t, _, d, v, i + 1, h, r => by
    rw [reps_cons] at h
    obtain ⟨u, vr, rfl, h2, h3⟩ := h
    exact reps_cons.mpr ⟨u, vr.set i v, rfl, h2, h3.set i r⟩
end

structure Step (G H G' H' : Hp) : Prop where
  hh : Same H H'
  gg : Same G G'
  sub : Same G' H'
  new : ∀ a, H a ≠ none → G' a = G a
theorem Step.refl {G H : Hp} (h : Same G H) : Step G H G H := ⟨Same.refl _, Same.refl _, h, fun _ _ => rfl⟩
theorem Step.trans {G H G1 H1 G2 H2 : Hp} (a : Step G H G1 H1) (b : Step G1 H1 G2 H2) : Step G H G2 H2 :=
  ⟨a.hh.trans b.hh, a.gg.trans b.gg, b.sub, fun c hc => (b.new c (fun z => hc (a.hh.free z))).trans (a.new c hc)⟩
theorem Same.new {H : Hp} {p : Addr} {o : HO} (hp : H p = none) : Same H (upd H p o) := fun b u e => by rw [upd_ne (ne_of_none e hp)]; exact e
theorem Step.laid {G H : Hp} {p : Addr} {o : HO} (s : Same G H) (hp : H p = none) : Step G H (upd G p o) (upd H p o) := by
  refine ⟨Same.new hp, Same.new (s.free hp), fun b u e => ?_, fun a ha => ?_⟩
  · by_cases hb : b = p
    · subst hb; rw [upd_same] at e ⊢; exact e
    · rw [upd_ne hb] at e ⊢; exact s b u e
  · exact upd_ne (fun z : a = p => ha (by rw [z]; exact hp))
theorem Step.own {G H : Hp} {p : Addr} {o : HO} (s : Same G H) (hp : H p = none) : Step G H G (upd H p o) :=
  ⟨Same.new hp, Same.refl _, s.trans (Same.new hp), fun _ _ => rfl⟩
theorem Step.frz {G H G' H' : Hp} {p : Addr} {o : HO} (s : Step G H G' H') (hp : H p = none) (h' : H' p = some o) (g' : G' p = none) : Step G H (upd G' p o) H' := by
  refine ⟨s.hh, s.gg.trans (Same.new g'), fun b u e => ?_, fun a ha => ?_⟩
  · by_cases hb : b = p
    · subst hb; rw [upd_same] at e; rw [h']; exact e
    · rw [upd_ne hb] at e; exact s.sub b u e
  · rw [upd_ne (fun z : a = p => ha (by rw [z]; exact hp))]; exact s.new a ha

inductive B where
  | no | fz (d : D) | ow (ds : List D)
  /-- a dict of its own: keys and values -/
  | od (kvs : List (D × D))
  deriving Inhabited
noncomputable def ktDs (f : D → Option KT) : List D → Option (List KT)
  | [] => some []
  | d :: r => (f d).bind fun k => (ktDs f r).map fun ks => k :: ks
noncomputable def ktD : Nat → D → Option KT
  | _, .int i => some (.int i)
  | _, .bl b => some (.int (if b then 1 else 0))
  | n + 1, .tup ds => (ktDs (ktD n) ds).map .tup
  | _, _ => none
inductive ODs (K : PySem.W.Frag) (G : Hp) : List (D × D) → List KT → List Addr → List V → Prop
  | nil : ODs K G [] [] [] []
  | cons {d e : D} {k : KT} {a : Addr} {v : V} {kvs : List (D × D)} {ks : List KT} {as : List Addr} {vs : List V} : ktD 8 d = some k → Rep K G d (.ref a) → Rep K G e v → ODs K G kvs ks as vs → ODs K G ((d, e) :: kvs) (k :: ks) (a :: as) (v :: vs)
theorem ODs.mono {K : PySem.W.Frag} {G G' : Hp} (h : Same G G') : ∀ {kvs ks as vs}, ODs K G kvs ks as vs → ODs K G' kvs ks as vs
  | _, _, _, _, .nil => .nil
  | _, _, _, _, .cons h1 h2 h3 h4 => .cons h1 (h2.mono h) (h3.mono h) (ODs.mono h h4)
inductive RB (K : PySem.W.Frag) (H0 G H : Hp) : Option V → B → Prop where
  | no {o : Option V} : RB K H0 G H o .no
  | fz {v : V} {d : D} : Rep K G d v → RB K H0 G H (some v) (.fz d)
  | ow {a : Addr} {vs : List V} {ds : List D} : H a = some (.lst vs) → G a = none → H0 a = none → Reps K G ds vs → RB K H0 G H (some (.ref a)) (.ow ds)
  | od {a : Addr} {kvs : List (D × D)} {ks : List KT} {as : List Addr} {vs : List V} : H a = some (.ext (dictφ a ks as vs)) → G a = none → H0 a = none → ODs K G kvs ks as vs → ks.Nodup → (a == sysModules) = false → RB K H0 G H (some (.ref a)) (.od kvs)
structure Good (K : PySem.W.Frag) (G0 H0 G H : Hp) (σ : St) (ρ : List B) : Prop where
  st : Step G0 H0 G H
  vals : Paired (RB K H0 G H) σ ρ
  apart : ∀ (i j : Nat) (a : Addr) (ds es : List D), ρ[i]? = some (.ow ds) → ρ[j]? = some (.ow es) → σ[i]? = some (some (.ref a)) → σ[j]? = some (some (.ref a)) → i = j
theorem Paired.get {α β : Type} {F : α → β → Prop} : ∀ {l : List α} {r : List β} {i : Nat} {b : β}, Paired F l r → r[i]? = some b → ∃ a, l[i]? = some a ∧ F a b
  | _, _, _, _, .nil, e => by simp at e
  | _, _, 0, _, .cons h _, e => by simp at e; subst e; exact ⟨_, rfl, h⟩
  | _, _, i + 1, b, .cons _ t, e => by
    obtain ⟨a, h1, h2⟩ := Paired.get (i := i) (b := b) t (by simpa using e)
    exact ⟨a, by simpa using h1, h2⟩
theorem Paired.set {α β : Type} {F : α → β → Prop} {a : α} {b : β} (h : F a b) : ∀ {l : List α} {r : List β} (i : Nat), Paired F l r → Paired F (l.set i a) (r.set i b)
  | _, _, _, .nil => .nil
  | _, _, 0, .cons _ t => .cons h t
  | _, _, i + 1, .cons q t => .cons q (Paired.set h i t)
theorem RB.step {K : PySem.W.Frag} {H0 G H G' H' : Hp} {o : Option V} {b : B} (r : RB K H0 G H o b) (s : Step G H G' H') : RB K H0 G' H' o b := by
  cases r with
  | no => exact .no
  | fz q => exact .fz (q.mono s.gg)
  | ow h1 h2 h3 h4 => exact .ow (s.hh _ _ h1) ((s.new _ (by rw [h1]; exact fun z => nomatch z)).trans h2) h3 (h4.mono s.gg)
  | od h1 h2 h3 h4 h5 h6 => exact .od (s.hh _ _ h1) ((s.new _ (by rw [h1]; exact fun z => nomatch z)).trans h2) h3 (h4.mono s.gg) h5 h6
theorem Good.step {K : PySem.W.Frag} {G0 H0 G H G' H' : Hp} {σ : St} {ρ : List B} (g : Good K G0 H0 G H σ ρ) (s : Step G H G' H') : Good K G0 H0 G' H' σ ρ :=
  ⟨g.st.trans s, Paired.mapP g.vals fun _ _ r => r.step s, g.apart⟩
theorem Good.sub {K : PySem.W.Frag} {G0 H0 G H : Hp} {σ : St} {ρ : List B} (g : Good K G0 H0 G H σ ρ) : Same G H := g.st.sub

noncomputable abbrev Ef := List B → Option D
noncomputable def tF (K : PySem.W.Frag) (f : Ef) : TE := fun σ H Q => ∃ G0 H0 G ρ d, Good K G0 H0 G H σ ρ ∧ f ρ = some d ∧ ∀ v H' G', Step G H G' H' → Rep K G' d v → Q v H'
noncomputable def PF (X : Cx) (e : Expr) (f : Ef) : Prop := PE X e (tF X.K f)
theorem PE.to {X : Cx} {e : Expr} {t : TE} {f : Ef} (h : PE X e t) (imp : ∀ σ H Q, tF X.K f σ H Q → t σ H Q) : PF X e f := fun pins s σ H Q I q => h pins s σ H Q I (imp σ H Q q)
noncomputable abbrev Lf := List B → Option (List D)
noncomputable def tFr (K : PySem.W.Frag) (f : Lf) : TE := fun σ H Q => ∃ G0 H0 G ρ ds, Good K G0 H0 G H σ ρ ∧ f ρ = some ds ∧ ∀ a vs H' G', Step G H G' H' → H a = none → H' a = some (.lst vs) → G' a = none → Reps K G' ds vs → Q (.ref a) H'
noncomputable def PFr (X : Cx) (e : Expr) (f : Lf) : Prop := PE X e (tFr X.K f)
theorem PE.toR {X : Cx} {e : Expr} {t : TE} {f : Lf} (h : PE X e t) (imp : ∀ σ H Q, tFr X.K f σ H Q → t σ H Q) : PFr X e f := fun pins s σ H Q I q => h pins s σ H Q I (imp σ H Q q)
noncomputable def eL (f : Lf) : Ef := fun ρ => (f ρ).map .lst
theorem pf_l {X : Cx} {e : Expr} {f : Lf} (h : PFr X e f) : PF X e (eL f) := by
  refine PE.to h ?_
  rintro σ H Q ⟨G0, H0, G, ρ, d, good, hf, k⟩
  unfold eL at hf
  obtain ⟨ds, h1, rfl⟩ := Option.map_eq_some_iff.mp hf
  refine ⟨G0, H0, G, ρ, ds, good, h1, fun a vs H' G' s hn ha ga rs => ?_⟩
  exact k _ _ (upd G' a (.lst vs)) (s.frz hn ha ga) (rep_lst.mpr ⟨a, vs, rfl, .of upd_same, rs.mono (Same.new ga)⟩)
noncomputable abbrev Tf := List B → Option Bool
noncomputable def tFT (K : PySem.W.Frag) (f : Tf) : TT := fun σ H Q => ∃ G0 H0 G ρ b, Good K G0 H0 G H σ ρ ∧ f ρ = some b ∧ ∀ H' G', Step G H G' H' → Q b H'
noncomputable def PFT (X : Cx) (e : Expr) (f : Tf) : Prop := PT X e (tFT X.K f)
theorem PT.to {X : Cx} {e : Expr} {t : TT} {f : Tf} (h : PT X e t) (imp : ∀ σ H Q, tFT X.K f σ H Q → t σ H Q) : PFT X e f := fun pins s σ H Q I q => h pins s σ H Q I (imp σ H Q q)
noncomputable def PFW (X : Cx) (e : Expr) (f : Tf) : Prop := PW X e (tFT X.K f)
noncomputable def tFA (K : PySem.W.Frag) (f : Lf) : TA := fun σ H Q => ∃ G0 H0 G ρ ds, Good K G0 H0 G H σ ρ ∧ f ρ = some ds ∧ ∀ vs H' G', Step G H G' H' → Reps K G' ds vs → Q vs H'
noncomputable def PFA (X : Cx) (es : List Expr) (f : Lf) : Prop := PA X es (tFA X.K f)
theorem PA.to {X : Cx} {es : List Expr} {t : TA} {f : Lf} (h : PA X es t) (imp : ∀ σ H Q, tFA X.K f σ H Q → t σ H Q) : PFA X es f := fun pos pins s σ H Q I q => h pos pins s σ H Q I (imp σ H Q q)

section
variable {X : Cx} {a b c e : Expr} {es : List Expr} {fa fb fc : Ef} {ga gb : Lf} {ta tb : Tf} {pos : Pos}
noncomputable def getB (ρ : List B) (i : Nat) : Option D := match ρ[i]? with | some (.fz d) => some d | _ => none
noncomputable def eV (i : Nat) : Ef := fun ρ => getB ρ i
theorem getB_good {K : PySem.W.Frag} {G0 H0 G H : Hp} {σ : St} {ρ : List B} {i : Nat} {d : D} (g : Good K G0 H0 G H σ ρ) (h : getB ρ i = some d) : ∃ v, σ[i]? = some (some v) ∧ Rep K G d v := by
  unfold getB at h
  split at h
  · rename_i d' e
    cases h
    obtain ⟨o, h1, r⟩ := Paired.get g.vals e
    cases r with
    | fz r => exact ⟨_, h1, r⟩
  · cases h
theorem pf_v (i : Nat) {x : Str} (hN : X.N[i]? = some x := by rfl) (hv : Vis X.env.scope x := by first | exact Or.inl rfl | exact Or.inr (Or.inl rfl) | exact Or.inr (Or.inr rfl)) (hd : (x == ("__debug__" : Str)) = false := by decide) (hcd : (x == ("__classdict__" : Str)) = false := by decide) : PF X (.Name x pos) (eV i) := by
  refine PE.to (pe_var hN hv hd hcd) ?_
  rintro σ H Q ⟨G0, H0, G, ρ, d, good, hf, k⟩
  obtain ⟨v, h1, r⟩ := getB_good good hf
  exact ⟨v, h1, k v H G (.refl good.sub) r⟩
noncomputable def eC (d : D) : Ef := fun _ => some d
theorem pf_cst {v : V} {d : D} (h : PE X e (tC v)) (r : ∀ G, Rep X.K G d v) : PF X e (eC d) := by
  refine PE.to h ?_
  rintro σ H Q ⟨G0, H0, G, ρ, d', good, hf, k⟩
  cases hf
  exact k v H G (.refl good.sub) (r G)
theorem pf_int {i : Int} {j : Nat} : PF X (.Constant (.int i) j pos) (eC (.int i)) := pf_cst pe_int fun _ => rep_int.mpr rfl
theorem pf_bl {i : Bool} {j : Nat} : PF X (.Constant (.bool i) j pos) (eC (.bl i)) := pf_cst pe_bl fun _ => rep_bl.mpr rfl
theorem pf_str {x : Str} {j : Nat} : PF X (.Constant (.str x) j pos) (eC (.str x)) := pf_cst pe_str fun _ => rep_str.mpr rfl
noncomputable def eI (C : Int → Int → Bool) (g : Int → Int → Int) (fa fb : Ef) : Ef := fun ρ => (fa ρ).bind fun x => (fb ρ).bind fun y => match x, y with | .int i, .int j => if C i j then some (.int (g i j)) else none | _, _ => none
theorem eI_inv {C : Int → Int → Bool} {g : Int → Int → Int} {ρ : List B} {d : D} (h : eI C g fa fb ρ = some d) : ∃ i j, fa ρ = some (.int i) ∧ fb ρ = some (.int j) ∧ C i j = true ∧ d = .int (g i j) := by
  unfold eI at h
  obtain ⟨x, h1, h⟩ := Option.bind_eq_some_iff.mp h
  obtain ⟨y, h2, h⟩ := Option.bind_eq_some_iff.mp h
  cases x with
  | int i =>
    cases y with
    | int j =>
      dsimp only at h
      split at h
      · rename_i hc; cases h; exact ⟨i, j, h1, h2, hc, rfl⟩
      · cases h
    | _ => cases h
  | _ => cases h
theorem pf_i {op : Operator} {C : Int → Int → Bool} {P : Int → Int → Prop} {g : Int → Int → Int} (ho : OpR X (binaryOp op) (rI P fun i j => .int (g i j))) (hP : ∀ i j, C i j = true → P i j) (ha : PF X a fa) (hb : PF X b fb) : PF X (.BinOp a op b pos) (eI C g fa fb) := by
  refine PE.to (pe_op ho ha hb) ?_
  rintro σ H Q ⟨G0, H0, G, ρ, d, good, hf, k⟩
  obtain ⟨i, j, h1, h2, hc, rfl⟩ := eI_inv hf
  refine ⟨G0, H0, G, ρ, _, good, h1, fun x H1 G1 s1 r1 => ⟨G0, H0, G1, ρ, _, good.step s1, h2, fun y H2 G2 s2 r2 => ?_⟩⟩
  exact ⟨i, j, rep_int.mp r1, rep_int.mp r2, hP i j hc, k _ _ G2 (s1.trans s2) (rep_int.mpr rfl)⟩
theorem pf_i0 {op : Operator} {g : Int → Int → Int} (ho : OpR X (binaryOp op) (rI0 fun i j => .int (g i j))) (ha : PF X a fa) (hb : PF X b fb) : PF X (.BinOp a op b pos) (eI (fun _ _ => true) g fa fb) := by
  refine PE.to (pe_op ho ha hb) ?_
  rintro σ H Q ⟨G0, H0, G, ρ, d, good, hf, k⟩
  obtain ⟨i, j, h1, h2, hc, rfl⟩ := eI_inv hf
  refine ⟨G0, H0, G, ρ, _, good, h1, fun x H1 G1 s1 r1 => ⟨G0, H0, G1, ρ, _, good.step s1, h2, fun y H2 G2 s2 r2 => ?_⟩⟩
  exact ⟨i, j, rep_int.mp r1, rep_int.mp r2, k _ _ G2 (s1.trans s2) (rep_int.mpr rfl)⟩
noncomputable abbrev eAdd := eI (fun _ _ => true) (fun i j => i + j)
noncomputable abbrev eSub := eI (fun _ _ => true) (fun i j => i - j)
noncomputable def cMul (i j : Int) : Bool := (decide (-(2 ^ 64) < i) && decide (i < 2 ^ 64)) || (decide (-(2 ^ 64) < j) && decide (j < 2 ^ 64))
noncomputable abbrev eMul := eI cMul (fun i j => i * j)
noncomputable def cDiv (_ j : Int) : Bool := decide (0 < j) && decide (j < 1073741824)
noncomputable abbrev eDiv := eI cDiv (fun i j => i / j)
noncomputable abbrev eMod := eI (fun _ j => decide (0 < j)) (fun i j => i % j)
noncomputable def cPow (i j : Int) : Bool := decide (0 ≤ j) && decide (j ≤ 1000000) && decide (i.natAbs < 2 ^ 64)
noncomputable abbrev ePow := eI cPow (fun i j => i ^ j.toNat)
theorem pf_add (ha : PF X a fa) (hb : PF X b fb) : PF X (.BinOp a .Add b pos) (eAdd fa fb) := pf_i0 op_add ha hb
theorem pf_sub (ha : PF X a fa) (hb : PF X b fb) : PF X (.BinOp a .Sub b pos) (eSub fa fb) := pf_i0 op_sub ha hb
theorem pf_mul (ha : PF X a fa) (hb : PF X b fb) : PF X (.BinOp a .Mult b pos) (eMul fa fb) := pf_i op_mul (fun i j h => by
  unfold cMul at h
  simp only [Bool.or_eq_true, Bool.and_eq_true, decide_eq_true_eq] at h
  exact h) ha hb
theorem pf_div (ha : PF X a fa) (hb : PF X b fb) : PF X (.BinOp a .FloorDiv b pos) (eDiv fa fb) := pf_i op_fdiv (fun i j h => by
  unfold cDiv at h
  simp only [Bool.and_eq_true, decide_eq_true_eq] at h
  exact h) ha hb
theorem pf_mod (ha : PF X a fa) (hb : PF X b fb) : PF X (.BinOp a .Mod b pos) (eMod fa fb) := pf_i op_mod (fun i j h => of_decide_eq_true h) ha hb
theorem cPow_ok {i j : Int} (h : cPow i j = true) : CPow i j := by
  unfold cPow at h
  simp only [Bool.and_eq_true, decide_eq_true_eq] at h
  exact ⟨h.1.1, h.1.2, h.2⟩
theorem pf_pow (ha : PF X a fa) (hb : PF X b fb) : PF X (.BinOp a .Pow b pos) (ePow fa fb) := pf_i op_pow (fun i j h => cPow_ok h) ha hb
noncomputable def eB2 (g : D → D → Option Bool) (fa fb : Ef) : Tf := fun ρ => (fa ρ).bind fun x => (fb ρ).bind fun y => g x y
noncomputable def gLt : D → D → Option Bool | .int i, .int j => some (decide (i < j)) | _, _ => none
noncomputable def gGt : D → D → Option Bool | .int i, .int j => some (decide (j < i)) | _, _ => none
noncomputable def gEq : D → D → Option Bool
  | .int i, .int j => some (decide (i = j))
  | .bl i, .bl j => some (decide (i = j))
  | .str i, .str j => some (decide (i = j))
  | _, _ => none
noncomputable def CmR (X : Cx) (op : CmpOp) (g : D → D → Option Bool) : Prop := ∃ r : R2, OpR X (compareOp op) r ∧ ∀ (d d' : D) (k : Bool) (G H : Hp) (x y : V) (Q : VK), g d d' = some k → Same G H → Rep X.K G d x → Rep X.K G d' y → (∀ H' G', Step G H G' H' → Q (.bl k) H') → r x y H Q
theorem cm_int {op : CmpOp} {p : Int → Int → Bool} {g : D → D → Option Bool} (ho : OpR X (compareOp op) (rI0 fun i j => .bl (p i j))) (hg : ∀ d d' k, g d d' = some k → ∃ i j, d = .int i ∧ d' = .int j ∧ k = p i j) : CmR X op g := by
  refine ⟨_, ho, fun d d' k G H x y Q h s rx ry q => ?_⟩
  obtain ⟨i, j, rfl, rfl, rfl⟩ := hg d d' k h
  exact ⟨i, j, rep_int.mp rx, rep_int.mp ry, q H G (.refl s)⟩
theorem cm_lt : CmR X .Lt gLt := cm_int op_lt fun d d' k h => by unfold gLt at h; split at h <;> cases h; exact ⟨_, _, rfl, rfl, rfl⟩
theorem cm_gt : CmR X .Gt gGt := cm_int op_gt fun d d' k h => by unfold gGt at h; split at h <;> cases h; exact ⟨_, _, rfl, rfl, rfl⟩
theorem gEq_sc {d d' : D} {k : Bool} {K : PySem.W.Frag} {G : Hp} {x y : V} (h : gEq d d' = some k) (rx : Rep K G d x) (ry : Rep K G d' y) : scal x y = true ∧ decide (x = y) = k := by
  unfold gEq at h
  split at h
  · cases h; rw [rep_int] at rx ry; subst rx; subst ry; exact ⟨rfl, by simp⟩
  · cases h; rw [rep_bl] at rx ry; subst rx; subst ry; exact ⟨rfl, by simp⟩
  · cases h; rw [rep_str] at rx ry; subst rx; subst ry; exact ⟨rfl, by simp⟩
  · cases h
theorem cm_eq : CmR X .Eq gEq := ⟨_, op_eq, fun d d' k G H x y Q h s rx ry q => by
  obtain ⟨h1, h2⟩ := gEq_sc h rx ry
  exact ⟨h1, by rw [h2]; exact q H G (.refl s)⟩⟩
theorem eB2_inv {g : D → D → Option Bool} {ρ : List B} {k : Bool} (h : eB2 g fa fb ρ = some k) : ∃ x y, fa ρ = some x ∧ fb ρ = some y ∧ g x y = some k := by
  unfold eB2 at h
  obtain ⟨x, h1, h⟩ := Option.bind_eq_some_iff.mp h
  obtain ⟨y, h2, h⟩ := Option.bind_eq_some_iff.mp h
  exact ⟨x, y, h1, h2, h⟩
theorem pt_cmpF {op : CmpOp} {g : D → D → Option Bool} (hc : CmR X op g) (ha : PF X a fa) (hb : PF X b fb) (hm : behindInMarks op b = false := by first | exact nomark _ | (with_unfolding_all rfl)) : PFT X (.Compare a [op] [b] pos) (eB2 g fa fb) := by
  obtain ⟨r, ho, hr⟩ := hc
  refine PT.to (pt_cmpR ho ha hb hm) ?_
  rintro σ H Q ⟨G0, H0, G, ρ, c, good, hf, k⟩
  obtain ⟨x, y, h1, h2, h3⟩ := eB2_inv hf
  refine ⟨G0, H0, G, ρ, _, good, h1, fun u H1 G1 s1 r1 => ⟨G0, H0, G1, ρ, _, good.step s1, h2, fun v H2 G2 s2 r2 => ?_⟩⟩
  exact hr x y c G2 H2 u v _ h3 s2.sub (r1.mono s2.gg) r2 fun H' G' s3 => ⟨c, rfl, k _ G' ((s1.trans s2).trans s3)⟩
noncomputable def tB1 (f : Ef) : Tf := fun ρ => (f ρ).bind fun x => match x with | .bl k => some k | _ => none
theorem tB1_inv {f : Ef} {ρ : List B} {k : Bool} (h : tB1 f ρ = some k) : f ρ = some (.bl k) := by
  unfold tB1 at h
  obtain ⟨x, h1, h⟩ := Option.bind_eq_some_iff.mp h
  split at h
  · cases h; exact h1
  · cases h
theorem pt_valF (ha : PF X a fa) (he : ∀ whole, isTrue a X.env whole = (do let v ← whole; standAt a.pos; holding [v] (truthy v)) := by intro _; rfl) : PFT X a (tB1 fa) := by
  refine PT.to (pt_val ha he) ?_
  rintro σ H Q ⟨G0, H0, G, ρ, c, good, hf, k⟩
  exact ⟨G0, H0, G, ρ, _, good, tB1_inv hf, fun u H1 G1 s1 r1 => ⟨c, rep_bl.mp r1, k _ G1 s1⟩⟩
noncomputable def tNotF (t : Tf) : Tf := fun ρ => (t ρ).map (!·)
noncomputable def tOrF (t u : Tf) : Tf := fun ρ => (t ρ).bind fun c => if c = true then some true else u ρ
theorem pt_notF (ha : PFT X a ta) : PFT X (.UnaryOp .Not a pos) (tNotF ta) := by
  refine PT.to (pt_not ha) ?_
  rintro σ H Q ⟨G0, H0, G, ρ, c, good, hf, k⟩
  unfold tNotF at hf
  obtain ⟨c', h1, rfl⟩ := Option.map_eq_some_iff.mp hf
  exact ⟨G0, H0, G, ρ, _, good, h1, fun H1 G1 s1 => k _ G1 s1⟩
theorem PW.to {t : TT} {f : Tf} (h : PW X e t) (imp : ∀ σ H Q, tFT X.K f σ H Q → t σ H Q) : PFW X e f := fun whole pins s σ H Q I q => h whole pins s σ H Q I (imp σ H Q q)
theorem pw_or1F (ha : PFT X a ta) : PFW X (.BoolOp .Or [a] pos) ta := pw_or1 ha
theorem pw_orF {rest : List Expr} (ha : PFT X a ta) (hb : PFW X (.BoolOp .Or (b :: rest) pos) tb) : PFW X (.BoolOp .Or (a :: b :: rest) pos) (tOrF ta tb) := by
  refine PW.to (pw_or ha hb) ?_
  rintro σ H Q ⟨G0, H0, G, ρ, c, good, hf, k⟩
  unfold tOrF at hf
  obtain ⟨c', h1, hf⟩ := Option.bind_eq_some_iff.mp hf
  refine ⟨G0, H0, G, ρ, _, good, h1, fun H1 G1 s1 => ?_⟩
  split at hf
  · rename_i h; rw [if_pos h]; cases hf; exact k _ G1 s1
  · rename_i h; rw [if_neg h]; exact ⟨G0, H0, G1, ρ, c, good.step s1, hf, fun H2 G2 s2 => k _ G2 (s1.trans s2)⟩
theorem pt_w (h : PFW X e ta) : PFT X e ta := h.pt
noncomputable def aNil : Lf := fun _ => some []
noncomputable def aCons (f : Ef) (r : Lf) : Lf := fun ρ => (f ρ).bind fun d => (r ρ).map fun ds => d :: ds
theorem pa_nilF : PFA X [] aNil := by
  refine PA.to pa_nil ?_
  rintro σ H Q ⟨G0, H0, G, ρ, d, good, hf, k⟩
  cases hf
  exact k [] H G (.refl good.sub) (reps_nil.mpr rfl)
theorem aCons_inv {f : Ef} {r : Lf} {ρ : List B} {ds : List D} (h : aCons f r ρ = some ds) : ∃ d dr, f ρ = some d ∧ r ρ = some dr ∧ ds = d :: dr := by
  unfold aCons at h
  obtain ⟨d, h1, h⟩ := Option.bind_eq_some_iff.mp h
  obtain ⟨dr, h2, rfl⟩ := Option.map_eq_some_iff.mp h
  exact ⟨d, dr, h1, h2, rfl⟩
theorem pa_consF (ha : PF X e fa) (hr : PFA X es ga) (hs : starEach (e :: es) X.env = (false, eval e X.env) :: starEach es X.env := by rfl) : PFA X (e :: es) (aCons fa ga) := by
  refine PA.to (pa_cons ha hr hs) ?_
  rintro σ H Q ⟨G0, H0, G, ρ, ds, good, hf, k⟩
  obtain ⟨d, dr, h1, h2, rfl⟩ := aCons_inv hf
  refine ⟨G0, H0, G, ρ, _, good, h1, fun u H1 G1 s1 r1 => ⟨G0, H0, G1, ρ, _, good.step s1, h2, fun v H2 G2 s2 r2 => ?_⟩⟩
  exact k _ _ G2 (s1.trans s2) (reps_cons.mpr ⟨u, v, rfl, r1.mono s2.gg, r2⟩)
noncomputable abbrev lim : Nat := 100000
theorem lim_ok {n : Nat} (h : n ≤ lim) : n < sizeLine := Nat.lt_of_le_of_lt h (by decide)
noncomputable def okL (ds : List D) : Option (List D) := if ds.length ≤ lim then some ds else none
theorem okL_inv {ds es : List D} (h : okL ds = some es) : es = ds ∧ ds.length ≤ lim := by
  unfold okL at h
  split at h
  · rename_i q; cases h; exact ⟨rfl, q⟩
  · cases h
noncomputable def eTup (g : Lf) : Ef := fun ρ => ((g ρ).bind okL).map .tup
theorem pf_tup {k : Nat} (h : PFA X es ga) : PF X (.Tuple es k pos) (eTup ga) := by
  refine PE.to (pe_tup h) ?_
  rintro σ H Q ⟨G0, H0, G, ρ, d, good, hf, k⟩
  unfold eTup at hf
  obtain ⟨ds, h1, rfl⟩ := Option.map_eq_some_iff.mp hf
  obtain ⟨es, h1, h2⟩ := Option.bind_eq_some_iff.mp h1
  obtain ⟨rfl, h3⟩ := okL_inv h2
  refine ⟨G0, H0, G, ρ, _, good, h1, fun vs H1 G1 s1 r1 => ⟨by rw [← r1.length]; exact Nat.le_of_lt (lim_ok h3), fun p hp => ?_⟩⟩
  have s2 := Step.laid (o := .tup vs) s1.sub hp
  exact k _ _ _ (s1.trans s2) (rep_tup.mpr ⟨p, vs, rfl, .of upd_same, r1.mono s2.gg⟩)
noncomputable def lDisp (g : Lf) : Lf := fun ρ => (g ρ).bind okL
theorem pl_disp (h : PFA X es ga) : PFr X (.List es pos) (lDisp ga) := by
  refine PE.toR (pe_lst h) ?_
  rintro σ H Q ⟨G0, H0, G, ρ, d, good, hf, k⟩
  unfold lDisp at hf
  obtain ⟨es, h1, h2⟩ := Option.bind_eq_some_iff.mp hf
  obtain ⟨rfl, h3⟩ := okL_inv h2
  refine ⟨G0, H0, G, ρ, _, good, h1, fun vs H1 G1 s1 r1 => ⟨by rw [← r1.length]; exact Nat.le_of_lt (lim_ok h3), fun p hp => ?_⟩⟩
  exact k p vs _ G1 (s1.trans (Step.own s1.sub hp)) (s1.hh.free hp) upd_same (s1.sub.free hp) r1

noncomputable def atD (x y : D) : Option D := match x, y with
  | .tup ds, .int i => atI ds i
  | .lst ds, .int i => atI ds i
  | .str z, .int i => if z.length ≤ lim then (atI z.cps.toList i).map fun c => .str ⟨#[c]⟩ else none
  | _, _ => none
noncomputable def eIx (fa fb : Ef) : Ef := fun ρ => (fa ρ).bind fun x => (fb ρ).bind fun y => atD x y
theorem atI_reps {K : PySem.W.Frag} {G : Hp} {ds : List D} {vs : List V} {i : Int} {d : D} (r : Reps K G ds vs) (h : atI ds i = some d) : ∃ v, atI vs i = some v ∧ Rep K G d v := by
  unfold atI at h ⊢
  rw [r.length] at h
  obtain ⟨j, h1, h2⟩ := Option.bind_eq_some_iff.mp h
  obtain ⟨v, h3, h4⟩ := r.get h2
  exact ⟨v, by rw [h1]; exact h3, h4⟩
theorem pf_ix (ha : PF X a fa) (hb : PF X b fb) (hs : PlainIx b := by exact fun _ _ => rfl) : PF X (.Subscript a b pos) (eIx fa fb) := by
  refine PE.to (pe_ix ix_seq ha hb hs) ?_
  rintro σ H Q ⟨G0, H0, G, ρ, d, good, hf, k⟩
  unfold eIx at hf
  obtain ⟨x, h1, hf⟩ := Option.bind_eq_some_iff.mp hf
  obtain ⟨y, h2, hf⟩ := Option.bind_eq_some_iff.mp hf
  refine ⟨G0, H0, G, ρ, _, good, h1, fun u H1 G1 s1 r1 => ⟨G0, H0, G1, ρ, _, good.step s1, h2, fun v H2 G2 s2 r2 => ?_⟩⟩
  have r1 := r1.mono s2.gg
  have s3 := s1.trans s2
  unfold atD at hf
  split at hf
  · obtain ⟨p, vs, rfl, q, rs⟩ := rep_tup.mp r1
    obtain ⟨w, e, rw'⟩ := atI_reps rs hf
    exact .inr (.inl ⟨p, vs, _, w, rfl, rep_int.mp r2, s2.sub.tup q, e, k _ _ G2 s3 rw'⟩)
  · obtain ⟨p, vs, rfl, q, rs⟩ := rep_lst.mp r1
    obtain ⟨w, e, rw'⟩ := atI_reps rs hf
    exact .inl ⟨p, vs, _, w, rfl, rep_int.mp r2, s2.sub.seq q, e, k _ _ G2 s3 rw'⟩
  · split at hf
    · rename_i hz
      obtain ⟨c, e, rfl⟩ := Option.map_eq_some_iff.mp hf
      exact .inr (.inr ⟨_, _, c, rep_str.mp r1, rep_int.mp r2, Nat.le_of_lt (lim_ok hz), e, k _ _ G2 s3 (rep_str.mpr rfl)⟩)
    · cases hf
  · cases hf
end
end L2

namespace L2
open PySem PySem.Spec PyProof.Rows

inductive Out where
  | nx (ρ : List B) | rt (d : D) | rl (ds : List D) | bk (ρ : List B) | ct (ρ : List B)
  deriving Inhabited
noncomputable abbrev Sf := List B → Option Out
noncomputable def Wants (K : PySem.W.Frag) (G0 H0 G : Hp) (D : Ends) : Out → Prop
  | .nx ρ' => ∀ σ' H' G', Same G G' → Good K G0 H0 G' H' σ' ρ' → D.nx σ' H'
  | .bk ρ' => ∀ σ' H' G', Same G G' → Good K G0 H0 G' H' σ' ρ' → D.bk σ' H'
  | .ct ρ' => ∀ σ' H' G', Same G G' → Good K G0 H0 G' H' σ' ρ' → D.ct σ' H'
  | .rt d => ∀ v H' G', Step G0 H0 G' H' → Rep K G' d v → D.rt v H'
  | .rl ds => ∀ a vs H' G', Step G0 H0 G' H' → H0 a = none → H' a = some (.lst vs) → G' a = none → Reps K G' ds vs → D.rt (.ref a) H'
noncomputable def tFS (K : PySem.W.Frag) (f : Sf) : TS := fun D σ H => ∃ G0 H0 G ρ o, Good K G0 H0 G H σ ρ ∧ f ρ = some o ∧ Wants K G0 H0 G D o
noncomputable def PFS (X : Cx) (st : Stmt) (f : Sf) : Prop := PS X st (tFS X.K f)
noncomputable def PFSs (X : Cx) (sts : List Stmt) (f : Sf) : Prop := PSs X sts (tFS X.K f)
theorem PS.to {X : Cx} {st : Stmt} {t : TS} {f : Sf} (h : PS X st t) (imp : ∀ D σ H, tFS X.K f D σ H → t D σ H) : PFS X st f := fun pins s σ H D I q => h pins s σ H D I (imp D σ H q)
theorem PSs.to {X : Cx} {st : List Stmt} {t : TS} {f : Sf} (h : PSs X st t) (imp : ∀ D σ H, tFS X.K f D σ H → t D σ H) : PFSs X st f := fun pins s σ H D I q => h pins s σ H D I (imp D σ H q)
theorem Wants.mono {K : PySem.W.Frag} {G0 H0 G G' : Hp} {D : Ends} {o : Out} (h : Wants K G0 H0 G D o) (s : Same G G') : Wants K G0 H0 G' D o := by
  cases o with
  | nx ρ => exact fun σ' H' G2 s2 g => h σ' H' G2 (s.trans s2) g
  | bk ρ => exact fun σ' H' G2 s2 g => h σ' H' G2 (s.trans s2) g
  | ct ρ => exact fun σ' H' G2 s2 g => h σ' H' G2 (s.trans s2) g
  | rt d => exact h
  | rl ds => exact h

theorem getElem?_set_fz {ρ : List B} {i j : Nat} {d : D} {ds : List D} (h : (ρ.set i (.fz d))[j]? = some (.ow ds)) : j ≠ i ∧ ρ[j]? = some (.ow ds) := by
  by_cases e : j = i
  · subst e
    rw [List.getElem?_set] at h
    split at h
    · split at h <;> cases h
    · rename_i z; exact absurd rfl z
  · rw [List.getElem?_set_ne (Ne.symm e)] at h
    exact ⟨e, h⟩
theorem getElem?_set_fzD {ρ : List B} {i j : Nat} {d : D} {ds : List (D × D)} (h : (ρ.set i (.fz d))[j]? = some (.od ds)) : j ≠ i ∧ ρ[j]? = some (.od ds) := by
  by_cases e : j = i
  · subst e
    rw [List.getElem?_set] at h
    split at h
    · split at h <;> cases h
    · rename_i z; exact absurd rfl z
  · rw [List.getElem?_set_ne (Ne.symm e)] at h
    exact ⟨e, h⟩
theorem Good.setF {K : PySem.W.Frag} {G0 H0 G H : Hp} {σ : St} {ρ : List B} {v : V} {d : D} (g : Good K G0 H0 G H σ ρ) (i : Nat) (r : Rep K G d v) : Good K G0 H0 G H (σ.set i (some v)) (ρ.set i (.fz d)) := by
  refine ⟨g.st, Paired.set (.fz r) i g.vals, fun j k a ds es h1 h2 h3 h4 => ?_⟩
  obtain ⟨n1, e1⟩ := getElem?_set_fz h1
  obtain ⟨n2, e2⟩ := getElem?_set_fz h2
  rw [List.getElem?_set_ne (Ne.symm n1)] at h3
  rw [List.getElem?_set_ne (Ne.symm n2)] at h4
  exact g.apart j k a ds es e1 e2 h3 h4
theorem Good.addr {K : PySem.W.Frag} {G0 H0 G H : Hp} {σ : St} {ρ : List B} {i : Nat} {ds : List D} (g : Good K G0 H0 G H σ ρ) (h : ρ[i]? = some (.ow ds)) : ∃ a vs, σ[i]? = some (some (.ref a)) ∧ H a = some (.lst vs) ∧ G a = none ∧ H0 a = none ∧ Reps K G ds vs := by
  obtain ⟨o, e, r⟩ := Paired.get g.vals h
  cases r with
  | ow h1 h2 h3 h4 => exact ⟨_, _, e, h1, h2, h3, h4⟩
theorem Good.setO {K : PySem.W.Frag} {G0 H0 G H : Hp} {σ : St} {ρ : List B} {a : Addr} {vs : List V} {ds : List D} (g : Good K G0 H0 G H σ ρ) (i : Nat) (ha : H a = some (.lst vs)) (ga : G a = none) (h0 : H0 a = none) (rs : Reps K G ds vs)
    (fr : ∀ (j : Nat) (es : List D), ρ[j]? = some (B.ow es) → σ[j]? ≠ some (some (V.ref a))) : Good K G0 H0 G H (σ.set i (some (.ref a))) (ρ.set i (.ow ds)) := by
  have hl : σ.length = ρ.length := Paired.length g.vals
  refine ⟨g.st, Paired.set (.ow ha ga h0 rs) i g.vals, fun j k b d1 d2 h1 h2 h3 h4 => ?_⟩
  by_cases hj : j = i
  · by_cases hk : k = i
    · rw [hj, hk]
    · subst hj
      rw [List.getElem?_set_ne (Ne.symm hk)] at h2 h4
      have hlt : j < σ.length := by
        have := (List.getElem?_eq_some_iff.mp h3).1
        rwa [List.length_set] at this
      rw [List.getElem?_set_self hlt] at h3
      cases h3
      exact absurd h4 (fr k d2 h2)
  · rw [List.getElem?_set_ne (Ne.symm hj)] at h1 h3
    by_cases hk : k = i
    · subst hk
      have hlt : k < σ.length := by
        have := (List.getElem?_eq_some_iff.mp h4).1
        rwa [List.length_set] at this
      rw [List.getElem?_set_self hlt] at h4
      cases h4
      exact absurd h3 (fr j d1 h1)
    · rw [List.getElem?_set_ne (Ne.symm hk)] at h2 h4
      exact g.apart j k b d1 d2 h1 h2 h3 h4
theorem Good.wr {K : PySem.W.Frag} {G0 H0 G H : Hp} {σ : St} {ρ : List B} {a : Addr} {us : List V} {ds es : List D} {i : Nat} (g : Good K G0 H0 G H σ ρ) (hi : ρ[i]? = some (.ow ds)) (hs : σ[i]? = some (some (.ref a))) (rs : Reps K G es us) :
    Good K G0 H0 G (upd H a (.lst us)) σ (ρ.set i (.ow es)) := by
  obtain ⟨a', vs, h1, h2, h3, h4, _⟩ := g.addr hi
  rw [hs] at h1; cases h1
  have st : Step G0 H0 G (upd H a (.lst us)) := by
    refine ⟨fun b o e => ?_, g.st.gg, fun b o e => ?_, g.st.new⟩
    · rw [upd_ne (ne_of_none e h4)]; exact g.st.hh b o e
    · rw [upd_ne (ne_of_none e h3)]; exact g.st.sub b o e
  have hl : σ.length = ρ.length := Paired.length g.vals
  have hil : i < ρ.length := (List.getElem?_eq_some_iff.mp hi).1
  have key : ∀ (l : List (Option V)) (r : List B) (n : Nat), Paired (RB K H0 G H) l r → (∀ j es, n + j ≠ i → r[j]? = some (.ow es) → l[j]? ≠ some (some (.ref a))) → (∀ j, n + j = i → l[j]? = some (some (.ref a))) →
      Paired (RB K H0 G (upd H a (.lst us))) l (if i < n then r else r.set (i - n) (.ow es)) := by
    intro l r n p
    induction p generalizing n with
    | nil => intro _ _; split <;> exact .nil
    | @cons o b l' r' q t ih =>
      intro hne hat
      have tl := ih (n + 1) (fun j es z e => by have := hne (j + 1) es (by omega) (by simpa using e); simpa using this) (fun j z => by have := hat (j + 1) (by omega); simpa using this)
      have keepq : (∀ es, b = .ow es → o ≠ some (.ref a)) → RB K H0 G (upd H a (.lst us)) o b := fun hb => by
        cases q with
        | no => exact .no
        | fz r => exact .fz r
        | @ow c vs ds' c1 c2 c3 c4 =>
          have : c ≠ a := fun z => hb _ rfl (by rw [z])
          exact .ow (by rw [upd_ne this]; exact c1) c2 c3 c4
        | @od c _ _ _ _ c1 c2 c3 c4 c5 c6 =>
          have : c ≠ a := fun z => by rw [z, h2] at c1; cases c1
          exact .od (by rw [upd_ne this]; exact c1) c2 c3 c4 c5 c6
      by_cases h1 : i < n
      · rw [if_pos h1]
        rw [if_pos (by omega)] at tl
        refine .cons (keepq fun es e z => ?_) tl
        exact hne 0 es (by omega) (by simp [e]) (by simp [z])
      · rw [if_neg h1]
        by_cases h2 : i = n
        · subst h2
          rw [if_pos (by omega)] at tl
          have := hat 0 (by omega)
          simp at this
          subst this
          rw [Nat.sub_self]
          exact .cons (.ow upd_same h3 h4 rs) tl
        · rw [if_neg (by omega)] at tl
          have e : i - n = (i - (n + 1)) + 1 := by omega
          rw [e]
          refine .cons (keepq fun es e z => ?_) tl
          exact hne 0 es (by omega) (by simp [e]) (by simp [z])
  have vals := key σ ρ 0 g.vals (fun j es' z e w => by
    have := g.apart j i a es' ds e hi w hs
    omega) (fun j z => by rw [show j = i by omega]; exact hs)
  rw [if_neg (Nat.not_lt_zero _), Nat.sub_zero] at vals
  refine ⟨st, vals, fun j k b d1 d2 e1 e2 e3 e4 => ?_⟩
  have un : ∀ (j : Nat) (d1 : List D), (ρ.set i (B.ow es))[j]? = some (B.ow d1) → ∃ d, ρ[j]? = some (B.ow d) := fun j d1 e => by
    by_cases hj : j = i
    · subst hj; exact ⟨ds, hi⟩
    · rw [List.getElem?_set_ne (Ne.symm hj)] at e; exact ⟨d1, e⟩
  obtain ⟨c1, f1⟩ := un j d1 e1
  obtain ⟨c2, f2⟩ := un k d2 e2
  exact g.apart j k b c1 c2 f1 f2 e3 e4

section
variable {X : Cx} {a b c e tg : Expr} {es : List Expr} {fa fb : Ef} {ga : Lf} {ta : Tf} {pos : Pos} {st : Stmt} {sts rest : List Stmt} {f g : Sf}
noncomputable def sSeq (f g : Sf) : Sf := fun ρ => (f ρ).bind fun o => match o with | .nx ρ' => g ρ' | o => some o
noncomputable def sNil : Sf := fun ρ => some (.nx ρ)
theorem pss_nilF : PFSs X [] sNil := by
  refine PSs.to pss_nil ?_
  rintro D σ H ⟨G0, H0, G, ρ, o, good, hf, k⟩
  cases hf
  exact k σ H G (Same.refl _) good
theorem pss_oneF (h : PFS X st f) : PFSs X [st] f := pss_one h
theorem pss_consF (h1 : PFS X st f) (h2 : PFSs X rest g) : PFSs X (st :: rest) (sSeq f g) := by
  refine PSs.to (pss_cons h1 h2) ?_
  rintro D σ H ⟨G0, H0, G, ρ, o, good, hf, k⟩
  unfold sSeq at hf
  obtain ⟨o1, h1, hf⟩ := Option.bind_eq_some_iff.mp hf
  refine ⟨G0, H0, G, ρ, o1, good, h1, ?_⟩
  cases o1 with
  | nx ρ' => exact fun σ' H' G' s g' => ⟨G0, H0, G', ρ', o, g', hf, k.mono s⟩
  | rt d => cases hf; exact k
  | rl d => cases hf; exact k
  | bk d => cases hf; exact k
  | ct d => cases hf; exact k
noncomputable def sRet (f : Ef) : Sf := fun ρ => (f ρ).map .rt
theorem ps_retF (h : PF X e fa) : PFS X (.Return (some e) pos) (sRet fa) := by
  refine PS.to (ps_ret h) ?_
  rintro D σ H ⟨G0, H0, G, ρ, o, good, hf, k⟩
  unfold sRet at hf
  obtain ⟨d, h1, rfl⟩ := Option.map_eq_some_iff.mp hf
  exact ⟨G0, H0, G, ρ, d, good, h1, fun v H' G' s r => k v H' G' (good.st.trans s) r⟩
noncomputable def sIf (t : Tf) (f g : Sf) : Sf := fun ρ => (t ρ).bind fun c => if c = true then f ρ else g ρ
theorem ps_ifF {sa sb : List Stmt} (ht : PFT X c ta) (ha : PFSs X sa f) (hb : PFSs X sb g) : PFS X (.If c sa sb pos) (sIf ta f g) := by
  refine PS.to (ps_if ht ha hb) ?_
  rintro D σ H ⟨G0, H0, G, ρ, o, good, hf, k⟩
  unfold sIf at hf
  obtain ⟨c', h1, hf⟩ := Option.bind_eq_some_iff.mp hf
  refine ⟨G0, H0, G, ρ, _, good, h1, fun H1 G1 s1 => ?_⟩
  split at hf
  · rename_i h; rw [if_pos h]; exact ⟨G0, H0, G1, ρ, o, good.step s1, hf, k.mono s1.gg⟩
  · rename_i h; rw [if_neg h]; exact ⟨G0, H0, G1, ρ, o, good.step s1, hf, k.mono s1.gg⟩
noncomputable abbrev Gf := D → List B → Option (List B)
noncomputable def tFG (K : PySem.W.Frag) (g : Gf) : TG := fun v σ H Q => ∃ G0 H0 G ρ d ρ', Good K G0 H0 G H σ ρ ∧ Rep K G d v ∧ g d ρ = some ρ' ∧ ∀ σ' H' G', Step G H G' H' → Good K G0 H0 G' H' σ' ρ' → Q σ' H'
noncomputable def PFG (X : Cx) (tg : Expr) (g : Gf) : Prop := PG X tg (tFG X.K g)
noncomputable abbrev Gfs := List D → List B → Option (List B)
noncomputable def tFGs (K : PySem.W.Frag) (g : Gfs) : TGs := fun vs σ H Q => ∃ G0 H0 G ρ ds ρ', Good K G0 H0 G H σ ρ ∧ Reps K G ds vs ∧ g ds ρ = some ρ' ∧ ∀ σ' H' G', Step G H G' H' → Good K G0 H0 G' H' σ' ρ' → Q σ' H'
noncomputable def PFGs (X : Cx) (tgs : List Expr) (g : Gfs) : Prop := PGs X tgs (tFGs X.K g)
noncomputable def gN (i : Nat) : Gf := fun d ρ => some (ρ.set i (.fz d))
theorem pg_n (i : Nat) {x : Str} (hN : X.N.Nodup) (hi : X.N[i]? = some x := by rfl) (hx : Loc X.env.scope x := by first | exact .inl rfl | exact .inr rfl) (hf : X.fn x = true ∨ X.env.scope.names.lookup x = some .local := by first | exact .inl rfl | exact .inr rfl) : PFG X (.Name x pos) (gN i) := by
  have h := pg_name (pos := pos) hN hi hx hf
  intro pins s σ H v u Q I r q
  refine h pins s σ H v u Q I r ?_
  obtain ⟨G0, H0, G, ρ, d, ρ', good, rd, hf, k⟩ := q
  cases hf
  exact k _ H G (.refl good.sub) (good.setF i rd)
noncomputable def gsNil : Gfs := fun ds ρ => match ds with | [] => some ρ | _ => none
noncomputable def gsCons (g : Gf) (r : Gfs) : Gfs := fun ds ρ => match ds with | d :: dr => (g d ρ).bind fun ρ' => r dr ρ' | _ => none
theorem pgs_nilF : PFGs X [] gsNil := by
  intro pins s σ H vs us Q I r q
  refine pgs_nil pins s σ H vs us Q I r ?_
  obtain ⟨G0, H0, G, ρ, ds, ρ', good, rd, hf, k⟩ := q
  unfold gsNil at hf
  split at hf
  · cases hf
    rw [reps_nil] at rd
    exact ⟨rd, k _ H G (.refl good.sub) good⟩
  · cases hf
theorem pgs_consF {g : Gf} {r : Gfs} (h1 : PFG X e g) (h2 : PFGs X es r) (hs : (assignEach (e :: es) X.env).map (·.2) = assign e X.env :: (assignEach es X.env).map (·.2) := by rfl) : PFGs X (e :: es) (gsCons g r) := by
  intro pins s σ H vs us Q I rv q
  refine pgs_cons h1 h2 hs pins s σ H vs us Q I rv ?_
  obtain ⟨G0, H0, G, ρ, ds, ρ', good, rd, hf, k⟩ := q
  unfold gsCons at hf
  split at hf
  · rename_i d dr
    obtain ⟨ρ1, e1, e2⟩ := Option.bind_eq_some_iff.mp hf
    obtain ⟨v, vr, rfl, r1, r2⟩ := reps_cons.mp rd
    exact ⟨v, vr, rfl, G0, H0, G, ρ, d, ρ1, good, r1, e1, fun σ' H' G' s' g' => ⟨G0, H0, G', ρ1, dr, ρ', g', r2.mono s'.gg, e2, fun σ2 H2 G2 s2 g2 => k σ2 H2 G2 (s'.trans s2) g2⟩⟩
  · cases hf
noncomputable def gT (r : Gfs) : Gf := fun d ρ => match d with | .tup ds => r ds ρ | _ => none
theorem pg_t {r : Gfs} {k : Nat} (n : Nat) (hc : X.calm = true) (h : PFGs X es r) (hr : ∀ ds ρ ρ', r ds ρ = some ρ' → ds.length = n) (hn : (assignEach es X.env).length = n := by rfl) (hst : (assignEach es X.env).findIdx? (·.1) = none := by rfl) : PFG X (.Tuple es k pos) (gT r) := by
  have h := pg_tup (pos := pos) (k := k) hc h hn hst
  intro pins s σ H v u Q I rv q
  refine h pins s σ H v u Q I rv ?_
  obtain ⟨G0, H0, G, ρ, d, ρ', good, rd, hf, k⟩ := q
  unfold gT at hf
  split at hf
  · obtain ⟨p, vs, rfl, h1, h2⟩ := rep_tup.mp rd
    exact ⟨p, vs, rfl, good.sub.tup h1, by rw [← h2.length]; exact hr _ _ _ hf, G0, H0, G, ρ, _, ρ', good, h2, hf, k⟩
  · cases hf
theorem gs_len1 {g : Gf} {r : Gfs} {n : Nat} (h : ∀ ds ρ ρ', r ds ρ = some ρ' → ds.length = n) : ∀ ds ρ ρ', gsCons g r ds ρ = some ρ' → ds.length = n + 1 := by
  intro ds ρ ρ' q
  unfold gsCons at q
  split at q
  · obtain ⟨ρ1, e1, e2⟩ := Option.bind_eq_some_iff.mp q
    rw [List.length_cons, h _ _ _ e2]
  · cases q
theorem gs_len0 : ∀ ds ρ ρ', gsNil ds ρ = some ρ' → ds.length = 0 := by
  intro ds ρ ρ' q
  unfold gsNil at q
  split at q
  · rfl
  · cases q
noncomputable def NoOw (ρ : List B) : Prop := (∀ (j : Nat) (es : List D), ρ[j]? ≠ some (B.ow es)) ∧ ∀ (j : Nat) (ks : List (D × D)), ρ[j]? ≠ some (B.od ks)
noncomputable def GfOk (g : Gf) : Prop := ∀ d ρ ρ', g d ρ = some ρ' → NoOw ρ → NoOw ρ'
noncomputable def GfsOk (g : Gfs) : Prop := ∀ d ρ ρ', g d ρ = some ρ' → NoOw ρ → NoOw ρ'
theorem go_n (i : Nat) : GfOk (gN i) := fun d ρ ρ' h n => by
  cases h
  exact ⟨fun j es e => n.1 j es (getElem?_set_fz e).2, fun j ks e => n.2 j ks (getElem?_set_fzD e).2⟩
theorem gso_nil : GfsOk gsNil := fun d ρ ρ' h n => by
  unfold gsNil at h
  split at h
  · cases h; exact n
  · cases h
theorem gso_cons {g : Gf} {r : Gfs} (h1 : GfOk g) (h2 : GfsOk r) : GfsOk (gsCons g r) := fun d ρ ρ' h n => by
  unfold gsCons at h
  split at h
  · obtain ⟨ρ1, e1, e2⟩ := Option.bind_eq_some_iff.mp h
    exact h2 _ _ _ e2 (h1 _ _ _ e1 n)
  · cases h
theorem go_t {r : Gfs} (h : GfsOk r) : GfOk (gT r) := fun d ρ ρ' q n => by
  unfold gT at q
  split at q
  · exact h _ _ _ q n
  · cases q
noncomputable def sSet (i : Nat) (f : Ef) : Sf := fun ρ => (f ρ).map fun d => .nx (ρ.set i (.fz d))
theorem sSet_imp {K : PySem.W.Frag} {t : TE} {f : Ef} {i : Nat} (imp : ∀ σ H Q, tF K f σ H Q → t σ H Q) {D : Ends} {σ : St} {H : Hp} (h : tFS K (sSet i f) D σ H) : tAsg t (gName i) D σ H := by
  obtain ⟨G0, H0, G, ρ, o, good, hf, k⟩ := h
  unfold sSet at hf
  obtain ⟨d, h1, rfl⟩ := Option.map_eq_some_iff.mp hf
  exact imp _ _ _ ⟨G0, H0, G, ρ, d, good, h1, fun v H' G' s r => k _ H' G' s.gg ((good.step s).setF i r)⟩
theorem ps_setF (i : Nat) {x : Str} {pos' : Pos} (hN : X.N.Nodup) (he : PF X e fa) (hi : X.N[i]? = some x := by rfl) (hx : Loc X.env.scope x := by first | exact .inl rfl | exact .inr rfl) (hs : swapsWith e (some (.Name x pos')) pos.line X.env = pure false := by rfl)
    (hf : X.fn x = true ∨ X.env.scope.names.lookup x = some .local := by first | exact .inl rfl | exact .inr rfl) : PFS X (.Assign [.Name x pos'] e pos) (sSet i fa) :=
  PS.to (ps_set hN hi hx he hs hf) fun D σ H h => sSet_imp (fun _ _ _ q => q) h
noncomputable def sOwn (i : Nat) (f : Lf) : Sf := fun ρ => (f ρ).map fun ds => .nx (ρ.set i (.ow ds))
theorem sOwn_imp {K : PySem.W.Frag} {t : TE} {f : Lf} {i : Nat} (imp : ∀ σ H Q, tFr K f σ H Q → t σ H Q) {D : Ends} {σ : St} {H : Hp} (h : tFS K (sOwn i f) D σ H) : tAsg t (gName i) D σ H := by
  obtain ⟨G0, H0, G, ρ, o, good, hf, k⟩ := h
  unfold sOwn at hf
  obtain ⟨ds, h1, rfl⟩ := Option.map_eq_some_iff.mp hf
  refine imp _ _ _ ⟨G0, H0, G, ρ, ds, good, h1, fun p vs H' G' s hn hp gp rs => ?_⟩
  refine k _ H' G' s.gg ((good.step s).setO i hp gp (good.st.hh.free hn) rs fun j es e z => ?_)
  obtain ⟨q, us, e1, e2, _⟩ := good.addr e
  rw [e1] at z; cases z
  rw [hn] at e2; cases e2
theorem ps_own (i : Nat) {x : Str} {pos' : Pos} (hN : X.N.Nodup) (he : PFr X e ga) (hi : X.N[i]? = some x := by rfl) (hx : Loc X.env.scope x := by first | exact .inl rfl | exact .inr rfl) (hs : swapsWith e (some (.Name x pos')) pos.line X.env = pure false := by rfl)
    (hf : X.fn x = true ∨ X.env.scope.names.lookup x = some .local := by first | exact .inl rfl | exact .inr rfl) : PFS X (.Assign [.Name x pos'] e pos) (sOwn i ga) :=
  PS.to (ps_set hN hi hx he hs hf) fun D σ H h => sOwn_imp (fun _ _ _ q => q) h
noncomputable def frzB (i : Nat) (ρ : List B) : List B := match ρ[i]? with | some (.ow ds) => ρ.set i (.fz (.lst ds)) | _ => ρ
noncomputable def sFrz (i : Nat) (f : Sf) : Sf := fun ρ => f (frzB i ρ)
theorem Good.frz {K : PySem.W.Frag} {G0 H0 G H : Hp} {σ : St} {ρ : List B} (g : Good K G0 H0 G H σ ρ) (i : Nat) : ∃ G', Same G G' ∧ Good K G0 H0 G' H σ (frzB i ρ) := by
  unfold frzB
  split
  · rename_i ds e
    obtain ⟨p, vs, h1, h2, h3, h4, h5⟩ := g.addr e
    have sG : Same G (upd G p (.lst vs)) := Same.new h3
    have st : Step G0 H0 (upd G p (.lst vs)) H := by
      refine ⟨g.st.hh, g.st.gg.trans sG, fun b o q => ?_, fun b hb => ?_⟩
      · by_cases z : b = p
        · subst z; rw [upd_same] at q; rw [h2]; exact q
        · rw [upd_ne z] at q; exact g.st.sub b o q
      · rw [upd_ne (fun z : b = p => hb (by rw [z]; exact h4))]; exact g.st.new b hb
    have vals : Paired (RB K H0 (upd G p (.lst vs)) H) σ (ρ.set i (.fz (.lst ds))) := by
      have key : ∀ (l : List (Option V)) (r : List B) (n : Nat), Paired (RB K H0 G H) l r → (∀ j es, n + j ≠ i → r[j]? = some (.ow es) → l[j]? ≠ some (some (.ref p))) → (∀ j, n + j = i → l[j]? = some (some (.ref p))) →
          Paired (RB K H0 (upd G p (.lst vs)) H) l (if i < n then r else r.set (i - n) (.fz (.lst ds))) := by
        intro l r n q
        induction q generalizing n with
        | nil => intro _ _; split <;> exact .nil
        | @cons o b l' r' q t ih =>
          intro hne hat
          have tl := ih (n + 1) (fun j es z e => by have := hne (j + 1) es (by omega) (by simpa using e); simpa using this) (fun j z => by have := hat (j + 1) (by omega); simpa using this)
          have keepq : (∀ es, b = .ow es → o ≠ some (.ref p)) → RB K H0 (upd G p (.lst vs)) H o b := fun hb => by
            cases q with
            | no => exact .no
            | fz r => exact .fz (r.mono sG)
            | @ow c vs' ds' c1 c2 c3 c4 =>
              have : c ≠ p := fun z => hb _ rfl (by rw [z])
              exact .ow c1 (by rw [upd_ne this]; exact c2) c3 (c4.mono sG)
            | @od c _ _ _ _ c1 c2 c3 c4 c5 c6 =>
              have : c ≠ p := fun z => by rw [z, h2] at c1; cases c1
              exact .od c1 (by rw [upd_ne this]; exact c2) c3 (c4.mono sG) c5 c6
          by_cases h1 : i < n
          · rw [if_pos h1]
            rw [if_pos (by omega)] at tl
            exact .cons (keepq fun es e z => hne 0 es (by omega) (by simp [e]) (by simp [z])) tl
          · rw [if_neg h1]
            by_cases h2 : i = n
            · subst h2
              rw [if_pos (by omega)] at tl
              have := hat 0 (by omega)
              simp at this
              subst this
              rw [Nat.sub_self]
              exact .cons (.fz (rep_lst.mpr ⟨p, vs, rfl, .of upd_same, h5.mono sG⟩)) tl
            · rw [if_neg (by omega)] at tl
              have e : i - n = (i - (n + 1)) + 1 := by omega
              rw [e]
              exact .cons (keepq fun es e z => hne 0 es (by omega) (by simp [e]) (by simp [z])) tl
      have v := key σ ρ 0 g.vals (fun j es' z e' w => by have := g.apart j i p es' ds e' e w h1; omega) (fun j z => by rw [show j = i by omega]; exact h1)
      rw [if_neg (Nat.not_lt_zero _), Nat.sub_zero] at v
      exact v
    refine ⟨_, sG, st, vals, fun j k b d1 d2 e1 e2 e3 e4 => ?_⟩
    obtain ⟨_, f1⟩ := getElem?_set_fz e1
    obtain ⟨_, f2⟩ := getElem?_set_fz e2
    exact g.apart j k b d1 d2 f1 f2 e3 e4
  · exact ⟨G, Same.refl _, g⟩
theorem ps_frz (i : Nat) (h : PFS X st f) : PFS X st (sFrz i f) := by
  refine PS.to h ?_
  rintro D σ H ⟨G0, H0, G, ρ, o, good, hf, k⟩
  obtain ⟨G', s, g'⟩ := good.frz i
  exact ⟨G0, H0, G', _, o, g', hf, k.mono s⟩
end
end L2

namespace L2
open PySem PySem.Spec PyProof.Rows

noncomputable def Yields (K : PySem.W.Frag) (J : It) (G : Hp) (ds : List D) : Prop := ∀ (i : Nat) (G2 H2 : Hp), Same G G2 → Same G2 H2 →
  (∀ d, ds[i]? = some d → J.go i H2 ∧ ∀ x H3, J.yld i H2 x H3 → ∃ G3, Step G2 H2 G3 H3 ∧ Rep K G3 d x) ∧ (ds.length ≤ i → J.stop i H2)
noncomputable def tFI (K : PySem.W.Frag) (f : Lf) : TI := fun σ H R => ∃ G0 H0 G ρ ds, Good K G0 H0 G H σ ρ ∧ f ρ = some ds ∧ ∀ J H' G', Step G H G' H' → Yields K J G' ds → R J H'
noncomputable def PFI (X : Cx) (tg iter : Expr) (f : Lf) : Prop := PI X tg iter (tFI X.K f)
theorem PI.to {X : Cx} {tg e : Expr} {t : TI} {f : Lf} (h : PI X tg e t) (imp : ∀ σ H R, tFI X.K f σ H R → t σ H R) : PFI X tg e f := fun pins s σ H R I q => h pins s σ H R I (imp σ H R q)
theorem yields_list' {K : PySem.W.Frag} {G : Hp} {a : Addr} {vs : List V} {ds : List D} (h : SqL K G a vs) (r : Reps K G ds vs) : Yields K (Itl K a) G ds := by
  intro i G2 H2 s1 s2
  have q : SqL K H2 a vs := (s1.trans s2).seq h
  refine ⟨fun d hd => ?_, fun hi => ⟨vs, q, by rw [← r.length]; exact hi⟩⟩
  obtain ⟨v, e, rv⟩ := r.get hd
  refine ⟨⟨vs, v, q, e⟩, fun x H3 y => ?_⟩
  obtain ⟨rfl, y⟩ := y
  have := y vs q
  rw [e] at this; cases this
  exact ⟨G2, .refl s2, rv.mono s1⟩
theorem yields_tup {K : PySem.W.Frag} {G : Hp} {a : Addr} {vs : List V} {ds : List D} (h : SqT K G a vs) (r : Reps K G ds vs) : Yields K (Itt K a) G ds := by
  intro i G2 H2 s1 s2
  have q : SqT K H2 a vs := (s1.trans s2).tup h
  refine ⟨fun d hd => ?_, fun hi => ⟨vs, q, by rw [← r.length]; exact hi⟩⟩
  obtain ⟨v, e, rv⟩ := r.get hd
  refine ⟨⟨vs, v, q, e⟩, fun x H3 y => ?_⟩
  obtain ⟨rfl, y⟩ := y
  have := y vs q
  rw [e] at this; cases this
  exact ⟨G2, .refl s2, rv.mono s1⟩
noncomputable def upto (lo : Int) (n : Nat) : List D := (List.range n).map fun i => D.int (lo + (i : Nat))
theorem yields_range {K : PySem.W.Frag} {G : Hp} {lo : Int} {n : Nat} : Yields K (Itr lo n) G (upto lo n) := by
  intro i G2 H2 s1 s2
  have hl : (upto lo n).length = n := by simp [upto]
  refine ⟨fun d hd => ?_, fun hi => by rw [hl] at hi; exact hi⟩
  have hi : i < n := by rw [← hl]; exact (List.getElem?_eq_some_iff.mp hd).1
  refine ⟨hi, fun x H3 y => ?_⟩
  obtain ⟨rfl, rfl⟩ := y
  have e : d = .int (lo + i) := by
    unfold upto at hd
    rw [List.getElem?_map, List.getElem?_range hi] at hd
    exact (Option.some.inj hd).symm
  subst e
  exact ⟨G2, .refl s2, rep_int.mpr rfl⟩
section
variable {X : Cx} {a b c e tg elt iter : Expr} {es ifs : List Expr} {fa fb : Ef} {ga gi : Lf} {ta tc : Tf} {pos : Pos} {st : Stmt} {sts rest : List Stmt} {f g : Sf}
noncomputable def iL (f : Ef) : Lf := fun ρ => (f ρ).bind fun d => match d with | .lst ds => some ds | _ => none
noncomputable def iT (f : Ef) : Lf := fun ρ => (f ρ).bind fun d => match d with | .tup ds => some ds | _ => none
theorem pi_l (h : PF X e fa) : PFI X tg e (iL fa) := by
  refine PI.to (pi_list h) ?_
  rintro σ H R ⟨G0, H0, G, ρ, ds, good, hf, k⟩
  unfold iL at hf
  obtain ⟨d, h1, hf⟩ := Option.bind_eq_some_iff.mp hf
  cases d with
  | lst es =>
    cases hf
    refine ⟨G0, H0, G, ρ, _, good, h1, fun x H1 G1 s1 r1 => ?_⟩
    obtain ⟨p, vs, rfl, q, rs⟩ := rep_lst.mp r1
    exact ⟨p, rfl, ⟨vs, s1.sub.seq q⟩, k _ H1 G1 s1 (yields_list' q rs)⟩
  | _ => cases hf
theorem pi_t (h : PF X e fa) : PFI X tg e (iT fa) := by
  refine PI.to (pi_tup h) ?_
  rintro σ H R ⟨G0, H0, G, ρ, ds, good, hf, k⟩
  unfold iT at hf
  obtain ⟨d, h1, hf⟩ := Option.bind_eq_some_iff.mp hf
  cases d with
  | tup es =>
    cases hf
    refine ⟨G0, H0, G, ρ, _, good, h1, fun x H1 G1 s1 r1 => ?_⟩
    obtain ⟨p, vs, rfl, q, rs⟩ := rep_tup.mp r1
    exact ⟨p, rfl, ⟨vs, s1.sub.tup q⟩, k _ H1 G1 s1 (yields_tup q rs)⟩
  | _ => cases hf
noncomputable def iR (f : Ef) : Lf := fun ρ => (f ρ).bind fun d => match d with | .int n => if decide (-1000000 ≤ n) && decide (n ≤ 1000000) then some (upto 0 n.toNat) else none | _ => none
theorem pi_r {p : Pos} (hg : Gl X "range") (hm : X.mg "range" = none) (h : PF X a fa) (hs : starEach [a] X.env = [(false, eval a X.env)] := by rfl) : PFI X tg (.Call (.Name "range" p) [a] [] pos) (iR fa) := by
  refine PI.to (pi_range1 hg hm (pa_cons h pa_nil (by rw [hs]; rfl)) hs) ?_
  rintro σ H R ⟨G0, H0, G, ρ, ds, good, hf, k⟩
  unfold iR at hf
  obtain ⟨d, h1, hf⟩ := Option.bind_eq_some_iff.mp hf
  cases d with
  | int n =>
    dsimp only at hf
    split at hf
    · rename_i hc
      cases hf
      simp only [Bool.and_eq_true, decide_eq_true_eq] at hc
      refine ⟨G0, H0, G, ρ, _, good, h1, fun x H1 G1 s1 r1 => ⟨n, by rw [rep_int.mp r1], by omega, by omega, k _ H1 G1 s1 yields_range⟩⟩
    · cases hf
  | _ => cases hf
noncomputable def forF (g : Gf) (body : Sf) : List D → Sf
  | [], ρ => some (.nx ρ)
  | d :: r, ρ => (g d ρ).bind fun ρ1 => (body ρ1).bind fun o => match o with
    | .nx ρ2 => forF g body r ρ2
    | .ct ρ2 => forF g body r ρ2
    | .bk ρ2 => some (.nx ρ2)
    | o => some o
noncomputable def sFor (src : Lf) (g : Gf) (body : Sf) : Sf := fun ρ => (src ρ).bind fun ds => forF g body ds ρ
theorem ps_forF {gt : Gf} {body : List Stmt} {fb : Sf} (hp : PassesOwn (model X.prog X.w) X.A X.env X.xe) (hc : X.calm = true) (hi : PFI X tg iter gi) (hg : PFG X tg gt) (hb : PFSs X body fb) (hs : ∀ x, foldedSetIterable iter X.env x = pure x := by intro _; rfl) :
    PFS X (.For tg iter body [] pos) (sFor gi gt fb) := by
  refine PS.to (ps_for hp hc hi hg hb hs) ?_
  rintro D σ H ⟨G0, H0, G, ρ, o, good, hf, k⟩
  unfold sFor at hf
  obtain ⟨ds, h1, hf⟩ := Option.bind_eq_some_iff.mp hf
  refine ⟨G0, H0, G, ρ, ds, good, h1, fun J H1 G1 s1 y => ?_⟩
  refine ⟨fun i m σ H => m = ds.length - i ∧ i ≤ ds.length ∧ ∃ G2 ρ2, Same G1 G2 ∧ Good X.K G0 H0 G2 H σ ρ2 ∧ forF gt fb (ds.drop i) ρ2 = some o, ⟨ds.length, by simp, Nat.zero_le _, G1, ρ, Same.refl _, good.step s1, by simpa using hf⟩, ?_⟩
  rintro i m σ2 H2 ⟨rfl, hi', G2, ρ2, sg, good2, hf2⟩
  obtain ⟨y1, y2⟩ := y i G2 H2 sg good2.sub
  by_cases hlt : i < ds.length
  · obtain ⟨go, yl⟩ := y1 ds[i] (List.getElem?_eq_getElem hlt)
    rw [List.drop_eq_getElem_cons hlt] at hf2
    unfold forF at hf2
    obtain ⟨ρ3, e1, hf2⟩ := Option.bind_eq_some_iff.mp hf2
    obtain ⟨o1, e2, hf2⟩ := Option.bind_eq_some_iff.mp hf2
    refine .inr ⟨go, fun σ' H' => ∃ G' ρ', Same G1 G' ∧ Good X.K G0 H0 G' H' σ' ρ' ∧ forF gt fb (ds.drop (i + 1)) ρ' = some o, fun σ' H' ⟨G', ρ', a1, a2, a3⟩ => ⟨ds.length - (i + 1), by omega, rfl, hlt, G', ρ', a1, a2, a3⟩, fun x H3 yx => ?_⟩
    obtain ⟨G3, s3, r3⟩ := yl x H3 yx
    refine ⟨G0, H0, G3, ρ2, _, ρ3, good2.step s3, r3, e1, fun σ4 H4 G4 s4 good4 => ?_⟩
    have sg4 : Same G1 G4 := (sg.trans s3.gg).trans s4.gg
    refine ⟨G0, H0, G4, ρ3, o1, good4, e2, ?_⟩
    cases o1 with
    | nx ρ5 => exact fun σ5 H5 G5 s5 good5 => ⟨G5, ρ5, sg4.trans s5, good5, hf2⟩
    | ct ρ5 => exact fun σ5 H5 G5 s5 good5 => ⟨G5, ρ5, sg4.trans s5, good5, hf2⟩
    | bk ρ5 => cases hf2; exact fun σ5 H5 G5 s5 good5 => k σ5 H5 G5 ((s1.gg.trans sg4).trans s5) good5
    | rt d => cases hf2; exact k
    | rl d => cases hf2; exact k
  · have e : i = ds.length := by omega
    subst e
    rw [List.drop_length] at hf2
    cases hf2
    exact .inl ⟨y2 (Nat.le_refl _), k σ2 H2 G2 (s1.gg.trans sg) good2⟩

noncomputable def mapF (g : Gf) (t : Tf) (elt : Ef) : List D → List B → List D → Option (List D)
  | [], _, acc => some acc
  | d :: r, ρ, acc => (g d ρ).bind fun ρ1 => (t ρ1).bind fun c => if c = true then (elt ρ1).bind fun y => mapF g t elt r ρ1 (acc ++ [y]) else mapF g t elt r ρ1 acc
noncomputable def upB (m : Nat) (js : List Nat) (ρ : List B) : List B := List.replicate m .no ++ js.map fun j => match ρ[j]? with | some (.fz d) => .fz d | _ => .no
noncomputable def lComp (src : Lf) (m : Nat) (js : List Nat) (g : Gf) (t : Tf) (elt : Ef) : Lf := fun ρ => ((src ρ).bind okL).bind fun ds => mapF g t elt ds (upB m js ρ) []
theorem Good.up {K : PySem.W.Frag} {G0 H0 G H : Hp} {σ : St} {ρ : List B} (g : Good K G0 H0 G H σ ρ) (m : Nat) (js : List Nat) : Good K G H G H (upC m js σ) (upB m js ρ) := by
  refine ⟨.refl g.sub, ?_, fun i j a ds es h1 => ?_⟩
  · unfold upC upB
    have rep : ∀ m : Nat, Paired (RB K H G H) (List.replicate m (none : Option V)) (List.replicate m B.no) := fun m => by
      induction m with
      | zero => exact .nil
      | succ n ih => rw [List.replicate_succ, List.replicate_succ]; exact .cons .no ih
    have app : ∀ {l1 l2 : List (Option V)} {r1 r2 : List B}, Paired (RB K H G H) l1 r1 → Paired (RB K H G H) l2 r2 → Paired (RB K H G H) (l1 ++ l2) (r1 ++ r2) := fun h1 h2 => by
      induction h1 with
      | nil => exact h2
      | cons q t ih => exact .cons q ih
    refine app (rep m) ?_
    induction js with
    | nil => exact .nil
    | cons j r ih =>
      rw [List.map_cons, List.map_cons]
      refine .cons ?_ ih
      cases e : ρ[j]? with
      | none => exact .no
      | some b =>
        obtain ⟨o, e1, r1⟩ := Paired.get g.vals e
        cases r1 with
        | no => exact .no
        | fz q => rw [e1]; exact .fz q
        | ow q1 q2 q3 q4 => exact .no
        | od q1 q2 q3 q4 q5 q6 => exact .no
  · unfold upB at h1
    by_cases hi : i < m
    · rw [List.getElem?_append_left (by simpa using hi), List.getElem?_replicate] at h1
      split at h1 <;> cases h1
    · rw [List.getElem?_append_right (by simpa using hi), List.getElem?_map] at h1
      obtain ⟨k, _, h1⟩ := Option.map_eq_some_iff.mp h1
      split at h1 <;> cases h1
theorem upB_noow (m : Nat) (js : List Nat) (ρ : List B) : NoOw (upB m js ρ) := by
  constructor
  all_goals
    intro i es h1
    unfold upB at h1
    by_cases hi : i < m
    · rw [List.getElem?_append_left (by simpa using hi), List.getElem?_replicate] at h1
      split at h1 <;> cases h1
    · rw [List.getElem?_append_right (by simpa using hi), List.getElem?_map] at h1
      obtain ⟨k, _, h1⟩ := Option.map_eq_some_iff.mp h1
      split at h1 <;> cases h1
theorem Good.wrX {K : PySem.W.Frag} {G0 H0 G H : Hp} {σ : St} {ρ : List B} {p : Addr} {o : HO} (g : Good K G0 H0 G H σ ρ) (n : NoOw ρ) (gp : G p = none) (h0 : H0 p = none) : Good K G0 H0 G (upd H p o) σ ρ := by
  refine ⟨⟨fun b u e => ?_, g.st.gg, fun b u e => ?_, g.st.new⟩, ?_, g.apart⟩
  · rw [upd_ne (ne_of_none e h0)]; exact g.st.hh b u e
  · rw [upd_ne (ne_of_none e gp)]; exact g.st.sub b u e
  · have key : ∀ (l : List (Option V)) (r : List B), Paired (RB K H0 G H) l r → NoOw r → Paired (RB K H0 G (upd H p o)) l r := by
      intro l r q
      induction q with
      | nil => intro _; exact .nil
      | @cons x b l' r' q t ih =>
        intro n
        refine .cons ?_ (ih ⟨fun j es e => n.1 (j + 1) es (by simpa using e), fun j es e => n.2 (j + 1) es (by simpa using e)⟩)
        cases q with
        | no => exact .no
        | fz r => exact .fz r
        | ow _ _ _ _ => exact absurd rfl (n.1 0 _)
        | od _ _ _ _ _ _ => exact absurd rfl (n.2 0 _)
    exact key σ ρ g.vals n
theorem comp_imp {K : PySem.W.Frag} {m : Nat} {js : List Nat} {gt : Gf} {t : Tf} {el : Ef} (hgo : GfOk gt) {σ : St} {H : Hp} {Q : VK} (h : tFr K (lComp gi m js gt t el) σ H Q) : tComp (tFI K gi) m js (tFG K gt) (tFT K t) (tF K el) σ H Q := by
  obtain ⟨G0, H0, G, ρ, out, good, hf, k⟩ := h
  unfold lComp at hf
  obtain ⟨ds, h1, hf⟩ := Option.bind_eq_some_iff.mp hf
  obtain ⟨ds', h1, h1'⟩ := Option.bind_eq_some_iff.mp h1
  obtain ⟨rfl, hlen⟩ := okL_inv h1'
  refine ⟨G0, H0, G, ρ, _, good, h1, fun J H1 G1 s1 y D hD => ?_⟩
  have good1 := (good.step s1).up m js
  have hGD : G1 D = none := s1.sub.free hD
  refine ⟨fun i n σ2 H2 => n = ds.length - i ∧ i ≤ ds.length ∧ ∃ G2 ρ2 acc us, Same G1 G2 ∧ G2 D = none ∧ H2 D = some (.lst us) ∧ Reps K G2 acc us ∧ acc.length ≤ i ∧ NoOw ρ2 ∧ Good K G1 H1 G2 H2 σ2 ρ2 ∧ mapF gt t el (ds.drop i) ρ2 acc = some out,
    ⟨ds.length, by simp, Nat.zero_le _, G1, upB m js ρ, [], [], Same.refl _, hGD, upd_same, reps_nil.mpr rfl, Nat.le_refl _, upB_noow _ _ _, good1.step (Step.own s1.sub hD), by simpa using hf⟩, ?_⟩
  rintro i n σ2 H2 ⟨rfl, hi, G2, ρ2, acc, us, sg, gD, hD2, rs, hal, now, good2, hf2⟩
  obtain ⟨y1, y2⟩ := y i G2 H2 sg good2.sub
  by_cases hlt : i < ds.length
  · obtain ⟨go, yl⟩ := y1 ds[i] (List.getElem?_eq_getElem hlt)
    rw [List.drop_eq_getElem_cons hlt] at hf2
    unfold mapF at hf2
    obtain ⟨ρ3, e1, hf2⟩ := Option.bind_eq_some_iff.mp hf2
    obtain ⟨c, e2, hf2⟩ := Option.bind_eq_some_iff.mp hf2
    have now3 := hgo _ _ _ e1 now
    refine .inr ⟨go, fun x H3 yx => ?_⟩
    obtain ⟨G3, s3, r3⟩ := yl x H3 yx
    refine ⟨G1, H1, G3, ρ2, _, ρ3, good2.step s3, r3, e1, fun σ4 H4 G4 s4 good4 => ?_⟩
    refine ⟨G1, H1, G4, ρ3, c, good4, e2, fun H5 G5 s5 => ?_⟩
    have s35 := (s3.trans s4).trans s5
    have hne : H2 D ≠ none := by rw [hD2]; exact fun z => nomatch z
    split at hf2
    · rename_i hc
      show if c = true then _ else _
      rw [if_pos hc]
      obtain ⟨yd, e3, hf2⟩ := Option.bind_eq_some_iff.mp hf2
      refine ⟨G1, H1, G5, ρ3, yd, good4.step s5, e3, fun v H6 G6 s6 r6 => ?_⟩
      have s36 := s35.trans s6
      have hD6 : H6 D = some (.lst us) := s36.hh _ _ hD2
      have gD6 : G6 D = none := (s36.new D hne).trans gD
      refine ⟨us, ds.length - (i + 1), hD6, ?_, by omega, rfl, hlt, G6, ρ3, acc ++ [yd], us ++ [v], sg.trans s36.gg, gD6, upd_same, (rs.mono s36.gg).snoc r6, by rw [List.length_append, List.length_singleton]; omega, now3, ((good4.step s5).step s6).wrX now3 gD6 hD, hf2⟩
      rw [← rs.length]
      exact lim_ok (Nat.le_trans hal (Nat.le_trans hi hlen))
    · rename_i hc
      show if c = true then _ else _
      rw [if_neg hc]
      exact ⟨ds.length - (i + 1), by omega, rfl, hlt, G5, ρ3, acc, us, sg.trans s35.gg, (s35.new D hne).trans gD, s35.hh _ _ hD2, rs.mono s35.gg, by omega, now3, good4.step s5, hf2⟩
  · have e : i = ds.length := by omega
    subst e
    rw [List.drop_length] at hf2
    cases hf2
    exact .inl ⟨y2 (Nat.le_refl _), k D us H2 G2 (s1.trans good2.st) (s1.hh.free hD) hD2 gD rs⟩
noncomputable def tOK : Tf := fun _ => some true
noncomputable def PFIfs (X : Cx) (ifs : List Expr) (t : Tf) : Prop := PIfs X ifs (tFT X.K t)
theorem pifs_nilF {X : Cx} : PFIfs X [] tOK := fun pins s σ H Q I h => pifs_nil pins s σ H Q I (by
  obtain ⟨G0, H0, G, ρ, b, good, hf, k⟩ := h
  cases hf
  exact k H G (.refl good.sub))
theorem pl_comp (sc : Scope) (N tgs frees : List Str) (js : List Nat) {scope : Scope} {gt : Gf} {t : Tf} {el : Ef} (hgo : GfOk gt) (hp : PFI X tg iter gi) (hc : X.calm = true) (hsc : X.env.scope = sc) (hNN : X.N = N) (hok : compOk sc scope N tgs frees js = true)
    (hg : ∀ C s₀ H₀ fp, PFG (compCx X (tgs ++ frees) scope C s₀ H₀ fp) tg gt) (hi : ∀ C s₀ H₀ fp, PFIfs (compCx X (tgs ++ frees) scope C s₀ H₀ fp) ifs t) (he : ∀ C s₀ H₀ fp, PF (compCx X (tgs ++ frees) scope C s₀ H₀ fp) elt el)
    (hs : ∀ x, foldedSetIterable iter X.env x = pure x := by intro _; rfl) :
    PFr X (.ListComp elt [⟨tg, iter, ifs, 0⟩] scope pos) (lComp gi tgs.length js gt t el) :=
  PE.toR (pe_comp (g := tFG X.K gt) (tc := tFT X.K t) (te := tF X.K el) sc tgs frees js hp hc hsc (by rw [hNN]; exact hok) hg hi he hs) fun σ H Q h => comp_imp hgo h
theorem ps_compOwn (sc : Scope) (N tgs frees : List Str) (js : List Nat) {scope : Scope} {gt : Gf} {t : Tf} {el : Ef} (hgo : GfOk gt) (i : Nat) {x : Str} {pos' spos : Pos} (hN : X.N.Nodup) (hx : X.N[i]? = some x) (hl : X.env.scope.names.lookup x = some .local) (hp : PFI X tg iter gi) (hc : X.calm = true) (hsc : X.env.scope = sc) (hNN : X.N = N) (hok : compOk sc scope N tgs frees js = true)
    (hg : ∀ C s₀ H₀ fp, PFG (compCx X (tgs ++ frees) scope C s₀ H₀ fp) tg gt) (hi : ∀ C s₀ H₀ fp, PFIfs (compCx X (tgs ++ frees) scope C s₀ H₀ fp) ifs t) (he : ∀ C s₀ H₀ fp, PF (compCx X (tgs ++ frees) scope C s₀ H₀ fp) elt el)
    (hsw : swapsWith (.ListComp elt [⟨tg, iter, ifs, 0⟩] scope pos) (some (.Name x pos')) spos.line X.env = pure true := by with_unfolding_all rfl) (hs : ∀ x, foldedSetIterable iter X.env x = pure x := by intro _; rfl) :
    PFS X (.Assign [.Name x pos'] (.ListComp elt [⟨tg, iter, ifs, 0⟩] scope pos) spos) (sOwn i (lComp gi tgs.length js gt t el)) :=
  PS.to (ps_setComp (g := tFG X.K gt) (tc := tFT X.K t) (te := tF X.K el) sc tgs frees js hN hx hl hp hc hsc (by rw [hNN]; exact hok) hg hi he hsw hs) fun D σ H h => sOwn_imp (fun _ _ _ q => comp_imp hgo q) h
end
end L2

namespace L2
open PySem PySem.Spec PyProof.Rows
section
variable {X : Cx} {a b c e tg elt iter : Expr} {es ifs : List Expr} {fa fb fc : Ef} {ga gi : Lf} {ta tc : Tf} {pos : Pos} {st : Stmt} {sts rest : List Stmt} {f g : Sf}

noncomputable def sApp (i : Nat) (f : Ef) : Sf := fun ρ => (f ρ).bind fun d => match ρ[i]? with | some (.ow ds) => if ds.length < lim then some (.nx (ρ.set i (.ow (ds ++ [d])))) else none | _ => none
theorem ps_app (i : Nat) (ht : PE X c (tBM X.K "list" rAppend (tVar i) (tCons (tF X.K fa) tNil))) (hs : swapsWith c none pos.line X.env = pure false := by rfl) : PFS X (.Expr c pos) (sApp i fa) := by
  refine PS.to (ps_expr ht hs) ?_
  rintro D σ H ⟨G0, H0, G, ρ, o, good, hf, k⟩
  unfold sApp at hf
  obtain ⟨d, h1, hf⟩ := Option.bind_eq_some_iff.mp hf
  split at hf
  · rename_i ds hi
    split at hf
    · rename_i hl
      cases hf
      obtain ⟨p, vs, e1, e2, e3, e4, e5⟩ := good.addr hi
      refine ⟨.ref p, e1, .inl ⟨rfl, vs, .of e2⟩, G0, H0, G, ρ, d, good, h1, fun v H1 G1 s1 r1 => ?_⟩
      have good1 := good.step s1
      obtain ⟨p', vs', f1, f2, f3, f4, f5⟩ := good1.addr hi
      rw [e1] at f1; cases f1
      exact ⟨p, vs', v, rfl, rfl, f2, by rw [← f5.length]; exact lim_ok (Nat.le_of_lt hl), k σ _ G1 s1.gg (good1.wr hi e1 (f5.snoc r1))⟩
    · cases hf
  · cases hf
noncomputable def lenD : D → Option D
  | .tup ds => some (.int ds.length)
  | .lst ds => some (.int ds.length)
  | .str z => if z.length ≤ lim then some (.int z.length) else none
  | _ => none
noncomputable def eLen (f : Ef) : Ef := fun ρ => (f ρ).bind lenD
theorem pf_len {p : Pos} (hg : Gl X "len") (hm : X.mg "len" = none) (h : PF X a fa) (hs : starEach [a] X.env = [(false, eval a X.env)] := by rfl) : PF X (.Call (.Name "len" p) [a] [] pos) (eLen fa) := by
  refine PE.to (pe_callB (call_len_seq.or call_len_str) hg hm PySem.boot_len (pa_cons h pa_nil (by rw [hs]; rfl)) (by decide) (by decide) (by rw [hs]; rfl) (by rfl)) ?_
  rintro σ H Q ⟨G0, H0, G, ρ, d, good, hf, k⟩
  unfold eLen at hf
  obtain ⟨x, h1, hf⟩ := Option.bind_eq_some_iff.mp hf
  refine ⟨G0, H0, G, ρ, _, good, h1, fun v H1 G1 s1 r1 => ?_⟩
  unfold lenD at hf
  split at hf
  · cases hf
    obtain ⟨p, vs, rfl, q, rs⟩ := rep_tup.mp r1
    exact .inl ⟨p, vs, rfl, .inr (s1.sub.tup q), k _ _ G1 s1 (rep_int.mpr (by rw [rs.length]))⟩
  · cases hf
    obtain ⟨p, vs, rfl, q, rs⟩ := rep_lst.mp r1
    exact .inl ⟨p, vs, rfl, .inl (s1.sub.seq q), k _ _ G1 s1 (rep_int.mpr (by rw [rs.length]))⟩
  · split at hf
    · rename_i hz
      cases hf
      exact .inr ⟨_, by rw [rep_str.mp r1], Nat.le_of_lt (lim_ok hz), k _ _ G1 s1 (rep_int.mpr rfl)⟩
    · cases hf
  · cases hf
noncomputable def tupD : D → Option D | .lst ds => some (.tup ds) | .tup ds => some (.tup ds) | _ => none
noncomputable def eTupOf (f : Ef) : Ef := fun ρ => (f ρ).bind tupD
theorem pf_tupOf {p : Pos} (hg : Gl X "tuple") (hm : X.mg "tuple" = none) (h : PF X a fa) (hs : starEach [a] X.env = [(false, eval a X.env)] := by rfl) : PF X (.Call (.Name "tuple" p) [a] [] pos) (eTupOf fa) := by
  refine PE.to (pe_callTy call_tuple_of hg hm (by rfl) (pa_cons h pa_nil (by rw [hs]; rfl)) (by decide) (by decide) (by rw [hs]; rfl) (by rfl)) ?_
  rintro σ H Q ⟨G0, H0, G, ρ, d, good, hf, k⟩
  unfold eTupOf at hf
  obtain ⟨x, h1, hf⟩ := Option.bind_eq_some_iff.mp hf
  refine ⟨G0, H0, G, ρ, _, good, h1, fun v H1 G1 s1 r1 => ?_⟩
  unfold tupD at hf
  split at hf
  · cases hf
    obtain ⟨p, vs, rfl, q, rs⟩ := rep_lst.mp r1
    refine ⟨p, vs, rfl, .inl ⟨s1.sub.seq q, fun l hl => ?_⟩⟩
    have s2 := Step.laid (o := .tup vs) s1.sub hl
    exact k _ _ _ (s1.trans s2) (rep_tup.mpr ⟨l, vs, rfl, .of upd_same, rs.mono s2.gg⟩)
  · cases hf
    obtain ⟨p, vs, rfl, q, rs⟩ := rep_tup.mp r1
    exact ⟨p, vs, rfl, .inr ⟨s1.sub.tup q, k _ _ G1 s1 r1⟩⟩
  · cases hf
noncomputable def itemsD : D → Option (List D) | .lst ds => some ds | .tup ds => some ds | _ => none
noncomputable def lListOf (f : Ef) : Lf := fun ρ => (f ρ).bind itemsD
theorem pl_listOf {p : Pos} (hg : Gl X "list") (hm : X.mg "list" = none) (h : PF X a fa) (hs : starEach [a] X.env = [(false, eval a X.env)] := by rfl) : PFr X (.Call (.Name "list" p) [a] [] pos) (lListOf fa) := by
  refine PE.toR (pe_callTy call_list_of hg hm (by rfl) (pa_cons h pa_nil (by rw [hs]; rfl)) (by decide) (by decide) (by rw [hs]; rfl) (by rfl)) ?_
  rintro σ H Q ⟨G0, H0, G, ρ, d, good, hf, k⟩
  unfold lListOf at hf
  obtain ⟨x, h1, hf⟩ := Option.bind_eq_some_iff.mp hf
  refine ⟨G0, H0, G, ρ, _, good, h1, fun v H1 G1 s1 r1 => ?_⟩
  unfold itemsD at hf
  split at hf
  · cases hf
    obtain ⟨p, vs, rfl, q, rs⟩ := rep_lst.mp r1
    exact ⟨p, vs, rfl, .inl (s1.sub.seq q), fun l hl => k l vs _ G1 (s1.trans (Step.own s1.sub hl)) (s1.hh.free hl) upd_same (s1.sub.free hl) rs⟩
  · cases hf
    obtain ⟨p, vs, rfl, q, rs⟩ := rep_tup.mp r1
    exact ⟨p, vs, rfl, .inr (s1.sub.tup q), fun l hl => k l vs _ G1 (s1.trans (Step.own s1.sub hl)) (s1.hh.free hl) upd_same (s1.sub.free hl) rs⟩
  · cases hf
end
end L2

namespace L2
open PySem PySem.Spec PyProof.Rows

noncomputable def spF (K : PySem.W.Frag) (n : Nat) (f : List D → Option D) : Sp := fun vs H Q _ => ∃ G ds d, Same G H ∧ Reps K G ds vs ∧ ds.length = n ∧ f ds = some d ∧ ∀ v H' G', Step G H G' H' → Rep K G' d v → Q v H'
noncomputable def startB (N : Nat) (ds : List D) : List B := ds.map .fz ++ List.replicate (N - ds.length) .no
noncomputable def outD : Out → Option D
  | .nx _ => some .non
  | .rt d => some d
  | .rl ds => some (.lst ds)
  | _ => none
noncomputable def fnF (N : Nat) (body : Sf) (ds : List D) : Option D := (body (startB N ds)).bind outD
theorem good_start {K : PySem.W.Frag} {G H : Hp} {N : List Str} {ds : List D} {vs : List V} (s : Same G H) (r : Reps K G ds vs) : Good K G H G H (start N vs) (startB N.length ds) := by
  refine ⟨.refl s, ?_, fun i j a es es' h1 => ?_⟩
  · unfold start startB
    rw [r.length]
    have rep : ∀ m : Nat, Paired (RB K H G H) (List.replicate m (none : Option V)) (List.replicate m B.no) := fun m => by
      induction m with
      | zero => exact .nil
      | succ n ih => rw [List.replicate_succ, List.replicate_succ]; exact .cons .no ih
    have key : ∀ (ds : List D) (vs : List V) (l : List (Option V)) (q : List B), Reps K G ds vs → Paired (RB K H G H) l q → Paired (RB K H G H) (vs.map some ++ l) (ds.map .fz ++ q) := by
      intro ds
      induction ds with
      | nil => intro vs l q h p; rw [reps_nil] at h; subst h; exact p
      | cons d r ih =>
        intro vs l q h p
        obtain ⟨v, vr, rfl, h1, h2⟩ := reps_cons.mp h
        exact .cons (.fz h1) (ih vr l q h2 p)
    exact key ds vs _ _ r (rep _)
  · unfold startB at h1
    by_cases hi : i < ds.length
    · rw [List.getElem?_append_left (by simpa using hi), List.getElem?_map] at h1
      obtain ⟨k, _, h1⟩ := Option.map_eq_some_iff.mp h1
      cases h1
    · rw [List.getElem?_append_right (by simpa using hi), List.getElem?_replicate] at h1
      split at h1 <;> cases h1
section
variable {P : Program} {w : World} {K : PySem.W.Frag} {mg : Str → Option Value} {base : Heap} {x qual : Str} {st : Stmt} {f : Addr} {fd : FuncData} {N ps : List Str} {k : Nat}
theorem ok_fn {body : Sf} (F : Fun K x qual st f fd) (S : FnScope N ps (defScope st))
    (hb : ∀ (cdv : Value) (A : Around) (outer : List Env) (s : Shared) (H : Hp) (E : XK), Room k (A.deeper (envOfC qual (defScope st) s.heap.objs.size f cdv)) → PFSs (cxOf CX0 P w K mg base N qual (defScope st) f cdv A outer s H E).nox (defBody st) body) :
    FnOk P w K mg base CX0 (k + 1) f fd ps (spF K ps.length (fnF N.length body)) := by
  refine F.ok S (fun vs H Q E h => ?_) (fun cdv A outer s H vs Q E hr h => ⟨_, hb cdv A outer s H E hr, ?_⟩)
  · obtain ⟨G, ds, d, sub, rs, hl, _⟩ := h
    rw [← rs.length]; exact hl
  · obtain ⟨G, ds, d, sub, rs, hl, hf, k⟩ := h
    unfold fnF at hf
    obtain ⟨o, h1, h2⟩ := Option.bind_eq_some_iff.mp hf
    refine ⟨G, H, G, _, o, good_start sub rs, h1, ?_⟩
    cases o with
    | nx ρ => cases h2; exact fun σ' H' G' s' g' => k .non H' G' g'.st (rep_non.mpr rfl)
    | rt e => cases h2; exact fun v H' G' s' r => k v H' G' s' r
    | rl es => cases h2; exact fun p us H' G' s' hn hp gp r => k _ H' (upd G' p (.lst us)) (s'.frz hn hp gp) (rep_lst.mpr ⟨p, us, rfl, .of upd_same, r.mono (Same.new gp)⟩)
    | bk ρ => cases h2
    | ct ρ => cases h2
end

section
variable {X : Cx} {a b c e tg elt iter : Expr} {es ifs : List Expr} {fa fb fc : Ef} {ga gi : Lf} {ta tc : Tf} {pos p : Pos} {st : Stmt} {sts rest : List Stmt} {f g : Sf}
noncomputable def eCall (n : Nat) (f : List D → Option D) (g : Lf) : Ef := fun ρ => (g ρ).bind fun ds => if ds.length = n then f ds else none
theorem pf_call {k n : Nat} {fad : Addr} {fd : FuncData} {ps : List Str} {x : Str} {fD : List D → Option D} (F : FnOk X.prog X.w X.K X.mg X.base CX0 k fad fd ps (spF X.K n fD)) (hr : Room k X.A) (hm : X.mg x = some (.ref fad)) (hk : PySem.W.keepIn X.K (.ref fad) = true) (hb : Binds X.K fd ps []) (hg : Gl X x)
    (ha : PFA X (e :: es) ga) (hdb : (x == ("__debug__" : Str)) = false := by decide) (he : starEach (e :: es) X.env = (false, eval e X.env) :: starEach es X.env := by rfl) (hpl : (backTo pos (starEach es X.env)).any (·.1) = false := by rfl) :
    PF X (.Call (.Name x p) (e :: es) [] pos) (eCall n fD ga) := by
  refine PE.to (pe_call (E := E0) F hr hg hm hk hb .nil pass0 ha hdb he hpl) ?_
  rintro σ H Q ⟨G0, H0, G, ρ, d, good, hf, k⟩
  unfold eCall at hf
  obtain ⟨ds, h1, hf⟩ := Option.bind_eq_some_iff.mp hf
  split at hf
  · rename_i hl
    refine ⟨G0, H0, G, ρ, _, good, h1, fun vs H1 G1 s1 r1 => ?_⟩
    show spF X.K n fD (vs ++ []) H1 Q E0
    rw [List.append_nil]
    exact ⟨G1, ds, d, s1.sub, r1, hl, hf, fun v H' G' s r => k v H' G' (s1.trans s) r⟩
  · cases hf
noncomputable def tyD : D → Option String
  | .non => some "NoneType"
  | .bl _ => some "bool"
  | .int _ => some "int"
  | .str _ => some "str"
  | .tup _ => some "tuple"
  | .lst _ => some "list"
  | _ => none
theorem isi_D {pins : List (Addr × Obj)} {σ : St} {H G : Hp} {s : Shared} {A : Around} {E : Value → Shared → Prop} {Q : Value → Shared → Prop} {d : D} {v : V} {u cl : Value} {t : String} {k : Bool} (I : Inv X pins σ H s) (rv : RelV v u) (sub : Same G H) (r : Rep X.K G d v) (ht : tyD d = some t)
    (e : PySem.W.kitOne X.K (.type t) cl = some k) (h : ∀ tk, Q (.bool k) { s with toks := tk }) : wpAny (model X.prog X.w) A (call (.builtin "isinstance") [u, cl]) Q E s := by
  cases d with
  | non => cases ht; rw [rep_non] at r; subst r; cases rv; exact PySem.W.kia_one PySem.W.kitx_none I.kIn True.intro e (fun z => nomatch z) h
  | bl y => cases ht; rw [rep_bl] at r; subst r; cases rv; exact PySem.W.kia_one PySem.W.kitx_bool I.kIn True.intro e (fun z => nomatch z) h
  | int i => cases ht; rw [rep_int] at r; subst r; obtain ⟨t, rfl⟩ := rv; exact PySem.W.kia_one PySem.W.kitx_int I.kIn True.intro e (fun z => nomatch z) h
  | str i => cases ht; rw [rep_str] at r; subst r; obtain ⟨t, rfl⟩ := rv; exact PySem.W.kia_one PySem.W.kitx_str I.kIn True.intro e (fun z => nomatch z) h
  | tup ds =>
    cases ht
    obtain ⟨p, vs, rfl, q, _⟩ := rep_tup.mp r
    cases rv
    obtain ⟨its, _, ⟨o, h1, h2, _⟩, _⟩ := I.tuple (sub.tup q)
    exact PySem.W.kia_one PySem.W.kitx_tuple I.kIn ⟨o, h1, h2⟩ e (fun z => nomatch z) h
  | lst ds =>
    cases ht
    obtain ⟨p, vs, rfl, q, _⟩ := rep_lst.mp r
    cases rv
    obtain ⟨its, _, ⟨o, n, h1, h2, _⟩, _⟩ := I.list (sub.seq q)
    exact PySem.W.kia_one PySem.W.kitx_list I.kIn ⟨o, h1, h2⟩ e (fun z => nomatch z) h
  | obj C ns ds => cases ht
  | exc C ns ds => cases ht
theorem kit_str (K : PySem.W.Frag) : ∀ t : String, t ∈ ["NoneType", "bool", "int", "str", "tuple", "list"] → PySem.W.kitOne K (.type t) (.type "str") = some (decide (t = "str")) := by
  intro t ht
  simp only [List.mem_cons, List.not_mem_nil, or_false] at ht
  rcases ht with rfl | rfl | rfl | rfl | rfl | rfl <;> kernel_rfl
theorem kit_list (K : PySem.W.Frag) : ∀ t : String, t ∈ ["NoneType", "bool", "int", "str", "tuple", "list"] → PySem.W.kitOne K (.type t) (.type "list") = some (decide (t = "list")) := by
  intro t ht
  simp only [List.mem_cons, List.not_mem_nil, or_false] at ht
  rcases ht with rfl | rfl | rfl | rfl | rfl | rfl <;> kernel_rfl
theorem tyD_mem {d : D} {t : String} (h : tyD d = some t) : t ∈ ["NoneType", "bool", "int", "str", "tuple", "list"] := by
  cases d <;> cases h <;> simp
noncomputable def isTy (p : D → Bool) (f : Ef) : Ef := fun ρ => (f ρ).bind fun d => match d with | .obj _ _ _ => none | .exc _ _ _ => none | d => some (.bl (p d))
noncomputable def isInt : D → Bool | .int _ => true | .bl _ => true | _ => false
noncomputable def isBool : D → Bool | .bl _ => true | _ => false
noncomputable def isStr : D → Bool | .str _ => true | _ => false
noncomputable def isTup : D → Bool | .tup _ => true | _ => false
noncomputable def isLst : D → Bool | .lst _ => true | _ => false
theorem pf_isi {T : Str} {TT : String} {q : D → Bool} {p1 : Pos} (hT : bootBuiltins T = some (.type TT)) (hq : ∀ (K : PySem.W.Frag) d t, tyD d = some t → PySem.W.kitOne K (.type t) (.type TT) = some (q d)) (hg : Gl X "isinstance") (hm : X.mg "isinstance" = none) (hgT : Gl X T) (hmT : X.mg T = none) (h : PF X a fa)
    (hn : T ≠ "__name__" := by decide) (hd : (T == ("__debug__" : Str)) = false := by decide) (hs : starEach [a, .Name T p1] X.env = [(false, eval a X.env), (false, eval (.Name T p1) X.env)] := by rfl) : PF X (.Call (.Name "isinstance" p) [a, .Name T p1] [] pos) (isTy q fa) := by
  have hcall : CallR X (.builtin "isinstance") (fun xs H Q => ∃ x G d, xs = [x, .ty TT] ∧ Same G H ∧ Rep X.K G d x ∧ (tyD d).isSome = true ∧ Q (.bl (q d)) H) := by
    intro pins s σ H xs us Q I r hh
    obtain ⟨x, G, d, rfl, sub, rx, ht, qq⟩ := hh
    obtain ⟨u, u', rfl, ru, ru'⟩ := vals2 r
    cases ru'
    obtain ⟨t, ht⟩ := Option.isSome_iff_exists.mp ht
    exact isi_D I ru sub rx ht (hq _ d t ht) fun tk => ⟨.bl (q d), H, I.tok tk, rfl, qq⟩
  refine PE.to (pe_callB hcall hg hm (by rfl) (pa_cons h (pa_cons (pe_bltn (v := .ty TT) hgT hmT hT rfl hn hd) pa_nil) (by rw [hs]; rfl)) (by decide) (by decide) (by rw [hs]; rfl) (by rfl)) ?_
  rintro σ H Q ⟨G0, H0, G, ρ, d, good, hf, k⟩
  unfold isTy at hf
  obtain ⟨x, h1, hf⟩ := Option.bind_eq_some_iff.mp hf
  refine ⟨G0, H0, G, ρ, _, good, h1, fun v H1 G1 s1 r1 => ?_⟩
  have hx : (tyD x).isSome = true ∧ d = .bl (q x) := by
    cases x <;> first
      | (cases hf; exact ⟨rfl, rfl⟩)
      | cases hf
  obtain ⟨hx, rfl⟩ := hx
  exact ⟨v, G1, x, rfl, s1.sub, r1, hx, k _ _ G1 s1 (rep_bl.mpr rfl)⟩
theorem hq_str (K : PySem.W.Frag) (d : D) (t : String) (h : tyD d = some t) : PySem.W.kitOne K (.type t) (.type "str") = some (isStr d) := by
  rw [kit_str K t (tyD_mem h)]; cases d <;> cases h <;> simp [isInt, isBool, isStr, isTup, isLst]
theorem hq_lst (K : PySem.W.Frag) (d : D) (t : String) (h : tyD d = some t) : PySem.W.kitOne K (.type t) (.type "list") = some (isLst d) := by
  rw [kit_list K t (tyD_mem h)]; cases d <;> cases h <;> simp [isInt, isBool, isStr, isTup, isLst]

end
end L2

namespace L2
open PySem PySem.Spec PyProof.Rows

theorem Inv.turnedNew {X : Cx} {pins : List (Addr × Obj)} {σ : St} {H : Hp} {s : Shared} {h' : Heap} {t' : Nat} {fp : List Addr} {T : Addr} {o : HO} (I : Inv X pins σ H s) (k : ∀ b u, b ∉ fp → s.heap.get? b = some u → h'.get? b = some u)
    (hf : ∀ b ∈ fp, FpOk X pins H b) (hT : s.heap.objs.size ≤ T) (new : ObjOk X.prog X.w (upd H T o) h' T o) : Inv X pins σ (upd H T o) { s with heap := h', toks := t' } := by
  have fr : H T = none := I.hok.fresh hT
  have neT : ∀ b u, s.heap.get? b = some u → b ≠ T := fun b u e => Nat.ne_of_lt (Nat.lt_of_lt_of_le (Heap.lt_size e) hT)
  have nfp : ∀ b u, H b = some u → b ∉ fp := fun b u e z => by have := (hf b z).1; rw [e] at this; cases this
  refine I.step (g' := s.gens) (d' := s.drawn) (ch := fp) (fun b hb => ⟨(hf b hb).2.2.2.1, (hf b hb).2.1, (hf b hb).2.2.2.2.1, (hf b hb).2.2.2.2.2⟩) (fun b u _ _ hc e _ => k b u hc e)
    (fun b u _ _ hc e _ => ⟨u.slots, k b u hc e⟩) (fun b u _ e n => by rw [upd_ne (neT b u e)]; exact n) (fun b u hc e => ⟨u, k b u hc e⟩)
    (fun b xs e => by rw [upd_ne (ne_of_none e fr)]; exact e) (fun b u x e => by rw [upd_ne (ne_of_none e fr)]; exact e) (fun b ps e => ⟨#[], by rw [upd_ne (ne_of_none e fr), e]; simp⟩) (fun m hm => ?_) (fun b u e => ?_) I.bare
  · obtain ⟨ob, es, ep, ho, r⟩ := hm
    exact ⟨ob, es, ep, k _ ob (fun z => (hf _ z).2.1 rfl) ho, r⟩
  · by_cases hb : b = T
    · subst hb; rw [upd_same] at e; cases e; exact new
    · rw [upd_ne hb] at e
      refine (I.hok b u e).stay (fun c v hc q => k c v ?_ q) (fun c q => by rw [upd_ne (ne_of_none q fr)]; exact q) fun c xs q => by rw [upd_ne (ne_of_none q fr)]; exact q
      rcases hc with z | z
      · rw [z]; exact nfp b u e
      · exact nfp c _ z
theorem Inv.turnedL {X : Cx} {pins : List (Addr × Obj)} {σ : St} {H : Hp} {s : Shared} {h' : Heap} {t' : Nat} {fp : List Addr} (I : Inv X pins σ H s) (k : ∀ b u, b ∉ fp → s.heap.get? b = some u → h'.get? b = some u)
    (hf : ∀ b ∈ fp, FpOk X pins H b) : Inv X pins σ H { s with heap := h', toks := t' } := by
  have nfp : ∀ b u, H b = some u → b ∉ fp := fun b u e z => by have := (hf b z).1; rw [e] at this; cases this
  refine I.step (g' := s.gens) (d' := s.drawn) (ch := fp) (fun b hb => ⟨(hf b hb).2.2.2.1, (hf b hb).2.1, (hf b hb).2.2.2.2.1, (hf b hb).2.2.2.2.2⟩) (fun b u _ _ hc e _ => k b u hc e)
    (fun b u _ _ hc e _ => ⟨u.slots, k b u hc e⟩) (fun b u _ e n => n) (fun b u hc e => ⟨u, k b u hc e⟩) (fun b xs e => e) (fun b u x e => e) (fun b ps e => ⟨#[], by rw [e]; simp⟩) (fun m hm => ?_) (fun b u e => ?_) I.bare
  · obtain ⟨ob, es, ep, ho, r⟩ := hm
    exact ⟨ob, es, ep, k _ ob (fun z => (hf _ z).2.1 rfl) ho, r⟩
  · refine (I.hok b u e).stay (fun c v hc q => k c v ?_ q) (fun c q => q) fun c xs q => q
    rcases hc with z | z
    · rw [z]; exact nfp b u e
    · exact nfp c _ z

noncomputable def Ite (K : PySem.W.Frag) (a : Addr) : It :=
  ⟨fun i H => ∃ xs x, SqL K H a xs ∧ xs[i]? = some x, fun i H x H' => ∃ p v, H p = none ∧ x = .ref p ∧ H' = upd H p (.tup [.int (i : Nat), v]) ∧ ∀ xs, SqL K H a xs → xs[i]? = some v, fun i H => ∃ xs, SqL K H a xs ∧ xs.length ≤ i⟩
theorem turn_enum {P : Program} {w : World} {K : PySem.W.Frag} {elts : List Expr} {k : Nat} {pos : Pos} (a e it : Addr) (hei : e ≠ it) : Turn P w K (.Tuple elts k pos) (Ite K a) [e, it] e (fun i h => (∃ old, IsEnum h e it (i : Nat) old) ∧ h.IsListIter it a i) where
  mem := by simp
  obj := fun i h st b hb => by
    obtain ⟨⟨old, he⟩, o, h1, h2, h3⟩ := st
    rcases List.mem_cons.mp hb with z | z
    · subst z; exact ⟨_, he, fun v q => nomatch q⟩
    · rcases List.mem_cons.mp z with z | z
      · subst z; exact ⟨o, h1, fun v q => by rw [h3] at q; cases q⟩
      · cases z
  keep := fun i h h' st kk => by
    obtain ⟨⟨old, he⟩, hl⟩ := st
    exact ⟨⟨old, kk e (by simp) _ he⟩, hl.at fun o q => kk it (by simp) o q⟩
  item := by
    intro X hP hw hK hc i pins s σ H E I hf st hg
    subst hP hw hK
    obtain ⟨xs, x, hq, hx⟩ := hg
    obtain ⟨its, rv, p, hz⟩ := I.list hq
    obtain ⟨u, hu, ru⟩ := rv.get hx
    obtain ⟨⟨old, he⟩, hit⟩ := st
    refine wpAny_pyNext_enum_item he hit p.isList (x := u) (by simpa using hu) hei fun h1 ho hit1 hT hsz hk => ?_
    have I1 : Inv X pins σ (upd H s.heap.objs.size (.tup [.int (i : Nat), x])) { s with heap := h1, toks := s.toks + 1 } := I.turnedNew (fun b o hb e => hk b o (fun z => hb (by simp [z])) (fun z => hb (by simp [z])) e) hf (Nat.le_refl _)
      ⟨by show 2 ≤ sizeLine; exact Nat.le_of_lt (lim_ok (by decide)), [.int (i : Nat) s.toks, u], .cons ⟨_, rfl⟩ (.cons ru .nil), ⟨_, hT, rfl, _, rfl⟩⟩
    refine ⟨_, rfl, wpAny_letOwnedTupleGo_enum ho fun h2 he2 hs2 => ?_⟩
    have hs2 : Heap.SameBut e h1 h2 := hs2
    have neT : ∀ b ∈ [e, it], b ≠ s.heap.objs.size := fun b hb z => by
      obtain ⟨o, h1, h2, h3⟩ := hit
      rcases List.mem_cons.mp hb with q | q
      · exact absurd (Heap.lt_size he) (by rw [← q, z]; exact Nat.lt_irrefl _)
      · rcases List.mem_cons.mp q with q | q
        · exact absurd (Heap.lt_size h1) (by rw [← q, z]; exact Nat.lt_irrefl _)
        · cases q
    have hf1 : ∀ b ∈ [e, it], FpOk X pins (upd H s.heap.objs.size (.tup [.int (i : Nat), x])) b := fun b hb => ⟨by rw [upd_ne (neT b hb)]; exact (hf b hb).1, (hf b hb).2⟩
    have I2 := I1.turnedL (h' := h2) (t' := s.toks + 1) (fp := [e, it]) (fun b o hb q => (hs2.2 b (fun z => hb (by simp [z]))).trans q) hf1
    refine ⟨.ref s.heap.objs.size, _, I2, rfl, ⟨s.heap.objs.size, x, I.fresh, rfl, rfl, fun ys hy => by rw [I.list_inj hy hq]; exact hx⟩, ⟨⟨_, by simpa using he2⟩, hit1.at fun o q => (hs2.2 it hei.symm).trans q⟩, fun b hb => (hf1 b hb).1⟩
  done := by
    intro X hP hw hK hc i pins s σ H E I hf st hg
    subst hP hw hK
    obtain ⟨xs, hq, hx⟩ := hg
    obtain ⟨its, rv, p, hz⟩ := I.list hq
    obtain ⟨⟨old, he⟩, hit⟩ := st
    have hl := rv.length
    exact wpAny_pyNext_enum_end (I.ok.hd hc) he hit p.isList (by simp; omega) fun h' eb => ⟨rfl, I.turnedL (t' := s.toks) (fp := [e, it]) (fun b o hb q => eb b o (fun z => hb (by simp [z])) q) hf⟩
  self := fun _ _ _ _ _ st h => wpAny_pyIter_enum st.1.choose_spec h
theorem yields_enum {K : PySem.W.Frag} {G : Hp} {a : Addr} {vs : List V} {ds : List D} (h : SqL K G a vs) (r : Reps K G ds vs) : Yields K (Ite K a) G (ds.zipIdx.map fun q => D.tup [.int (q.2 : Nat), q.1]) := by
  intro i G2 H2 s1 s2
  have q : SqL K H2 a vs := (s1.trans s2).seq h
  refine ⟨fun d hd => ?_, fun hi => ⟨vs, q, by rw [← r.length]; simpa using hi⟩⟩
  rw [List.getElem?_map, List.getElem?_zipIdx] at hd
  obtain ⟨⟨d0, j⟩, hd2, hd3⟩ := Option.map_eq_some_iff.mp hd
  obtain ⟨d1, hd1, e⟩ := Option.map_eq_some_iff.mp hd2
  cases e
  subst hd3
  obtain ⟨v, e, rv⟩ := r.get hd1
  refine ⟨⟨vs, v, q, e⟩, fun x H3 y => ?_⟩
  obtain ⟨p, u, hp, rfl, rfl, y⟩ := y
  have e2 := y vs q
  rw [e] at e2; cases e2
  have s3 := Step.laid (o := .tup [.int (i : Nat), v]) s2 hp
  refine ⟨_, s3, rep_tup.mpr ⟨p, _, rfl, .of upd_same, reps_cons.mpr ⟨_, _, rfl, rep_int.mpr (by simp), reps_cons.mpr ⟨_, _, rfl, (rv.mono s1).mono s3.gg, reps_nil.mpr rfl⟩⟩⟩⟩
section
variable {X : Cx} {a b c e tg elt iter : Expr} {es ifs : List Expr} {fa fb fc : Ef} {ga gb gi : Lf} {ta tc : Tf} {pos p : Pos} {st : Stmt}
noncomputable def numbered (ds : List D) : List D := ds.zipIdx.map fun q => D.tup [.int (q.2 : Nat), q.1]
noncomputable def iEnum (g : Lf) : Lf := fun ρ => (g ρ).map numbered
noncomputable def tSrc (K : PySem.W.Frag) (f : Lf) : TE := fun σ H Q => ∃ G0 H0 G ρ ds, Good K G0 H0 G H σ ρ ∧ f ρ = some ds ∧ ∀ a vs H' G', Step G H G' H' → SqL K G' a vs → Reps K G' ds vs → Q (.ref a) H'
noncomputable def PSrc (X : Cx) (e : Expr) (f : Lf) : Prop := PE X e (tSrc X.K f)
theorem src_r (h : PFr X e ga) : PSrc X e ga := fun pins s σ H Q I q => h pins s σ H Q I (by
  obtain ⟨G0, H0, G, ρ, ds, good, hf, k⟩ := q
  exact ⟨G0, H0, G, ρ, ds, good, hf, fun p vs H' G' s hn hp gp rs => k p vs H' (upd G' p (.lst vs)) (s.frz hn hp gp) (.of upd_same) (rs.mono (Same.new gp))⟩)
theorem src_l (h : PF X e fa) : PSrc X e (iL fa) := fun pins s σ H Q I q => h pins s σ H Q I (by
  obtain ⟨G0, H0, G, ρ, ds, good, hf, k⟩ := q
  unfold iL at hf
  obtain ⟨d, h1, hf⟩ := Option.bind_eq_some_iff.mp hf
  cases d with
  | lst es =>
    cases hf
    refine ⟨G0, H0, G, ρ, _, good, h1, fun x H1 G1 s1 r1 => ?_⟩
    obtain ⟨p, vs, rfl, q, rs⟩ := rep_lst.mp r1
    exact k p vs H1 G1 s1 q rs
  | _ => cases hf)
theorem pi_enum {elts : List Expr} {k : Nat} {pos' : Pos} (hg : Gl X "enumerate") (hm : X.mg "enumerate" = none) (h : PSrc X a ga) (hs : starEach [a] X.env = [(false, eval a X.env)] := by rfl) : PFI X (.Tuple elts k pos') (.Call (.Name "enumerate" p) [a] [] pos) (iEnum ga) := by
  intro pins s σ H R I q
  obtain ⟨G0, H0, G, ρ, ds, good, hf, kk⟩ := q
  unfold iEnum at hf
  obtain ⟨es, h1, rfl⟩ := Option.map_eq_some_iff.mp hf
  have h2 := pa_cons h pa_nil (by rw [hs]; rfl) pos pins s σ H (fun vs H' => ∃ a us G', vs = [.ref a] ∧ Step G H G' H' ∧ SqL X.K G' a us ∧ Reps X.K G' es us) I ⟨G0, H0, G, ρ, es, good, h1, fun a us H' G' s' hq rs => ⟨a, us, G', rfl, s', hq, rs⟩⟩
  refine Call_ (ld_blt I hg hm (by rfl) (PyProof.Rows.callWith_type1 (thn h2 fun us s1 ⟨vs, H1, I1, r1, l, ws, G1, e1, st1, hq, rs⟩ => ?_) hs rfl))
  subst e1
  obtain ⟨u, rfl, ru⟩ := vals1 r1
  cases ru
  obtain ⟨its, rv, pl, hz⟩ := I1.list (st1.sub.seq hq)
  refine call_enumerate_list pl.isList fun h' he hit hsz hk => ?_
  have I2 : Inv X pins σ H1 { s1 with heap := h' } := I1.kept (t' := s1.toks) hk
  refine wpAny_pyIter_enum he ?_
  refine ⟨_, [s1.heap.objs.size + 1, s1.heap.objs.size], _, _, H1, rfl, I2, turn_enum l _ _ (Nat.succ_ne_self _), ⟨⟨_, he⟩, hit⟩, fun b hb => ?_, kk _ H1 G1 st1 (yields_enum hq rs)⟩
  have hb' : s1.heap.objs.size ≤ b := by
    rcases List.mem_cons.mp hb with z | z
    · rw [z]; exact Nat.le_succ _
    · rcases List.mem_cons.mp z with z | z
      · exact Nat.le_of_eq z.symm
      · cases z
  exact I1.fpOk hb' (I1.hok.fresh hb')
noncomputable abbrev Of := List B → Option (Option Int)
noncomputable def tFO (K : PySem.W.Frag) (f : Of) : TO := fun σ H Q => ∃ G0 H0 G ρ o, Good K G0 H0 G H σ ρ ∧ f ρ = some o ∧ ∀ H' G', Step G H G' H' → Q o H'
noncomputable def PFO (X : Cx) (e : Option Expr) (f : Of) : Prop := PO X e (tFO X.K f)
noncomputable def oNo : Of := fun _ => some none
noncomputable def oSome (f : Ef) : Of := fun ρ => (f ρ).bind fun d => match d with | .int i => some (some i) | _ => none
theorem po_no : PFO X none oNo := fun pins s σ H Q I h => po_none pins s σ H Q I (by
  obtain ⟨G0, H0, G, ρ, o, good, hf, k⟩ := h
  cases hf
  exact k H G (.refl good.sub))
theorem po_sm (h : PF X e fa) : PFO X (some e) (oSome fa) := fun pins s σ H Q I q => po_some h pins s σ H Q I (by
  obtain ⟨G0, H0, G, ρ, o, good, hf, k⟩ := q
  unfold oSome at hf
  obtain ⟨d, h1, hf⟩ := Option.bind_eq_some_iff.mp hf
  cases d with
  | int i => cases hf; exact ⟨G0, H0, G, ρ, _, good, h1, fun v H' G' s r => ⟨i, rep_int.mp r, k H' G' s⟩⟩
  | _ => cases hf)
noncomputable def cutD (xs : List D) (lo hi : Option Int) : List D := (xs.drop (HT.sIx xs.length 0 lo)).take (HT.sIx xs.length xs.length hi - HT.sIx xs.length 0 lo)
noncomputable def lSlice (f : Ef) (lo hi : Of) : Lf := fun ρ => (f ρ).bind fun d => (lo ρ).bind fun l => (hi ρ).bind fun u => match d with | .lst ds => some (cutD ds l u) | _ => none
theorem pl_slice {lo hi : Option Expr} {fl fh : Of} {p2 : Pos} (ha : PF X a fa) (hl : PFO X lo fl) (hh : PFO X hi fh) : PFr X (.Subscript a (.Slice lo hi none p2) pos) (lSlice fa fl fh) := by
  refine PE.toR (pe_slice sl_list ha hl hh) ?_
  rintro σ H Q ⟨G0, H0, G, ρ, d, good, hf, k⟩
  unfold lSlice at hf
  obtain ⟨x, h1, hf⟩ := Option.bind_eq_some_iff.mp hf
  obtain ⟨l, h2, hf⟩ := Option.bind_eq_some_iff.mp hf
  obtain ⟨u, h3, hf⟩ := Option.bind_eq_some_iff.mp hf
  cases x with
  | lst ds =>
    cases hf
    refine ⟨G0, H0, G, ρ, _, good, h1, fun v H1 G1 s1 r1 => ⟨G0, H0, G1, ρ, _, good.step s1, h2, fun H2 G2 s2 => ⟨G0, H0, G2, ρ, _, (good.step s1).step s2, h3, fun H3 G3 s3 => ?_⟩⟩⟩
    obtain ⟨q, vs, rfl, hq, rs⟩ := rep_lst.mp r1
    have s23 := s2.trans s3
    refine ⟨q, vs, rfl, s23.hh |> fun z => (s1.sub.trans z).seq hq, fun p hp => ?_⟩
    have s4 := Step.own (o := .lst (cutV vs l u)) s23.sub hp
    refine k p _ _ G3 ((s1.trans s23).trans s4) ((s1.trans s23).hh.free hp) upd_same (s23.sub.free hp) ?_
    unfold cutV cutD
    rw [← rs.length]
    exact ((rs.mono s23.gg).drop _).take _
  | _ => cases hf
end
end L2

namespace L2
open PySem PySem.Spec PyProof.Rows

section
variable {prog : Program} {w : World} {A : Around} {E : Value → Shared → Prop} {s : Shared}
structure ZApart (z TI TO i1 i2 l1 l2 : Addr) : Prop where
  a1 : TI ≠ z
  a2 : TO ≠ z
  a3 : i1 ≠ z
  a4 : i2 ≠ z
  a5 : TI ≠ TO
  a6 : TI ≠ i1
  a7 : TI ≠ i2
  a8 : TO ≠ i1
  a9 : TO ≠ i2
  b1 : i1 ≠ i2
  b2 : l1 ≠ z
  b3 : l1 ≠ TO
  b4 : l1 ≠ i1
  b5 : l1 ≠ i2
  b6 : l2 ≠ z
  b7 : l2 ≠ TO
  b8 : l2 ≠ i1
  b9 : l2 ≠ i2
end
section
variable {prog : Program} {w : World} {A : Around} {E : Value → Shared → Prop} {s : Shared}
end
section
variable {X : Cx} {a b c e tg elt iter : Expr} {fa fb : Ef} {pos p : Pos}
end
end L2

set_option maxHeartbeats 4000000
namespace L2
open PySem PySem.Spec PyProof.Rows

noncomputable def eqDs (f : D → D → Option Bool) : List D → List D → Option Bool
  | x :: xs, y :: ys => (f x y).bind fun a => (eqDs f xs ys).map fun b => a && b
  | _, _ => some true
noncomputable def eqD : Nat → D → D → Option Bool
  | _ + 1, .int i, .int j => some (i == j)
  | _ + 1, .bl i, .bl j => some (i == j)
  | _ + 1, .str i, .str j => some (i == j)
  | _ + 1, .non, .non => some true
  | n + 1, .tup xs, .tup ys => (eqDs (eqD n) xs ys).map fun b => b && xs.length == ys.length
  | n + 1, .lst xs, .lst ys => if xs.length = ys.length then eqDs (eqD n) xs ys else some false
  | _, _, _ => none
noncomputable def pairAt (f : D → D → Option Bool) (xs ys : List D) (j : Nat) : Bool := match xs[j]?, ys[j]? with | some a, some c => (f a c).getD true | _, _ => true
theorem eqDs_all {f : D → D → Option Bool} : ∀ {xs ys : List D} {b : Bool}, eqDs f xs ys = some b → b = (List.range (min xs.length ys.length)).all (pairAt f xs ys) ∧ ∀ (j : Nat) (a c : D), xs[j]? = some a → ys[j]? = some c → f a c = some (pairAt f xs ys j)
  | [], _, _, h => by cases h; exact ⟨by simp, fun j a c e => by simp at e⟩
  | _ :: _, [], _, h => by cases h; exact ⟨by simp, fun j a c _ e => by simp at e⟩
  | x :: xs, y :: ys, b, h => by
    unfold eqDs at h
    obtain ⟨a, h1, h⟩ := Option.bind_eq_some_iff.mp h
    obtain ⟨b', h2, rfl⟩ := Option.map_eq_some_iff.mp h
    obtain ⟨e1, e2⟩ := eqDs_all h2
    constructor
    · rw [List.length_cons, List.length_cons, Nat.succ_min_succ, List.range_succ_eq_map, List.all_cons, List.all_map, e1]
      congr 1
      simp [pairAt, h1]
    · intro j p q hp hq
      cases j with
      | zero =>
        simp at hp hq
        subst hp; subst hq
        simp [pairAt, h1]
      | succ j =>
        have := e2 j p q (by simpa using hp) (by simpa using hq)
        simpa [pairAt] using this
section
variable {X : Cx} {pins : List (Addr × Obj)} {σ : St} {H G : Hp} {s : Shared}
theorem eqD_same (I : Inv X pins σ H s) (sub : Same G H) : ∀ (n : Nat) (d d' : D) (x : V) (k : Bool), eqD n d d' = some k → Rep X.K G d x → Rep X.K G d' x → k = true := by
  intro n
  induction n with
  | zero => intro d d' x k h; cases d <;> cases d' <;> cases h
  | succ n ih =>
    have many : ∀ (ds es : List D) (vs : List V) (b : Bool), eqDs (eqD n) ds es = some b → Reps X.K G ds vs → Reps X.K G es vs → b = true := by
      intro ds
      induction ds with
      | nil => intro es vs b h _ _; cases h; rfl
      | cons d r ihr =>
        intro es vs b h r1 r2
        cases es with
        | nil => cases h; rfl
        | cons e t =>
          unfold eqDs at h
          obtain ⟨a, h1, h⟩ := Option.bind_eq_some_iff.mp h
          obtain ⟨b', h2, rfl⟩ := Option.map_eq_some_iff.mp h
          obtain ⟨v, vr, rfl, q1, q2⟩ := reps_cons.mp r1
          obtain ⟨v', vr', e', q3, q4⟩ := reps_cons.mp r2
          cases e'
          rw [ih d e v a h1 q1 q3, ihr t vr b' h2 q2 q4]; rfl
    intro d d' x k h r1 r2
    cases d with
    | int i =>
      cases d' with
      | int j => cases h; rw [rep_int] at r1 r2; rw [r1] at r2; cases r2; simp
      | _ => cases h
    | bl i =>
      cases d' with
      | bl j => cases h; rw [rep_bl] at r1 r2; rw [r1] at r2; cases r2; simp
      | _ => cases h
    | str i =>
      cases d' with
      | str j => cases h; rw [rep_str] at r1 r2; rw [r1] at r2; cases r2; simp
      | _ => cases h
    | non =>
      cases d' with
      | non => cases h; rfl
      | _ => cases h
    | tup ds =>
      cases d' with
      | tup es =>
        unfold eqD at h
        obtain ⟨b, h1, rfl⟩ := Option.map_eq_some_iff.mp h
        obtain ⟨p, vs, e1, q1, q2⟩ := rep_tup.mp r1
        obtain ⟨p', vs', e2, q3, q4⟩ := rep_tup.mp r2
        rw [e1] at e2; cases e2
        have ev := I.tuple_inj (sub.tup q1) (sub.tup q3)
        subst ev
        rw [many ds es vs b h1 q2 q4, q2.length, q4.length]; simp
      | _ => cases h
    | lst ds =>
      cases d' with
      | lst es =>
        unfold eqD at h
        obtain ⟨p, vs, e1, q1, q2⟩ := rep_lst.mp r1
        obtain ⟨p', vs', e2, q3, q4⟩ := rep_lst.mp r2
        rw [e1] at e2; cases e2
        have ev := I.list_inj (sub.seq q1) (sub.seq q3)
        subst ev
        rw [if_pos (by rw [q2.length, q4.length])] at h
        exact many ds es vs k h q2 q4
      | _ => cases h
    | obj C ns ds => cases d' <;> cases h
    | exc C ns ds => cases d' <;> cases h
theorem at_D (I : Inv X pins σ H s) (sub : Same G H) : ∀ (n : Nat) (A : Around) (d d' : D) (x y : V) (u v : Value) (k : Bool), A.units + n < cLine → eqD n d d' = some k → Rep X.K G d x → Rep X.K G d' y → RelV x u → RelV y v →
    SeqAt.RcAt A s u v k ∧ SeqAt.RcNeAt A s u v (!k) ∧ SeqAt.EqAt A s u v k := by
  intro n
  induction n with
  | zero => intro A d d' x y u v k _ h; cases d <;> cases d' <;> cases h
  | succ n ih =>
    intro A d d' x y u v k hu h r1 r2 ru rv
    have hu1 : A.units < cLine := by omega
    have hin : A.in1.units + n < cLine := by show A.units + 1 + n < cLine; omega
    cases d with
    | int i =>
      cases d' with
      | int j => cases h; rw [rep_int] at r1 r2; subst r1; subst r2; obtain ⟨t, rfl⟩ := ru; obtain ⟨t', rfl⟩ := rv; exact ⟨SeqAt.RcAt.int_int _ _ _ _, SeqAt.RcNeAt.int_int _ _ _ _, SeqAt.EqAt.int_int _ _ _ _⟩
      | _ => cases h
    | bl i =>
      cases d' with
      | bl j => cases h; rw [rep_bl] at r1 r2; subst r1; subst r2; cases ru; cases rv; exact ⟨SeqAt.RcAt.bool_bool _ _, SeqAt.RcNeAt.bool_bool _ _, SeqAt.EqAt.bool_bool _ _⟩
      | _ => cases h
    | str i =>
      cases d' with
      | str j => cases h; rw [rep_str] at r1 r2; subst r1; subst r2; obtain ⟨t, rfl⟩ := ru; obtain ⟨t', rfl⟩ := rv; exact ⟨SeqAt.RcAt.str_str _ _ _ _, SeqAt.RcNeAt.str_str _ _ _ _, SeqAt.EqAt.str_str _ _ _ _⟩
      | _ => cases h
    | non =>
      cases d' with
      | non => cases h; rw [rep_non] at r1 r2; subst r1; subst r2; cases ru; cases rv; exact ⟨SeqAt.RcAt.none_none, SeqAt.RcNeAt.none_none, SeqAt.EqAt.same _⟩
      | _ => cases h
    | tup ds =>
      cases d' with
      | tup es =>
        have h0 := h
        unfold eqD at h
        obtain ⟨b, h1, rfl⟩ := Option.map_eq_some_iff.mp h
        obtain ⟨p, vs, rfl, q1, q2⟩ := rep_tup.mp r1
        obtain ⟨p', vs', rfl, q3, q4⟩ := rep_tup.mp r2
        cases ru; cases rv
        obtain ⟨its, w1, t1, _⟩ := I.tuple (sub.tup q1)
        obtain ⟨jts, w2, t2, _⟩ := I.tuple (sub.tup q3)
        obtain ⟨e1, e2⟩ := eqDs_all h1
        have l1 : ds.length = its.length := q2.length.trans w1.length
        have l2 : es.length = jts.length := q4.length.trans w2.length
        have he : ∀ j (a1 : j < its.toArray.size) (a2 : j < jts.toArray.size), SeqAt.EqAt A.in1 s its.toArray[j] jts.toArray[j] (pairAt (eqD n) ds es j) := fun j a1 a2 => by
          have b1 : j < ds.length := by rw [l1]; simpa using a1
          have b2 : j < es.length := by rw [l2]; simpa using a2
          obtain ⟨v1, f1, g1⟩ := q2.get (List.getElem?_eq_getElem b1)
          obtain ⟨v2, f2, g2⟩ := q4.get (List.getElem?_eq_getElem b2)
          obtain ⟨u1, f3, g3⟩ := w1.get f1
          obtain ⟨u2, f4, g4⟩ := w2.get f2
          have x1 : its.toArray[j] = u1 := by
            have := (List.getElem?_eq_some_iff.mp f3).2
            simpa using this
          have x2 : jts.toArray[j] = u2 := by
            have := (List.getElem?_eq_some_iff.mp f4).2
            simpa using this
          rw [x1, x2]
          exact (ih A.in1 _ _ v1 v2 u1 u2 _ hin (e2 j _ _ (List.getElem?_eq_getElem b1) (List.getElem?_eq_getElem b2)) g1 g2 g3 g4).2.2
        have ek : ((List.range (min its.toArray.size jts.toArray.size)).all (pairAt (eqD n) ds es) && its.toArray.size == jts.toArray.size) = (b && ds.length == es.length) := by
          rw [List.size_toArray, List.size_toArray, ← l1, ← l2, e1]
        have R1 := SeqAt.RcAt.tuples t1 t2 hu1 he
        have R2 := SeqAt.RcNeAt.tuples t1 t2 hu1 he
        rw [ek] at R1 R2
        refine ⟨R1, R2, ?_⟩
        by_cases hp : p = p'
        · subst hp
          have hk := eqD_same I sub (n + 1) (.tup ds) (.tup es) (.ref p) _ h0 r1 r2
          rw [hk]
          exact SeqAt.EqAt.same _
        · exact .of_refs hp R1
      | _ => cases h
    | lst ds =>
      cases d' with
      | lst es =>
        have h0 := h
        unfold eqD at h
        obtain ⟨p, vs, rfl, q1, q2⟩ := rep_lst.mp r1
        obtain ⟨p', vs', rfl, q3, q4⟩ := rep_lst.mp r2
        cases ru; cases rv
        obtain ⟨its, w1, t1, _⟩ := I.list (sub.seq q1)
        obtain ⟨jts, w2, t2, _⟩ := I.list (sub.seq q3)
        have l1 : ds.length = its.length := q2.length.trans w1.length
        have l2 : es.length = jts.length := q4.length.trans w2.length
        have fin : SeqAt.RcAt A s (.ref p) (.ref p') k ∧ SeqAt.RcNeAt A s (.ref p) (.ref p') (!k) := by
          split at h
          · rename_i hl
            obtain ⟨e1, e2⟩ := eqDs_all h
            have he : ∀ j (a1 : j < its.toArray.size) (a2 : j < jts.toArray.size), SeqAt.EqAt A.in1 s its.toArray[j] jts.toArray[j] (pairAt (eqD n) ds es j) := fun j a1 a2 => by
              have b1 : j < ds.length := by rw [l1]; simpa using a1
              have b2 : j < es.length := by rw [l2]; simpa using a2
              obtain ⟨v1, f1, g1⟩ := q2.get (List.getElem?_eq_getElem b1)
              obtain ⟨v2, f2, g2⟩ := q4.get (List.getElem?_eq_getElem b2)
              obtain ⟨u1, f3, g3⟩ := w1.get f1
              obtain ⟨u2, f4, g4⟩ := w2.get f2
              have x1 : its.toArray[j] = u1 := by
                have := (List.getElem?_eq_some_iff.mp f3).2
                simpa using this
              have x2 : jts.toArray[j] = u2 := by
                have := (List.getElem?_eq_some_iff.mp f4).2
                simpa using this
              rw [x1, x2]
              exact (ih A.in1 _ _ v1 v2 u1 u2 _ hin (e2 j _ _ (List.getElem?_eq_getElem b1) (List.getElem?_eq_getElem b2)) g1 g2 g3 g4).2.2
            have hsz : its.toArray.size = jts.toArray.size := by rw [List.size_toArray, List.size_toArray, ← l1, ← l2, hl]
            have ek : (List.range its.toArray.size).all (pairAt (eqD n) ds es) = k := by
              rw [e1, List.size_toArray, ← l1, ← hl, Nat.min_self]
            have R1 := SeqAt.RcAt.lists t1.isList t2.isList hsz hu1 he
            have R2 := SeqAt.RcNeAt.lists t1.isList t2.isList hsz hu1 he
            rw [ek] at R1 R2
            exact ⟨R1, R2⟩
          · rename_i hl
            cases h
            have hsz : (its.toArray.size != jts.toArray.size) = true := by
              rw [List.size_toArray, List.size_toArray, ← l1, ← l2]
              simpa using hl
            exact ⟨SeqAt.RcAt.lists_lengths t1.isList t2.isList hsz hu1, SeqAt.RcNeAt.lists_lengths t1.isList t2.isList hsz hu1⟩
        refine ⟨fin.1, fin.2, ?_⟩
        by_cases hp : p = p'
        · subst hp
          have hk := eqD_same I sub (n + 1) (.lst ds) (.lst es) (.ref p) _ h0 r1 r2
          rw [hk]
          exact SeqAt.EqAt.same _
        · exact .of_refs hp fin.1
      | _ => cases h
    | obj C ns ds => cases d' <;> cases h
    | exc C ns ds => cases d' <;> cases h
end
section
variable {X : Cx} {a b c e : Expr} {fa fb : Ef} {ga gb : Lf} {pos p : Pos} {k : Nat}
noncomputable def gNeD (x y : D) : Option Bool := (eqD 8 x y).map (!·)
theorem cm_neD (hr : Room k X.A) : CmR X .NotEq gNeD := by
  refine ⟨fun x y H Q => ∃ G d d' b, Same G H ∧ Rep X.K G d x ∧ Rep X.K G d' y ∧ eqD 8 d d' = some b ∧ Q (.bl (!b)) H, ?_, fun d d' k G H x y Q h s rx ry q => ?_⟩
  · intro pins s σ H x y v u Q I rx ry ⟨G, d, d', b, sub, r1, r2, h, q⟩
    have hu := hr.units
    exact (at_D I sub 8 X.A d d' x y v u b (by omega) h r1 r2 rx ry).2.1 X.prog X.w X.xe _ ⟨.bl (!b), H, I, rfl, q⟩
  · unfold gNeD at h
    obtain ⟨b, h1, rfl⟩ := Option.map_eq_some_iff.mp h
    exact ⟨G, d, d', b, s, rx, ry, h1, q H G (.refl s)⟩
end
end L2

namespace L2
open PySem PySem.Spec PyProof.Rows

section
variable {X : Cx} {a b c e tg elt iter : Expr} {es ifs : List Expr} {fa fb fc : Ef} {ga gb gi : Lf} {ta tc : Tf} {pos p : Pos} {st : Stmt}
noncomputable def addD : D → D → Option D
  | .int i, .int j => some (.int (i + j))
  | .str i, .str j => if i.length + j.length ≤ lim then some (.str (i ++ j)) else none
  | _, _ => none
noncomputable def eAddP (fa fb : Ef) : Ef := fun ρ => (fa ρ).bind fun x => (fb ρ).bind fun y => addD x y
theorem pf_addP (ha : PF X a fa) (hb : PF X b fb) : PF X (.BinOp a .Add b pos) (eAddP fa fb) := by
  refine PE.to (pe_op (op_add.or op_add_str) ha hb) ?_
  rintro σ H Q ⟨G0, H0, G, ρ, d, good, hf, k⟩
  unfold eAddP at hf
  obtain ⟨x, h1, hf⟩ := Option.bind_eq_some_iff.mp hf
  obtain ⟨y, h2, hf⟩ := Option.bind_eq_some_iff.mp hf
  refine ⟨G0, H0, G, ρ, _, good, h1, fun u H1 G1 s1 r1 => ⟨G0, H0, G1, ρ, _, good.step s1, h2, fun v H2 G2 s2 r2 => ?_⟩⟩
  have r1 := r1.mono s2.gg
  unfold addD at hf
  split at hf
  · cases hf; exact .inl ⟨_, _, rep_int.mp r1, rep_int.mp r2, k _ _ G2 (s1.trans s2) (rep_int.mpr rfl)⟩
  · split at hf
    · rename_i hz; cases hf; exact .inr ⟨_, _, rep_str.mp r1, rep_str.mp r2, Nat.le_of_lt (lim_ok hz), k _ _ G2 (s1.trans s2) (rep_str.mpr rfl)⟩
    · cases hf
  · cases hf
end
end L2

namespace L2
open PySem PySem.Spec PyProof.Rows
section
variable {X : Cx} {a b c e tg elt iter : Expr} {es ifs : List Expr} {fa fb fc : Ef} {ga gb gi : Lf} {ta tc : Tf} {pos p : Pos} {st : Stmt}
noncomputable def eStrOf (f : Ef) : Ef := fun ρ => (f ρ).bind fun d => match d with | .int i => if i.natAbs.log2 < 1920 then some (.str (Str.ofString (toString i))) else none | _ => none
theorem pf_strOf (hg : Gl X "str") (hm : X.mg "str" = none) (h : PF X a fa) (hs : starEach [a] X.env = [(false, eval a X.env)] := by rfl) : PF X (.Call (.Name "str" p) [a] [] pos) (eStrOf fa) := by
  refine PE.to (pe_callTy call_str_int hg hm (by rfl) (pa_cons h pa_nil (by rw [hs]; rfl)) (by decide) (by decide) (by rw [hs]; rfl) (by rfl)) ?_
  rintro σ H Q ⟨G0, H0, G, ρ, d, good, hf, k⟩
  unfold eStrOf at hf
  obtain ⟨x, h1, hf⟩ := Option.bind_eq_some_iff.mp hf
  refine ⟨G0, H0, G, ρ, _, good, h1, fun v H1 G1 s1 r1 => ?_⟩
  cases x with
  | int i =>
    dsimp only at hf
    split at hf
    · rename_i hz
      cases hf
      exact ⟨i, by rw [rep_int.mp r1], hz, k _ _ G1 s1 (rep_str.mpr rfl)⟩
    · cases hf
  | _ => cases hf
theorem op_mulB : OpR X (binaryOp .Mult) (rI IntMulOk fun i j => .int (i * j)) := opI fun _ _ _ _ _ _ _ hc q => mul_int q hc
noncomputable def strsD : List D → Option (List Str)
  | [] => some []
  | .str x :: r => (strsD r).map fun xs => x :: xs
  | _ => none
theorem strsD_rep {K : PySem.W.Frag} {G : Hp} : ∀ {ds : List D} {ys : List Str} {vs : List V}, strsD ds = some ys → Reps K G ds vs → vs = ys.map V.str
  | [], _, _, h, r => by cases h; rw [reps_nil] at r; rw [r]; rfl
  | d :: t, _, _, h, r => by
    unfold strsD at h
    split at h
    · rename_i h'; cases h'
    · rename_i k t' h'
      cases h'
      obtain ⟨v, vr, rfl, r1, r2⟩ := reps_cons.mp r
      obtain ⟨ks, h1, rfl⟩ := Option.map_eq_some_iff.mp h
      rw [strsD_rep h1 r2, rep_str.mp r1]; rfl
    · cases h
theorem strsAre_of {ns : List Str} : ∀ {us : List Value}, Vals (ns.map V.str) us → StrsAre us ns := by
  induction ns with
  | nil => intro us r; rw [List.map_nil] at r; cases r; exact .nil
  | cons n ns ih =>
    intro us r
    rw [List.map_cons] at r
    cases r with
    | cons r1 r2 =>
      obtain ⟨t, e⟩ := r1
      subst e
      exact .cons n t (ih r2)
noncomputable def rJoin (K : PySem.W.Frag) : V → List V → Hp → VK → Prop := fun x vs H Q => ∃ z p ys, x = .str z ∧ vs = [.ref p] ∧ SqL K H p (ys.map V.str) ∧ (ys.map (·.length)).sum + ys.length * z.length ≤ 16777216 ∧ Q (.str (Txt.join z ys)) H
theorem mt_join : MtR X "str.join" (rJoin X.K) := by
  intro pins s σ H x xs v us Q I rx rv h
  obtain ⟨z, p, ys, rfl, rfl, hq, hz, q⟩ := h
  obtain ⟨t, rfl⟩ := rx
  obtain ⟨u, rfl, ru⟩ := rv.one
  cases ru
  obtain ⟨its, r, pl, _⟩ := I.list hq
  exact join_list pl.isList (by simpa using strsAre_of r) hz fun t' k => ⟨.str _, H, I.tok k, ⟨t', rfl⟩, q⟩
noncomputable def eJoin (fa : Ef) (ga : Lf) : Ef := fun ρ => (fa ρ).bind fun x => (ga ρ).bind fun ds => match x with | .str z => (strsD ds).bind fun ys => if (ys.map (·.length)).sum + ys.length * z.length ≤ 100000 then some (.str (Txt.join z ys)) else none | _ => none
theorem pf_join (ht : PE X c (tBM X.K "str" (rJoin X.K) (tF X.K fa) (tCons (tSrc X.K ga) tNil))) : PF X c (eJoin fa ga) := by
  refine PE.to ht ?_
  rintro σ H Q ⟨G0, H0, G, ρ, d, good, hf, k⟩
  unfold eJoin at hf
  obtain ⟨x, h1, hf⟩ := Option.bind_eq_some_iff.mp hf
  obtain ⟨ds, h2, hf⟩ := Option.bind_eq_some_iff.mp hf
  cases x with
  | str z =>
    dsimp only at hf
    obtain ⟨ys, h3, hf⟩ := Option.bind_eq_some_iff.mp hf
    split at hf
    · rename_i hz
      cases hf
      refine ⟨G0, H0, G, ρ, _, good, h1, fun u H1 G1 s1 r1 => ?_⟩
      have r1 := rep_str.mp r1
      subst r1
      refine ⟨rfl, G0, H0, G1, ρ, _, good.step s1, h2, fun q vs H2 G2 s2 hq rs => ?_⟩
      have e := strsD_rep h3 rs
      subst e
      exact ⟨z, q, ys, rfl, rfl, s2.sub.seq hq, Nat.le_trans hz (by decide), k _ _ G2 (s1.trans s2) (rep_str.mpr rfl)⟩
    · cases hf
  | _ => cases hf
end
structure FunD (K : PySem.W.Frag) (x qual : Str) (st : Stmt) (f : Addr) (fd : FuncData) : Prop where
  ex : ∃ (oc : Value) (od : Option Addr) (dV kV doc pm : Value) (an : Option Addr) (cdv ct : Value) (osl : Array (Option Value)),
    fd = PySem.W.fnOf x qual (defArgs st) (defBody st) (defScope st) dV kV doc pm an cdv ct ∧ K.lookup f = some ⟨oc, od, .func fd, osl⟩ ∧ PySem.W.codeIn K cdv qual = true
  kp : PySem.W.keepIn K (.ref f) = true
section
variable {P : Program} {w : World} {K : PySem.W.Frag} {mg : Str → Option Value} {base : Heap} {x qual : Str} {st : Stmt} {f : Addr} {fd : FuncData} {N ps : List Str} {k : Nat}
end
section
variable {X : Cx} {e : Expr} {es : List Expr} {ga : Lf} {pos p : Pos}
end
end L2

namespace L2
open PySem PySem.Spec PyProof.Rows

section
variable {X : Cx} {a b c e tg elt iter : Expr} {es ifs : List Expr} {fa fb fc : Ef} {ga gb gi : Lf} {ta tc : Tf} {pos p : Pos} {st : Stmt}
end
section
variable {P : Program} {w : World} {K : PySem.W.Frag} {mg : Str → Option Value} {base : Heap} {x qual : Str} {st : Stmt} {f C : Addr} {fd : FuncData} {N ps ns : List Str} {k : Nat} {sf : Str}
end
section
variable {X : Cx} {a b c e tg elt iter : Expr} {es ifs : List Expr} {fa fb fc : Ef} {ga gb gi : Lf} {ta tc : Tf} {pos p : Pos} {st : Stmt}
end
section
variable {l : Addr} {its : Array Value} {n : Nat} {dd : Option Addr} {sl : Array (Option Value)} {y : Value} {q : Nat → Bool} {top : Int} {j : Nat}
end
section
variable {X : Cx} {a b c e tg elt iter : Expr} {es ifs : List Expr} {fa fb fc : Ef} {ga gb gi : Lf} {ta tc : Tf} {pos p : Pos} {st : Stmt}
end
end L2

namespace L2
open PySem PySem.Spec PyProof.Rows
section
variable {prog : Program} {w : World} {A : Around} {E : Value → Shared → Prop} {s : Shared}
structure Z3 (z TI TO i1 i2 i3 l1 l2 l3 : Addr) : Prop where
  TIz : TI ≠ z
  TOz : TO ≠ z
  i1z : i1 ≠ z
  i2z : i2 ≠ z
  i3z : i3 ≠ z
  TITO : TI ≠ TO
  TIi1 : TI ≠ i1
  TIi2 : TI ≠ i2
  TIi3 : TI ≠ i3
  TOi1 : TO ≠ i1
  TOi2 : TO ≠ i2
  TOi3 : TO ≠ i3
  i12 : i1 ≠ i2
  i13 : i1 ≠ i3
  i23 : i2 ≠ i3
  a1 : l1 ≠ z
  a2 : l1 ≠ TO
  a3 : l1 ≠ i1
  a4 : l1 ≠ i2
  a5 : l1 ≠ i3
  b1 : l2 ≠ z
  b2 : l2 ≠ TO
  b3 : l2 ≠ i1
  b4 : l2 ≠ i2
  b5 : l2 ≠ i3
  c1 : l3 ≠ z
  c2 : l3 ≠ TO
  c3 : l3 ≠ i1
  c4 : l3 ≠ i2
  c5 : l3 ≠ i3
end
section
variable {prog : Program} {w : World} {A : Around} {E : Value → Shared → Prop} {s : Shared}
end
section
variable {X : Cx} {a b c e tg elt iter : Expr} {fa fb fc : Ef} {ga : Lf} {pos p : Pos}
end
end L2

namespace L2
open PySem PySem.Spec PyProof.Rows
section
variable {X : Cx} {a b c e : Expr} {es : List Expr} {fa fb fc : Ef} {ga gb : Lf} {pos p : Pos}
end
section
variable {prog : Program} {w : World} {A : Around} {E : Value → Shared → Prop} {s : Shared}
open HT in
theorem getItem_tuple_whole {t sl : Addr} {items : Array Value} {vl vu : Value} {lo hi : Option Int} {Q : Value → Shared → Prop} (ht : IsTup s.heap t items) (hs : s.heap.IsSliceOf sl vl vu .none) (pl : IsPart vl lo) (pu : IsPart vu hi)
    (hw : sIx items.size 0 lo = 0 ∧ sIx items.size items.size hi = items.size)
    (h : Q (.ref t) s) : wpAny (model prog w) A (getItem (.ref t) (.ref sl)) Q E s := by
  obtain ⟨os, hos, hcs, hds⟩ := id hs
  have hTs : s.TypeIs (.ref sl) "slice" := ⟨os, hos, hcs⟩
  unfold getItem
  try with_reducible refine wpAny_holding ?_
  first | refine wpAny_bind (wpAny_pure ?_) | skip
  refine wpAny_bind (wpAny_sequenceKey ht.typeIs (by decide) ?_)
  refine wpAny_bind (wpAny_callSpecial?_slot (name := Str.ofString "__getitem__") ht.typeIs PyProof.Rows.slot_tuple_getitem
    (wpAny_call_entry PyProof.Rows.slot_tuple_getitem ht.typeIs entry_tuple_getitem ?_ (args_tuple_getitem _ _)))
  show wpAny _ _ (Builtin.Tuple.tupleItemsOf (.ref t) >>= _) _ _ s
  refine wpAny_bind (tupleItemsOf_ ht ?_)
  refine wpAny_bind (wpAny_typeOf hTs ?_)
  rw [if_pos (by decide)]
  refine wpAny_bind (sliceApplied_gen hs pl pu ?_)
  show wpAny _ _ (if (((sIx items.size 0 lo : Nat) : Int) == 0 && (1 : Int) == 1 && (sIx items.size items.size hi - sIx items.size 0 lo) == items.size) = true then _ else _) _ _ s
  rw [if_pos (by rw [hw.1, hw.2]; simp)]
  unfold Builtin.Tuple.tupleIsExact
  refine wpAny_bind (wpAny_bind (wpAny_typeOf ht.typeIs (wpAny_pure ?_)))
  rw [if_pos (by decide)]
  refine wpAny_bind (wpAny_rule ?_)
  exact wpAny_pure ⟨_, rfl, wpAny_pure h⟩
end
section
variable {X : Cx} {a b c e : Expr} {es : List Expr} {fa fb fc : Ef} {ga gb : Lf} {pos p : Pos}
theorem sl_tupW : SlR X (fun x lo hi H Q => ∃ a xs, x = .ref a ∧ SqT X.K H a xs ∧ (HT.sIx xs.length 0 lo = 0 ∧ HT.sIx xs.length xs.length hi = xs.length) ∧ Q (.ref a) H) := by
  intro pins s σ H x v vl vu lo hi sl Q I rx hs pl pu h
  obtain ⟨a, xs, rfl, hx, hw, q⟩ := h
  cases rx
  obtain ⟨its, r, ht, hz⟩ := I.tuple hx
  have hlen : its.toArray.size = xs.length := by rw [List.size_toArray]; exact r.length.symm
  refine ⟨"tuple", _, PyProof.Rows.slot_tuple_getitem.lookup, ht.typeIs, ?_⟩
  exact getItem_tuple_whole ht hs pl pu (by rw [hlen]; exact hw) ⟨.ref a, H, I, rfl, q⟩
noncomputable def eTCut (f : Ef) (lo hi : Of) : Ef := fun ρ => (f ρ).bind fun d => (lo ρ).bind fun l => (hi ρ).bind fun u => match d with | .tup ds => some (.tup (cutD ds l u)) | _ => none
theorem pf_tcut {lo hi : Option Expr} {fl fh : Of} {p2 : Pos} (ha : PF X a fa) (hl : PFO X lo fl) (hh : PFO X hi fh) : PF X (.Subscript a (.Slice lo hi none p2) pos) (eTCut fa fl fh) := by
  refine PE.to (pe_slice (sl_tup.or sl_tupW) ha hl hh) ?_
  rintro σ H Q ⟨G0, H0, G, ρ, d, good, hf, k⟩
  unfold eTCut at hf
  obtain ⟨x, h1, hf⟩ := Option.bind_eq_some_iff.mp hf
  obtain ⟨l, h2, hf⟩ := Option.bind_eq_some_iff.mp hf
  obtain ⟨u, h3, hf⟩ := Option.bind_eq_some_iff.mp hf
  cases x with
  | tup ds =>
    cases hf
    refine ⟨G0, H0, G, ρ, _, good, h1, fun v H1 G1 s1 r1 => ⟨G0, H0, G1, ρ, _, good.step s1, h2, fun H2 G2 s2 => ⟨G0, H0, G2, ρ, _, (good.step s1).step s2, h3, fun H3 G3 s3 => ?_⟩⟩⟩
    obtain ⟨q, vs, rfl, hq, rs⟩ := rep_tup.mp r1
    have s23 := s2.trans s3
    have hqq : SqT X.K H3 q vs := (s1.sub.trans s23.hh).tup hq
    by_cases hw : HT.sIx vs.length 0 l = 0 ∧ HT.sIx vs.length vs.length u = vs.length
    · refine .inr ⟨q, vs, rfl, hqq, hw, ?_⟩
      have e : cutD ds l u = ds := by
        unfold cutD
        rw [rs.length, hw.1, hw.2, List.drop_zero, Nat.sub_zero, ← rs.length, List.take_length]
      rw [e] at k
      exact k _ _ G3 (s1.trans s23) (rep_tup.mpr ⟨q, vs, rfl, s23.gg.tup hq, rs.mono s23.gg⟩)
    · refine .inl ⟨q, vs, rfl, hqq, hw, fun p hp => ?_⟩
      have s4 := Step.laid (o := .tup (cutV vs l u)) s23.sub hp
      have e : Reps X.K G3 (cutD ds l u) (cutV vs l u) := by
        unfold cutV cutD
        rw [← rs.length]
        exact ((rs.mono s23.gg).drop _).take _
      exact k _ _ _ ((s1.trans s23).trans s4) (rep_tup.mpr ⟨p, _, rfl, .of upd_same, e.mono s4.gg⟩)
  | _ => cases hf
end
end L2

namespace L2
open PySem PySem.Spec PyProof.Rows
section
variable {prog : Program} {w : World} {A : Around} {E : Value → Shared → Prop} {s : Shared}
end
section
variable {X : Cx} {a b c e tg elt iter : Expr} {es : List Expr} {fa fb fc : Ef} {ga gb : Lf} {pos p : Pos}
noncomputable def cMulW (i j : Int) : Bool := decide (Builtin.Int.intBits i ≤ 2097152) && decide (Builtin.Int.intBits j ≤ 2097152)
noncomputable abbrev eMulW := eI cMulW (fun i j => i * j)
theorem pf_mulW (ha : PF X a fa) (hb : PF X b fb) : PF X (.BinOp a .Mult b pos) (eMulW fa fb) := pf_i op_mulB (fun i j h => by
  unfold cMulW at h
  simp only [Bool.and_eq_true, decide_eq_true_eq] at h
  exact mulOk_of_bits h.1 h.2 (by decide)) ha hb
end
end L2

namespace L2
open PySem PySem.Spec PyProof.Rows
section
variable {X : Cx} {a b c e tg elt iter : Expr} {es : List Expr} {fa fb fc : Ef} {ga gb : Lf} {pos p : Pos}
end
end L2
namespace Att
open PySem PySem.W PySem.Spec PyProof.Rows
theorem bits_of_lay {ns : List Int} (h : WData.layableAll [WData.list (ns.map WData.int)] = true) : ∀ n ∈ ns, Builtin.Int.intBits n ≤ 1048576 := by
  unfold WData.layableAll WData.layable at h
  rw [List.all_cons, List.all_nil, Bool.and_true, Bool.and_eq_true, decide_eq_true_eq] at h
  have hw := h.2
  unfold WData.weight at hw
  have key : ∀ l : List Int, ∀ n ∈ l, Builtin.Int.intBits n ≤ WData.weightAll (l.map WData.int) := by
    intro l
    induction l with
    | nil => intro n hn; cases hn
    | cons x r ih =>
      intro n hn
      rw [List.map_cons]
      unfold WData.weightAll
      rcases List.mem_cons.mp hn with e | e
      · subst e
        have : WData.weight (WData.int n) = Builtin.Int.intBits n := by unfold WData.weight Builtin.Int.intBits; rfl
        omega
      · have := ih n e
        omega
  intro n hn
  have := key ns n hn
  have e : (2 : Nat) ^ 20 = 1048576 := by decide
  omega
end Att
namespace Att
open PySem PySem.W PySem.Calls PyProof.Rows
theorem attach_bits {l : OpenLaw} {n : Nat} {q : Program} {loose : List Str} {XP : (Str → Option Value) → Heap → Prop} {YP : World → Heap → Prop} {d : DefRec}
    (hn : l.most = some n) (hdf : d.params.defaults = [])
    (run : ∀ (w : World) (s₀ s₁ : Shared) (mg mb : Str → Option Value) (fa : Addr) (o : Obj) (pm cd doc : Value) (a : Addr) (vs : List Value) (ns : List Int),
      Ground q loose [] XP w s₀ mg mb s₁.heap → YP w s₁.heap →
      s₁.heap.get? fa = some o → o.data = .func (docDef d.name d.params d.body d.scope pm cd doc) → s₁.heap.CodeRec cd d.name → mg d.name = some (.ref fa) →
      s₁.heap.get? a = some { cls := .type "list", data := .seq vs.toArray } → IntsAre vs ns → ns.length ≤ n → (∀ n ∈ ns, Builtin.Int.intBits n ≤ 1048576) → s₁.gens = #[] →
      codeAny (model l.prog w) callerA (.call (.ref fa) ⟨[.ref a], []⟩) (fun r s' => r = .ok (.ret (.bool true)) ∧ OldK s₁.heap s'.heap ∧ s'.os = s₁.os ∧ AllBare s'.gens) s₁) :
    WalkO q loose XP YP l.row.toRowW d [] (fun f vs => PySem.call f vs) := by
  intro w s₀ s₁ mg mb G Y fa o pm cd doc dV kV ho hd hcd hD hmg hg args vals as hpre hlay hrd hwl hlo
  obtain rfl : dV = .none := Dflts.none hD hdf
  obtain rfl : kV = .none := Dflts.noKw hD
  obtain ⟨a, vs, ns, rfl, rfl, hobj, hints, hlen⟩ := script_of hn hpre hwl
  refine enter_call (codeAny_mono (run w s₀ s₁ mg mb fa o pm cd doc a vs ns G Y ho (fd_plain hd) hcd hmg hobj hints hlen (bits_of_lay hlay) hg) fun r s' hq => ?_)
  obtain ⟨rfl, h2, h3, h4⟩ := hq
  exact ⟨.inl ⟨.bool true, .bool true, [], rfl, fun _ => rfl, .bool true, post_true l _, fun _ => ⟨List.Pairwise.nil, fun _ hm => (nomatch hm)⟩⟩, h2, h3, h4⟩
end Att
namespace L2
open PySem PySem.Spec PyProof.Rows
theorem walk_bits {l : PySem.W.OpenLaw} {n k : Nat} {q : Program} {loose : List Str} {XP : (Str → Option Value) → Heap → Prop} {YP : World → Heap → Prop} {d : DefRec} {K : Params → PySem.W.Frag} {CX : World → CXT} {sp : World → Sp} {x : Str}
    (hn : l.most = some n) (hn2 : n ≤ sizeLine) (hdf : d.params.defaults = []) (hr : Room k callerA)
    (hY : ∀ (w : World) (h : Heap), YP w h → (K w.params).In h)
    (F : ∀ (w : World) (mg : Str → Option Value) (fa : Addr) (h : Heap), (K w.params).In h → h.Ns mainGlobals mg → mg d.name = some (.ref fa) →
      ∃ fd : FuncData, (∀ (s : Shared) (u : Value), BindsTo s fd ⟨[u], []⟩ [(x, u)]) ∧
        ∀ base : Heap, (K w.params).In base → base.Ns mainGlobals mg → FnOk l.prog w (K w.params) mg base (CX w) k fa fd [x] (sp w))
    (hsp : ∀ (w : World) (H : Hp) (a : Addr) (ns : List Int), ns.length ≤ n → (∀ n ∈ ns, Builtin.Int.intBits n ≤ 1048576) → Only H → SqL (K w.params) H a (ns.map V.int) → sp w [.ref a] H (fun v _ => v = .bl true) fun _ _ _ => False)
    (hCX : ∀ (w : World) (H : Hp) (s : Shared) (e : Value) (s' : Shared), CX w [] H s (fun _ _ _ => False) e s' → False) :
    PySem.W.WalkO q loose XP YP l.row.toRowW d [] (fun f vs => PySem.call f vs) := by
  refine Att.attach_bits hn hdf fun w s₀ s₁ mg mb fa o pm cd doc a vs ns G Y ho hd hcd hmg hobj hints hlen hbits hg => ?_
  have KX := hY w _ Y
  obtain ⟨fd, hb, hF⟩ := F w mg fa _ KX G.T.g hmg
  exact law_call KX G.T.g G.T.b G.T.builtins G.T.nolimit hg hobj hints (Nat.le_trans hlen hn2) hr hF hb (fun H hO hS => hsp w H a ns hlen hbits hO hS) fun H e s' => hCX w H s₁ e s'
end L2
namespace L2
open PySem PySem.Spec PyProof.Rows
section
variable {X : Cx} {a b c e : Expr} {fa fb fc : Ef} {pos : Pos}
end
end L2

namespace L2
open PySem PySem.Spec PyProof.Rows
section
variable {X : Cx} {a b c e : Expr} {es : List Expr} {fa fb fc : Ef} {ga gb : Lf} {pos p : Pos}
end
end L2

namespace L2
open PySem PySem.Spec PyProof.Rows
inductive All2 {α β : Type} (R : α → β → Prop) : List α → List β → Prop
  | nil : All2 R [] []
  | cons {a b l m} : R a b → All2 R l m → All2 R (a :: l) (b :: m)
theorem All2.length {α β : Type} {R : α → β → Prop} : ∀ {l : List α} {m : List β}, All2 R l m → l.length = m.length
  | _, _, .nil => rfl
  | _, _, .cons _ t => by rw [List.length_cons, List.length_cons, t.length]
theorem All2.imp {α β : Type} {R S : α → β → Prop} (h : ∀ a b, R a b → S a b) : ∀ {l : List α} {m : List β}, All2 R l m → All2 S l m
  | _, _, .nil => .nil
  | _, _, .cons q t => .cons (h _ _ q) (t.imp h)
theorem All2.inj {α β : Type} {R : α → β → Prop} (h : ∀ a a' b, R a b → R a' b → a = a') : ∀ {l l' : List α} {m : List β}, All2 R l m → All2 R l' m → l = l'
  | _, _, _, .nil, .nil => rfl
  | _, _, _, .cons q t, .cons q' t' => by rw [h _ _ _ q q', All2.inj h t t']
theorem All2.get {α β : Type} {R : α → β → Prop} : ∀ {l : List α} {m : List β}, All2 R l m → ∀ (j : Nat) (h1 : j < l.length) (h2 : j < m.length), R l[j] m[j]
  | _, _, .cons q t, 0, _, _ => q
  | _, _, .cons q t, j + 1, h1, h2 => t.get j (by simpa using h1) (by simpa using h2)
section
variable {prog : Program} {w : World} {E : Value → Shared → Prop}
end
end L2

namespace L2
open PySem PySem.Spec PyProof.Rows
section
variable {X : Cx} {pins : List (Addr × Obj)} {σ : St} {G H : Hp} {s : Shared}
theorem ODs.keys {K : PySem.W.Frag} : ∀ {kvs ks as vs}, ODs K G kvs ks as vs → (kvs.map fun p => ktD 8 p.1) = ks.map some
  | _, _, _, _, .nil => rfl
  | _, _, _, _, .cons h1 _ _ h => by rw [List.map_cons, List.map_cons, h1, ODs.keys h]
theorem ODs.snoc {K : PySem.W.Frag} {d e : D} {k : KT} {a : Addr} {v : V} (h1 : ktD 8 d = some k) (h2 : Rep K G d (.ref a)) (h3 : Rep K G e v) : ∀ {kvs ks as vs}, ODs K G kvs ks as vs → ODs K G (kvs ++ [(d, e)]) (ks ++ [k]) (as ++ [a]) (vs ++ [v])
  | _, _, _, _, .nil => .cons h1 h2 h3 .nil
  | _, _, _, _, .cons a1 a2 a3 h => .cons a1 a2 a3 (ODs.snoc h1 h2 h3 h)
end
theorem Paired.upd {α β : Type} {F F' : α → β → Prop} {b' : β} : ∀ {l : List α} {r : List β} (i : Nat), Paired F l r → (∀ (j : Nat) (a : α) (b : β), j ≠ i → l[j]? = some a → r[j]? = some b → F a b → F' a b) → (∀ a, l[i]? = some a → F' a b') → Paired F' l (r.set i b')
  | _, _, _, .nil, _, _ => .nil
  | _, _, 0, .cons q t, h1, h2 => by
    rw [List.set_cons_zero]
    refine .cons (h2 _ rfl) ?_
    have tl : ∀ {l : List α} {r : List β} (n : Nat), Paired F l r → (∀ (j : Nat) (a : α) (b : β), l[j]? = some a → r[j]? = some b → F a b → F' a b) → Paired F' l r := by
      intro l r n p
      induction p with
      | nil => intro _; exact .nil
      | cons q t ih => intro h; exact .cons (h 0 _ _ rfl rfl q) (ih fun j a b e1 e2 => h (j + 1) a b (by simpa using e1) (by simpa using e2))
    exact tl 0 t fun j a b e1 e2 => h1 (j + 1) a b (by omega) (by simpa using e1) (by simpa using e2)
  | _, _, i + 1, .cons q t, h1, h2 => by
    rw [List.set_cons_succ]
    exact .cons (h1 0 _ _ (by omega) rfl rfl q) (Paired.upd i t (fun j a b hj e1 e2 => h1 (j + 1) a b (by omega) (by simpa using e1) (by simpa using e2)) fun a e => h2 a (by simpa using e))
section
variable {K : PySem.W.Frag} {G0 H0 G H : Hp} {σ : St} {ρ : List B}
theorem Good.dict {i : Nat} {kvs : List (D × D)} (g : Good K G0 H0 G H σ ρ) (h : ρ[i]? = some (.od kvs)) : ∃ a ks as vs, σ[i]? = some (some (.ref a)) ∧ H a = some (.ext (dictφ a ks as vs)) ∧ G a = none ∧ H0 a = none ∧ ODs K G kvs ks as vs ∧ ks.Nodup ∧ (a == sysModules) = false := by
  obtain ⟨o, e, r⟩ := Paired.get g.vals h
  cases r with
  | od h1 h2 h3 h4 h5 h6 => exact ⟨_, _, _, _, e, h1, h2, h3, h4, h5, h6⟩
end
section
variable {X : Cx} {a b c e : Expr} {fa fb fc : Ef} {pos p p1 p2 : Pos} {k : Nat}
end
end L2

namespace L2
open PySem PySem.Spec PyProof.Rows
section
variable {prog : Program} {w : World} {A : Around} {E : Value → Shared → Prop} {s : Shared}
end
section
variable {X : Cx} {a : Expr} {ga : Lf} {pos p : Pos}
end
end L2

namespace L2
open PySem PySem.Spec PyProof.Rows
section
variable {X : Cx} {a b c e : Expr} {fa fb : Ef} {ga : Lf} {pos p : Pos}
end
end L2

namespace L2
open PySem PySem.Spec PyProof.Rows
section
variable {prog : Program} {w : World} {A : Around} {R : Result → Shared → Prop} {I : Addr} {fp wr : List Addr} {n : Nat} {P : Nat → Value → Prop} {St : Nat → Heap → Prop}
end
section
variable {prog : Program} {w : World} {A : Around} {E : Value → Shared → Prop} {s : Shared}
end
section
variable {X : Cx} {a : Expr} {ga : Lf} {pos p : Pos}
end
end L2

namespace L2
open PySem PySem.Spec PyProof.Rows

section
variable {X : Cx} {a b c e tg elt iter : Expr} {fa fb : Ef} {pos p : Pos}
end

mutual
noncomputable def flat : D → Bool
  | .non => true
  | .bl _ => true
  | .int _ => true
  | .str _ => true
  | .tup ds => flats ds
  | _ => false
noncomputable def flats : List D → Bool
  | [] => true
  | d :: r => flat d && flats r
end
noncomputable def outB (G : Hp) (p : Addr) : Hp := fun a => if a = p then none else G a
theorem outB_ne {G : Hp} {p a : Addr} (h : a ≠ p) : outB G p a = G a := if_neg h
theorem SqT.out {K : PySem.W.Frag} {G : Hp} {p a : Addr} {us vs : List V} (hp : G p = some (.lst us)) (h : SqT K G a vs) : SqT K (outB G p) a vs := by
  rcases h with (h | ⟨o, h⟩) | h
  · exact .inl (.inl (by rw [outB_ne (fun z => by rw [z, hp] at h; cases h)]; exact h))
  · exact .inl (.inr ⟨o, by rw [outB_ne (fun z => by rw [z, hp] at h; cases h)]; exact h⟩)
  · exact .inr h
mutual
theorem Rep.out {K : PySem.W.Frag} {G : Hp} {p : Addr} {us : List V} (hp : G p = some (.lst us)) : ∀ (d : D) (v : V), flat d = true → Rep K G d v → Rep K (outB G p) d v
  | .non, _, _, h => by unfold Rep at h ⊢; exact h
  | .bl _, _, _, h => by unfold Rep at h ⊢; exact h
  | .int _, _, _, h => by unfold Rep at h ⊢; exact h
  | .str _, _, _, h => by unfold Rep at h ⊢; exact h
  | .tup ds, _, f, h => by
    unfold Rep at h ⊢
    obtain ⟨a, vs, h1, h2, h3⟩ := h
    exact ⟨a, vs, h1, SqT.out hp h2, Reps.out hp ds vs (by unfold flat at f; exact f) h3⟩
  | .lst ds, _, f, _ => by unfold flat at f; cases f
  | .obj C ns ds, _, f, _ => by unfold flat at f; cases f
  | .exc C ns ds, _, f, _ => by unfold flat at f; cases f
theorem Reps.out {K : PySem.W.Frag} {G : Hp} {p : Addr} {us : List V} (hp : G p = some (.lst us)) : ∀ (ds : List D) (vs : List V), flats ds = true → Reps K G ds vs → Reps K (outB G p) ds vs
  | [], _, _, h => by unfold Reps at h ⊢; exact h
  | d :: r, _, f, h => by
    unfold Reps at h ⊢
    obtain ⟨v, vr, h1, h2, h3⟩ := h
    unfold flats at f
    rw [Bool.and_eq_true] at f
    exact ⟨v, vr, h1, Rep.out hp d v f.1 h2, Reps.out hp r vr f.2 h3⟩
end
section
variable {X : Cx} {e : Expr} {fa : Ef} {ga : Lf} {ta : Tf}
noncomputable def tTru (f : Ef) : Tf := fun ρ => (f ρ).bind fun x => match x with | .lst ds => some (!ds.isEmpty) | _ => none
theorem pt_truF (ha : PF X e fa) (he : ∀ whole, isTrue e X.env whole = (do let v ← whole; standAt e.pos; holding [v] (truthy v)) := by intro _; rfl) : PFT X e (tTru fa) := by
  refine PT.to (pt_truth ha he) ?_
  rintro σ H Q ⟨G0, H0, G, ρ, c, good, hf, k⟩
  unfold tTru at hf
  obtain ⟨x, h1, hf⟩ := Option.bind_eq_some_iff.mp hf
  cases x with
  | lst ds =>
    cases hf
    refine ⟨G0, H0, G, ρ, _, good, h1, fun v H1 G1 s1 r1 => ?_⟩
    obtain ⟨p, vs, rfl, q, rs⟩ := rep_lst.mp r1
    have hl := rs.length
    refine ⟨_, .inl ⟨vs, s1.sub.seq q, ?_⟩, k _ G1 s1⟩
    cases ds <;> cases vs <;> first | rfl | cases hl
  | _ => cases hf
end
end L2

namespace L2
open PySem PySem.Spec PyProof.Rows

theorem relV_fun {x y : V} {v : Value} (h1 : RelV x v) (h2 : RelV y v) : x = y := by
  cases x <;> cases y <;> simp_all [RelV] <;> (obtain ⟨t, rfl⟩ := h1; obtain ⟨t', e⟩ := h2; cases e; try rfl)
section
variable {X : Cx} {pins : List (Addr × Obj)} {σ : St} {H G : Hp} {s : Shared}
mutual
theorem rep_fun (I : Inv X pins σ H s) (sub : Same G H) : ∀ (d d' : D) (x : V), flat d = true → flat d' = true → Rep X.K G d x → Rep X.K G d' x → d = d'
  | .non, d', x, f, f', h, h' => by
    rw [rep_non] at h; subst h
    cases d' with
    | non => rfl
    | bl b => rw [rep_bl] at h'; cases h'
    | int i => rw [rep_int] at h'; cases h'
    | str y => rw [rep_str] at h'; cases h'
    | tup es => obtain ⟨a, vs, e, _⟩ := rep_tup.mp h'; cases e
    | lst es => unfold flat at f'; cases f'
    | obj c ns es => unfold flat at f'; cases f'
    | exc c ns es => unfold flat at f'; cases f'
  | .bl b, d', x, f, f', h, h' => by
    rw [rep_bl] at h; subst h
    cases d' with
    | non => rw [rep_non] at h'; cases h'
    | bl b => rw [rep_bl] at h'; cases h'; rfl
    | int i => rw [rep_int] at h'; cases h'
    | str y => rw [rep_str] at h'; cases h'
    | tup es => obtain ⟨a, vs, e, _⟩ := rep_tup.mp h'; cases e
    | lst es => unfold flat at f'; cases f'
    | obj c ns es => unfold flat at f'; cases f'
    | exc c ns es => unfold flat at f'; cases f'
  | .int i, d', x, f, f', h, h' => by
    rw [rep_int] at h; subst h
    cases d' with
    | non => rw [rep_non] at h'; cases h'
    | bl b => rw [rep_bl] at h'; cases h'
    | int i => rw [rep_int] at h'; cases h'; rfl
    | str y => rw [rep_str] at h'; cases h'
    | tup es => obtain ⟨a, vs, e, _⟩ := rep_tup.mp h'; cases e
    | lst es => unfold flat at f'; cases f'
    | obj c ns es => unfold flat at f'; cases f'
    | exc c ns es => unfold flat at f'; cases f'
  | .str i, d', x, f, f', h, h' => by
    rw [rep_str] at h; subst h
    cases d' with
    | non => rw [rep_non] at h'; cases h'
    | bl b => rw [rep_bl] at h'; cases h'
    | int i => rw [rep_int] at h'; cases h'
    | str y => rw [rep_str] at h'; cases h'; rfl
    | tup es => obtain ⟨a, vs, e, _⟩ := rep_tup.mp h'; cases e
    | lst es => unfold flat at f'; cases f'
    | obj c ns es => unfold flat at f'; cases f'
    | exc c ns es => unfold flat at f'; cases f'
  | .tup ds, d', x, f, f', h, h' => by
    obtain ⟨a, vs, rfl, q, r⟩ := rep_tup.mp h
    cases d' with
    | non => rw [rep_non] at h'; cases h'
    | bl b => rw [rep_bl] at h'; cases h'
    | int i => rw [rep_int] at h'; cases h'
    | str y => rw [rep_str] at h'; cases h'
    | tup es =>
      obtain ⟨a', vs', e, q', r'⟩ := rep_tup.mp h'
      cases e
      have ev := I.tuple_inj (sub.tup q) (sub.tup q')
      subst ev
      unfold flat at f f'
      rw [reps_fun I sub ds es vs f f' r r']
    | lst es => unfold flat at f'; cases f'
    | obj c ns es => unfold flat at f'; cases f'
    | exc c ns es => unfold flat at f'; cases f'
  | .lst ds, d', x, f, f', h, h' => by unfold flat at f; cases f
  | .obj _ _ _, d', x, f, f', h, h' => by unfold flat at f; cases f
  | .exc _ _ _, d', x, f, f', h, h' => by unfold flat at f; cases f
theorem reps_fun (I : Inv X pins σ H s) (sub : Same G H) : ∀ (ds es : List D) (xs : List V), flats ds = true → flats es = true → Reps X.K G ds xs → Reps X.K G es xs → ds = es
  | [], es, xs, f, f', h, h' => by
    rw [reps_nil] at h; subst h
    cases es with
    | nil => rfl
    | cons e r => obtain ⟨v, vr, z, _⟩ := reps_cons.mp h'; cases z
  | d :: r, es, xs, f, f', h, h' => by
    obtain ⟨v, vr, rfl, q1, q2⟩ := reps_cons.mp h
    cases es with
    | nil => rw [reps_nil] at h'; cases h'
    | cons e t =>
      obtain ⟨v', vr', z, q3, q4⟩ := reps_cons.mp h'
      cases z
      unfold flats at f f'
      rw [Bool.and_eq_true] at f f'
      rw [rep_fun I sub d e v f.1 f'.1 q1 q3, reps_fun I sub r t vr f.2 f'.2 q2 q4]
end
noncomputable def anyD (x : D) : List D → Option Bool
  | [] => some false
  | d :: r => (eqD 8 d x).bind fun a => (anyD x r).map fun b => a || b
noncomputable def eOf (K : PySem.W.Frag) (G : Hp) (x : D) (w : Value) : Bool := by
  classical
  exact if h : ∃ d, flat d = true ∧ ∃ z, Rep K G d z ∧ RelV z w then (eqD 8 h.choose x).getD false else false
theorem eOf_eq (I : Inv X pins σ H s) (sub : Same G H) {x d : D} {z : V} {w : Value} (f : flat d = true) (r : Rep X.K G d z) (rv : RelV z w) : eOf X.K G x w = (eqD 8 d x).getD false := by
  unfold eOf
  have h : ∃ d, flat d = true ∧ ∃ z, Rep X.K G d z ∧ RelV z w := ⟨d, f, z, r, rv⟩
  rw [dif_pos h]
  obtain ⟨f', z', r', rv'⟩ := h.choose_spec
  have ez := relV_fun rv' rv
  subst ez
  rw [rep_fun I sub _ d z' f' f r' r]
theorem any_eOf (I : Inv X pins σ H s) (sub : Same G H) {x : D} : ∀ {ds : List D} {xs : List V} {its : List Value} {b : Bool}, flats ds = true → Reps X.K G ds xs → Vals xs its → anyD x ds = some b → its.any (eOf X.K G x) = b ∧ ∀ w ∈ its, ∃ d z, d ∈ ds ∧ Rep X.K G d z ∧ RelV z w ∧ eqD 8 d x = some (eOf X.K G x w)
  | [], _, _, b, f, r, v, h => by
    rw [reps_nil] at r; subst r
    cases v
    cases h
    exact ⟨rfl, fun w hw => nomatch hw⟩
  | d :: t, _, _, b, f, r, v, h => by
    obtain ⟨z, zr, rfl, q1, q2⟩ := reps_cons.mp r
    cases v with
    | cons v1 v2 =>
      unfold flats at f
      rw [Bool.and_eq_true] at f
      unfold anyD at h
      obtain ⟨a, h1, h⟩ := Option.bind_eq_some_iff.mp h
      obtain ⟨b', h2, rfl⟩ := Option.map_eq_some_iff.mp h
      obtain ⟨i1, i2⟩ := any_eOf I sub f.2 q2 v2 h2
      have e := eOf_eq (x := x) I sub f.1 q1 v1
      rw [h1] at e
      refine ⟨by rw [List.any_cons, i1, e]; rfl, fun w hw => ?_⟩
      rcases List.mem_cons.mp hw with rfl | hw
      · exact ⟨d, z, List.mem_cons_self, q1, v1, by rw [e]; exact h1⟩
      · obtain ⟨d', z', m, y⟩ := i2 w hw
        exact ⟨d', z', List.mem_cons_of_mem _ m, y⟩
end
section
variable {X : Cx} {k : Nat}
noncomputable def gInD (x y : D) : Option Bool := match y with
  | .lst ds => if flats ds then anyD x ds else none
  | .tup ds => if flats ds then anyD x ds else none
  | _ => none
theorem op_inDt (hr : Room k X.A) (neg : Bool) : OpR X (compareOp (if neg then .NotIn else .In)) (fun x y H Q => ∃ G d d' b, Same G H ∧ Rep X.K G d x ∧ Rep X.K G d' y ∧ gInD d d' = some b ∧ Q (.bl (if neg then !b else b)) H) := by
  intro pins s σ H x y v u Q I rx ry h
  obtain ⟨G, d, d', b, sub, r1, r2, h, q⟩ := h
  have hu := hr.units
  have main : ∀ (ds : List D) (xs : List V) (its : List Value), flats ds = true → Reps X.K G ds xs → Vals xs its → anyD d ds = some b → its.toArray.any (eOf X.K G d) = b ∧ ∀ w, w ∈ its.toArray → SeqAt.EqAt X.A.in1 s w v (eOf X.K G d w) := by
    intro ds xs its f r vv ha
    obtain ⟨e1, e2⟩ := any_eOf I sub f r vv ha
    refine ⟨by simpa using e1, fun w hw => ?_⟩
    obtain ⟨d1, z, _, q1, q2, q3⟩ := e2 w (by simpa using hw)
    exact (at_D I sub 8 X.A.in1 d1 d z x w v _ (by show X.A.units + 1 + 8 < cLine; omega) q3 q1 r1 q2 rx).2.2
  cases d' with
  | lst ds =>
    unfold gInD at h
    dsimp only at h
    split at h
    · rename_i f
      obtain ⟨p, xs, rfl, q1, q2⟩ := rep_lst.mp r2
      cases ry
      obtain ⟨its, rv, pl, hz⟩ := I.list (sub.seq q1)
      obtain ⟨m1, m2⟩ := main ds xs its f q2 rv h
      cases neg with
      | false => exact SeqAt.in_listAt (eOf X.K G d) pl.isList m2 ⟨.bl _, H, I, rfl, by rw [m1]; exact q⟩
      | true => exact SeqAt.notIn_listAt (eOf X.K G d) pl.isList m2 ⟨.bl _, H, I, rfl, by rw [m1]; exact q⟩
    · cases h
  | tup ds =>
    unfold gInD at h
    dsimp only at h
    split at h
    · rename_i f
      obtain ⟨p, xs, rfl, q1, q2⟩ := rep_tup.mp r2
      cases ry
      obtain ⟨its, rv, pl, hz⟩ := I.tuple (sub.tup q1)
      obtain ⟨m1, m2⟩ := main ds xs its f q2 rv h
      cases neg with
      | false => exact SeqAt.in_tupleAt (eOf X.K G d) pl m2 ⟨.bl _, H, I, rfl, by rw [m1]; exact q⟩
      | true => exact SeqAt.notIn_tupleAt (eOf X.K G d) pl m2 ⟨.bl _, H, I, rfl, by rw [m1]; exact q⟩
    · cases h
  | _ => cases h
theorem cm_inD (hr : Room k X.A) : CmR X .In gInD := ⟨_, op_inDt hr false, fun d d' k G H x y Q h s rx ry q => ⟨G, d, d', k, s, rx, ry, h, q H G (.refl s)⟩⟩
end
end L2

namespace L2
open PySem PySem.Spec PyProof.Rows
noncomputable abbrev Jf := List B → Option Str
noncomputable def fmtD : D → Option Str
  | .int i => if i.natAbs.log2 < 1920 then some (Str.ofString (toString i)) else none
  | .str y => if y.length ≤ 20000 then some y else none
  | _ => none
noncomputable def jNil : Jf := fun _ => some Str.empty
noncomputable def jC (y : Str) (g : Jf) : Jf := fun ρ => (g ρ).map fun z => y ++ z
noncomputable def jV (fa : Ef) (g : Jf) : Jf := fun ρ => (fa ρ).bind fun d => (fmtD d).bind fun y => (g ρ).map fun z => y ++ z
noncomputable def eFs (g : Jf) : Ef := fun ρ => (g ρ).bind fun z => if z.length ≤ 100000 then some (.str z) else none
section
variable {X : Cx} {e c a : Expr} {es : List Expr} {fa fb : Ef} {g : Jf} {pos p : Pos}
noncomputable def PJV (X : Cx) (es : List Expr) (g : Jf) : Prop := ∀ (pins : List (Addr × Obj)) (s : Shared) (σ : St) (H : Hp) (out : Str) (Q : VK), Inv X pins σ H s → (∃ G0 H0 G ρ y, Good X.K G0 H0 G H σ ρ ∧ g ρ = some y ∧ out.length + y.length ≤ 100000 ∧ ∀ H' G', Step G H G' H' → Q (.str (out ++ y)) H') →
  wpAny (model X.prog X.w) X.A (joinParts out (evalEach es X.env)) (EP X pins σ Q) X.xe s
theorem str_empty_r (x : Str) : x ++ Str.empty = x := by
  have h : Str.ofString "" = Str.empty := rfl
  exact Str.append_empty x
theorem pjv_nil : PJV X [] jNil := by
  intro pins s σ H out Q I ⟨G0, H0, G, ρ, y, good, hy, hl, k⟩
  cases hy
  have h := k H G (.refl good.sub)
  rw [str_empty_r] at h
  exact joinParts_nil ⟨.str out, H, I.tok _, ⟨_, rfl⟩, h⟩ (by rw [sizeLine_eq]; omega)
theorem pjv_c {y : Str} {j : Nat} (h2 : PJV X es g) : PJV X (.Constant (.str y) j pos :: es) (jC y g) := by
  intro pins s σ H out Q I ⟨G0, H0, G, ρ, z, good, hz, hl, k⟩
  unfold jC at hz
  obtain ⟨z', hg, rfl⟩ := Option.map_eq_some_iff.mp hz
  rw [Str.length_append] at hl
  have ha : (out ++ y).length = out.length + y.length := Str.length_append out y
  show wpAny _ _ (joinParts out (eval (.Constant (.str y) j pos) X.env :: evalEach es X.env)) _ _ _
  refine joinParts_cons (thn (pe_str pins s σ H (fun v H1 => v = .str y ∧ H1 = H) I ⟨rfl, rfl⟩) fun v s1 ⟨x, H1, I1, r1, e1, e2⟩ => ?_)
  subst e1 e2
  obtain ⟨t, rfl⟩ := r1
  exact ⟨by rw [ha, sizeLine_eq]; omega, h2 pins s1 σ H1 (out ++ y) Q I1 ⟨G0, H0, G, ρ, z', good, hg, by rw [ha]; omega, fun H' G' st => by rw [Str.append_assoc]; exact k H' G' st⟩⟩
theorem pjv_v (h : PF X e fa) (h2 : PJV X es g) : PJV X (.FormattedValue e (-1) none pos :: es) (jV fa g) := by
  intro pins s σ H out Q I ⟨G0, H0, G, ρ, z, good, hz, hl, k⟩
  unfold jV at hz
  obtain ⟨d, hd, hz⟩ := Option.bind_eq_some_iff.mp hz
  obtain ⟨y, hy, hz⟩ := Option.bind_eq_some_iff.mp hz
  obtain ⟨z', hg, rfl⟩ := Option.map_eq_some_iff.mp hz
  rw [Str.length_append] at hl
  have ha : (out ++ y).length = out.length + y.length := Str.length_append out y
  show wpAny _ _ (joinParts out (eval (.FormattedValue e (-1) none pos) X.env :: evalEach es X.env)) _ _ _
  have go : ∀ (s1 : Shared) (H1 G1 : Hp), Inv X pins σ H1 s1 → Step G H G1 H1 → (out ++ y).length ≤ sizeLine ∧ wpAny (model X.prog X.w) X.A (joinParts (out ++ y) (evalEach es X.env)) (EP X pins σ Q) X.xe s1 := by
    intro s1 H1 G1 I1 st
    exact ⟨by rw [ha, sizeLine_eq]; omega, h2 pins s1 σ H1 (out ++ y) Q I1 ⟨G0, H0, G1, ρ, z', good.step st, hg, by rw [ha]; omega, fun H' G' st' => by rw [Str.append_assoc]; exact k H' G' (st.trans st')⟩⟩
  refine joinParts_cons (FormattedValue_plain (thn (h pins s σ H (fun v H1 => ∃ G1, Step G H G1 H1 ∧ Rep X.K G1 d v) I ⟨G0, H0, G, ρ, _, good, hd, fun v H1 G1 s1 r1 => ⟨G1, s1, r1⟩⟩) fun v s1 ⟨x, H1, I1, r1, G1, st1, e1⟩ => ?_))
  unfold fmtD at hy
  split at hy
  · rename_i i
    split at hy
    · rename_i hi
      cases hy
      rw [rep_int] at e1; subst e1
      obtain ⟨t, rfl⟩ := r1
      exact formatField_int_small hi (go _ H1 G1 (I1.tok _) st1)
    · cases hy
  · rename_i y'
    split at hy
    · rename_i hi
      cases hy
      rw [rep_str] at e1; subst e1
      obtain ⟨t, rfl⟩ := r1
      exact wpAny_formatField_str (go _ H1 G1 I1 st1) (go _ H1 G1 (I1.tok _) st1) (by rw [sizeLine_eq]; omega)
    · cases hy
  · cases hy
theorem pf_fs {v1 v2 : Expr} (h : PJV X (v1 :: v2 :: es) g) : PF X (.JoinedStr (v1 :: v2 :: es) pos) (eFs g) := by
  intro pins s σ H Q I ⟨G0, H0, G, ρ, d, good, hf, k⟩
  unfold eFs at hf
  obtain ⟨z, hg, hf⟩ := Option.bind_eq_some_iff.mp hf
  split at hf
  · rename_i hz
    cases hf
    refine JoinedStr_many (h pins s σ H Str.empty Q I ⟨G0, H0, G, ρ, z, good, hg, ?_, fun H' G' st => ?_⟩)
    · have : Str.empty.length = 0 := rfl
      omega
    · rw [Str.empty_append]
      exact k _ H' G' st (rep_str.mpr rfl)
  · cases hf
noncomputable def rJoinT (K : PySem.W.Frag) : V → List V → Hp → VK → Prop := fun x vs H Q => ∃ z p ys, x = .str z ∧ vs = [.ref p] ∧ SqT K H p (ys.map V.str) ∧ (ys.map (·.length)).sum + ys.length ≤ 1048576 ∧ z.length ≤ 16 ∧ Q (.str (Txt.join z ys)) H
theorem mt_joinT : MtR X "str.join" (rJoinT X.K) := by
  intro pins s σ H x xs v us Q I rx rv h
  obtain ⟨z, p, ys, rfl, rfl, hq, hz, hz2, q⟩ := h
  obtain ⟨t, rfl⟩ := rx
  obtain ⟨u, rfl, ru⟩ := rv.one
  cases ru
  obtain ⟨its, r, pl, _⟩ := I.tuple hq
  exact join_tupleW pl (by simpa using strsAre_of r) hz2 hz fun t' k => ⟨.str _, H, I.tok k, ⟨t', rfl⟩, q⟩
noncomputable def eJoinT (fa fb : Ef) : Ef := fun ρ => (fa ρ).bind fun x => (fb ρ).bind fun d => match x, d with | .str z, .tup ds => (strsD ds).bind fun ys => if (ys.map (·.length)).sum + ys.length ≤ 100000 ∧ z.length ≤ 16 then some (.str (Txt.join z ys)) else none | _, _ => none
theorem pf_joinT (ht : PE X c (tBM X.K "str" (rJoinT X.K) (tF X.K fa) (tCons (tF X.K fb) tNil))) : PF X c (eJoinT fa fb) := by
  refine PE.to ht ?_
  rintro σ H Q ⟨G0, H0, G, ρ, d, good, hf, k⟩
  unfold eJoinT at hf
  obtain ⟨x, h1, hf⟩ := Option.bind_eq_some_iff.mp hf
  obtain ⟨y, h2, hf⟩ := Option.bind_eq_some_iff.mp hf
  split at hf
  · rename_i z ds
    obtain ⟨ys, h3, hf⟩ := Option.bind_eq_some_iff.mp hf
    split at hf
    · rename_i hz
      cases hf
      refine ⟨G0, H0, G, ρ, _, good, h1, fun u H1 G1 s1 r1 => ?_⟩
      have r1 := rep_str.mp r1
      subst r1
      refine ⟨rfl, G0, H0, G1, ρ, _, good.step s1, h2, fun v H2 G2 s2 r2 => ?_⟩
      obtain ⟨q, vs, rfl, hq, rs⟩ := rep_tup.mp r2
      have e := strsD_rep h3 rs
      subst e
      exact ⟨_, q, ys, rfl, rfl, s2.sub.tup hq, Nat.le_trans hz.1 (by decide), hz.2, k _ _ G2 (s1.trans s2) (rep_str.mpr rfl)⟩
    · cases hf
  · cases hf
end
end L2

namespace L2
open PySem PySem.Spec PyProof.Rows
theorem sSeq_nx {f g : Sf} {ρ ρ' : List B} (h : f ρ = some (.nx ρ')) : sSeq f g ρ = g ρ' := by unfold sSeq; rw [h]; rfl
theorem seq_out {f g : Sf} {ρ ρ' : List B} {r : Option D} (h : f ρ = some (.nx ρ')) (k : (g ρ').bind outD = r) : (sSeq f g ρ).bind outD = r := by rw [sSeq_nx h]; exact k
theorem forF_nx {g : Gf} {body : Sf} {d : D} {r : List D} {ρ ρ1 ρ2 : List B} (h1 : g d ρ = some ρ1) (h2 : body ρ1 = some (.nx ρ2)) : forF g body (d :: r) ρ = forF g body r ρ2 := by
  rw [forF, h1, Option.bind_some, h2, Option.bind_some]
theorem aCons_eq {f : Ef} {g : Lf} {ρ : List B} {d : D} {ds : List D} (h1 : f ρ = some d) (h2 : g ρ = some ds) : aCons f g ρ = some (d :: ds) := by unfold aCons; rw [h1, h2]; rfl
theorem eL_eq {g : Lf} {ρ : List B} {ds : List D} (h : g ρ = some ds) : eL g ρ = some (.lst ds) := by unfold eL; rw [h]; rfl
theorem eCall_eq {n : Nat} {f : List D → Option D} {g : Lf} {ρ : List B} {ds : List D} (h : g ρ = some ds) (hl : ds.length = n) : eCall n f g ρ = f ds := by unfold eCall; rw [h, Option.bind_some, if_pos hl]
theorem forF_all {g : Gf} {body : Sf} {P : List B → Prop} : ∀ (ds : List D), (∀ d ∈ ds, ∀ ρ, P ρ → ∃ ρ1 ρ2, g d ρ = some ρ1 ∧ body ρ1 = some (.nx ρ2) ∧ P ρ2) → ∀ ρ, P ρ → ∃ ρ', forF g body ds ρ = some (.nx ρ') ∧ P ρ'
  | [], _, ρ, h => ⟨ρ, rfl, h⟩
  | d :: r, hs, ρ, h => by
    obtain ⟨ρ1, ρ2, e1, e2, h2⟩ := hs d List.mem_cons_self ρ h
    obtain ⟨ρ', e, h'⟩ := forF_all r (fun d hd => hs d (List.mem_cons_of_mem _ hd)) ρ2 h2
    exact ⟨ρ', by rw [forF_nx e1 e2]; exact e, h'⟩
theorem forF_ix {g : Gf} {body : Sf} {P : Nat → List B → Prop} : ∀ (ds : List D) (n : Nat), (∀ (i : Nat) (d : D), ds[i]? = some d → ∀ ρ, P (n + i) ρ → ∃ ρ1 ρ2, g d ρ = some ρ1 ∧ body ρ1 = some (.nx ρ2) ∧ P (n + i + 1) ρ2) → ∀ ρ, P n ρ → ∃ ρ', forF g body ds ρ = some (.nx ρ') ∧ P (n + ds.length) ρ'
  | [], _, _, ρ, h => ⟨ρ, rfl, h⟩
  | d :: r, n, hs, ρ, h => by
    obtain ⟨ρ1, ρ2, e1, e2, h2⟩ := hs 0 d rfl ρ h
    obtain ⟨ρ', e, h'⟩ := forF_ix r (n + 1) (fun i d hd ρ hρ => by
      have q := hs (i + 1) d (by simpa using hd) ρ (by rw [show n + (i + 1) = n + 1 + i by omega]; exact hρ)
      rw [show n + (i + 1) + 1 = n + 1 + i + 1 by omega] at q
      exact q) ρ2 h2
    exact ⟨ρ', by rw [forF_nx e1 e2]; exact e, by rw [List.length_cons, show n + (r.length + 1) = n + 1 + r.length by omega]; exact h'⟩
theorem mem_upto {lo : Int} {n : Nat} {d : D} (h : d ∈ upto lo n) : ∃ i : Nat, i < n ∧ d = .int (lo + i) := by
  unfold upto at h
  obtain ⟨i, hi, rfl⟩ := List.mem_map.mp h
  exact ⟨i, List.mem_range.mp hi, rfl⟩
theorem upto_get {lo : Int} {n i : Nat} {d : D} (h : (upto lo n)[i]? = some d) : i < n ∧ d = .int (lo + i) := by
  have hl : (upto lo n).length = n := by simp [upto]
  have hi : i < n := by rw [← hl]; exact (List.getElem?_eq_some_iff.mp h).1
  unfold upto at h
  rw [List.getElem?_map, List.getElem?_range hi] at h
  exact ⟨hi, (Option.some.inj h).symm⟩
theorem upto_len (lo : Int) (n : Nat) : (upto lo n).length = n := by simp [upto]
theorem mapF_one {elt : Ef} {h : D → D} {rest : List B} : ∀ (ds : List D) (x0 : B) (acc : List D), (∀ d ∈ ds, elt (.fz d :: rest) = some (h d)) → mapF (gN 0) tOK elt ds (x0 :: rest) acc = some (acc ++ ds.map h)
  | [], _, acc, _ => by simp [mapF]
  | d :: r, x0, acc, hh => by
    unfold mapF
    have e1 : gN 0 d (x0 :: rest) = some (.fz d :: rest) := rfl
    have e2 : tOK (.fz d :: rest) = some true := rfl
    rw [e1, Option.bind_some, e2, Option.bind_some, if_pos rfl, hh d List.mem_cons_self, Option.bind_some, mapF_one r _ _ fun q hq => hh q (List.mem_cons_of_mem _ hq)]
    simp
theorem okL_le {t : List D} (h : t.length ≤ 100000) : okL t = some t := by
  unfold okL
  rw [if_pos h]
theorem atI_getD {α : Type} (xs : List α) (i : Int) (d : α) (h0 : 0 ≤ i) (h1 : i < xs.length) : atI xs i = some (xs.getD i.toNat d) := by
  unfold atI ixN
  rw [if_pos h0, if_pos h1]
  have : i.toNat < xs.length := by omega
  simp [List.getD, this]
theorem atI_map {α β : Type} (f : α → β) (xs : List α) (i : Int) : atI (xs.map f) i = (atI xs i).map f := by
  unfold atI
  rw [List.length_map]
  cases ixN xs.length i with
  | none => rfl
  | some j => simp
theorem cMul_l {i j : Int} (h1 : -18446744073709551616 < i) (h2 : i < 18446744073709551616) : cMul i j = true := by
  unfold cMul; simp only [Bool.or_eq_true, Bool.and_eq_true, decide_eq_true_eq]; exact .inl ⟨by omega, by omega⟩
theorem cMul_r {i j : Int} (h1 : -18446744073709551616 < j) (h2 : j < 18446744073709551616) : cMul i j = true := by
  unfold cMul; simp only [Bool.or_eq_true, Bool.and_eq_true, decide_eq_true_eq]; exact .inr ⟨by omega, by omega⟩
theorem str_len_append (x y : Str) : (x ++ y).length = x.length + y.length := Str.length_append x y
theorem add_str_le {x y : Str} (h : x.length + y.length ≤ 100000) : addD (.str x) (.str y) = some (.str (x ++ y)) := by
  show (if x.length + y.length ≤ lim then _ else none) = _
  rw [if_pos h]
theorem atD_str {x : Str} {i : Int} (h0 : 0 ≤ i) (h1 : i < x.length) (h : x.length ≤ 100000) : atD (.str x) (.int i) = some (.str ⟨#[x.cps.toList.getD i.toNat 0]⟩) := by
  have hl : x.cps.toList.length = x.length := Array.length_toList
  show (if x.length ≤ lim then _ else none) = _
  rw [if_pos h, atI_getD _ i 0 h0 (by rw [hl]; exact h1)]
  rfl
end L2

namespace My
open PySem L2
noncomputable def top (i : Nat) : Stmt := PySem.Challenge.pw_curveyard_k42_answers_shown.main.body.getD i (.Pass ⟨0, 0, 0, 0⟩)
noncomputable abbrev s_law_mix : Stmt := top 7
noncomputable abbrev s_law_spot : Stmt := top 9
noncomputable abbrev s_law_word : Stmt := top 8
noncomputable abbrev s_law_answer : Stmt := top 10
noncomputable abbrev s_list_row : Stmt := top 4
noncomputable abbrev s_place_text : Stmt := top 1
noncomputable abbrev s_answer_row : Stmt := top 3
noncomputable abbrev s_law_cell_at : Stmt := top 6
noncomputable abbrev s_law_listed : Stmt := top 12
noncomputable abbrev s_law_place_text : Stmt := top 11
noncomputable abbrev s_law_due : Stmt := top 13
noncomputable abbrev s_law : Stmt := top 14
set_option genInjectivity false
set_option genSizeOf false
set_option genSizeOfSpec false
structure Txt (K : PySem.W.Frag) (mg : Str → Option Value) where
  f_law_mix : Addr
  fd_law_mix : FuncData
  F_law_mix : Fun K "_law_mix" "_law_mix" s_law_mix f_law_mix fd_law_mix
  b_law_mix : Binds K fd_law_mix ["_law_cell", "_law_factor"] []
  m_law_mix : mg "_law_mix" = some (.ref f_law_mix)
  f_law_spot : Addr
  fd_law_spot : FuncData
  F_law_spot : Fun K "_law_spot" "_law_spot" s_law_spot f_law_spot fd_law_spot
  b_law_spot : Binds K fd_law_spot ["_law_cell", "_law_number", "_law_dims"] []
  m_law_spot : mg "_law_spot" = some (.ref f_law_spot)
  f_law_word : Addr
  fd_law_word : FuncData
  F_law_word : Fun K "_law_word" "_law_word" s_law_word f_law_word fd_law_word
  b_law_word : Binds K fd_law_word ["_law_cell", "_law_k"] []
  m_law_word : mg "_law_word" = some (.ref f_law_word)
  f_law_answer : Addr
  fd_law_answer : FuncData
  F_law_answer : Fun K "_law_answer" "_law_answer" s_law_answer f_law_answer fd_law_answer
  b_law_answer : Binds K fd_law_answer ["_law_cell", "_law_number"] []
  m_law_answer : mg "_law_answer" = some (.ref f_law_answer)
  f_list_row : Addr
  fd_list_row : FuncData
  F_list_row : Fun K "list_row" "list_row" s_list_row f_list_row fd_list_row
  b_list_row : Binds K fd_list_row ["word", "things"] []
  m_list_row : mg "list_row" = some (.ref f_list_row)
  f_place_text : Addr
  fd_place_text : FuncData
  F_place_text : Fun K "place_text" "place_text" s_place_text f_place_text fd_place_text
  b_place_text : Binds K fd_place_text ["place"] []
  m_place_text : mg "place_text" = some (.ref f_place_text)
  f_answer_row : Addr
  fd_answer_row : FuncData
  F_answer_row : Fun K "answer_row" "answer_row" s_answer_row f_answer_row fd_answer_row
  b_answer_row : Binds K fd_answer_row ["answer"] []
  m_answer_row : mg "answer_row" = some (.ref f_answer_row)
  f_law_cell_at : Addr
  fd_law_cell_at : FuncData
  F_law_cell_at : Fun K "_law_cell_at" "_law_cell_at" s_law_cell_at f_law_cell_at fd_law_cell_at
  b_law_cell_at : Binds K fd_law_cell_at ["_law_script", "_law_k"] []
  m_law_cell_at : mg "_law_cell_at" = some (.ref f_law_cell_at)
  f_law_listed : Addr
  fd_law_listed : FuncData
  F_law_listed : Fun K "_law_listed" "_law_listed" s_law_listed f_law_listed fd_law_listed
  b_law_listed : Binds K fd_law_listed ["_law_parts", "_law_mark"] []
  m_law_listed : mg "_law_listed" = some (.ref f_law_listed)
  f_law_place_text : Addr
  fd_law_place_text : FuncData
  F_law_place_text : Fun K "_law_place_text" "_law_place_text" s_law_place_text f_law_place_text fd_law_place_text
  b_law_place_text : Binds K fd_law_place_text ["_law_place"] []
  m_law_place_text : mg "_law_place_text" = some (.ref f_law_place_text)
  f_law_due : Addr
  fd_law_due : FuncData
  F_law_due : Fun K "_law_due" "_law_due" s_law_due f_law_due fd_law_due
  b_law_due : Binds K fd_law_due ["_law_answer_here"] []
  m_law_due : mg "_law_due" = some (.ref f_law_due)
  f_law : Addr
  fd_law : FuncData
  F_law : Fun K "law" "law" s_law f_law fd_law
  b_law : Binds K fd_law ["_law_script"] []
  m_law : mg "law" = some (.ref f_law)
  z_enumerate : mg "enumerate" = none
  z_isinstance : mg "isinstance" = none
  z_len : mg "len" = none
  z_list : mg "list" = none
  z_range : mg "range" = none
  z_str : mg "str" = none
  z_tuple : mg "tuple" = none
set_option genInjectivity true
set_option genSizeOf true
set_option genSizeOfSpec true
section
seal PySem.Sem.wp
variable {P : Program} {w : World} {K : PySem.W.Frag} {mg : Str → Option Value} {base : Heap}
theorem sc_law_mix : FnScope ["_law_cell", "_law_factor", "_law_mixed"] ["_law_cell", "_law_factor"] (defScope s_law_mix) := ⟨rfl, rfl, rfl, by decide +kernel, rfl, by decide +kernel, by decide +kernel⟩
noncomputable def B_law_mix_1 : Sf := (sRet (eDiv (eMod (eMul (eV 2) (eV 2)) (eC (.int 2147483629))) (eC (.int 3))))
noncomputable def B_law_mix_0 : Sf := (sSeq (sSet 2 (eMod (eAdd (eMul (eV 0) (eV 1)) (eC (.int 12345))) (eC (.int 2147483647))))
    (B_law_mix_1))
noncomputable def b_law_mix : Sf :=
    (B_law_mix_0)
noncomputable def d_law_mix : List D → Option D := fnF 3 b_law_mix
theorem ok_law_mix (T : Txt K mg) : FnOk P w K mg base CX0 1 T.f_law_mix T.fd_law_mix ["_law_cell", "_law_factor"] (spF K 2 d_law_mix) :=
  ok_fn (k := 0) T.F_law_mix sc_law_mix fun cdv A outer s H E hr =>
    (pss_consF (f := (sSet 2 (eMod (eAdd (eMul (eV 0) (eV 1)) (eC (.int 12345))) (eC (.int 2147483647))))) (g := (B_law_mix_1)) (ps_setF 2 sc_law_mix.nd (pf_mod (pf_add (pf_mul (pf_v 0) (pf_v 1)) pf_int) pf_int))
      (pss_oneF (ps_retF (pf_div (pf_mod (pf_mul (pf_v 2) (pf_v 2)) pf_int) pf_int))))
theorem sc_law_spot : FnScope ["_law_cell", "_law_number", "_law_dims", "_law_spot_here", "_law_axis", "_law_drawn", "_law_far"] ["_law_cell", "_law_number", "_law_dims"] (defScope s_law_spot) := ⟨rfl, rfl, rfl, by decide +kernel, rfl, by decide +kernel, by decide +kernel⟩
noncomputable def L1_law_spot_2 : Sf := (sApp 3 (eIx (eL (lDisp (aCons (eMod (eV 5) (eC (.int 64))) (aCons (eV 6) (aCons (eC (.int 0)) (aCons (eMod (eV 0) (ePow (eC (.int 10)) (eC (.int 30)))) aNil)))))) (eMod (eDiv (eV 5) (eC (.int 64))) (eC (.int 4)))))
noncomputable def L1_law_spot_1 : Sf := (sSeq (sSet 6 (eMod (eMulW (eAdd (eV 0) (eV 5)) (eC (.int 314159265358979323846))) (ePow (eC (.int 10)) (eC (.int 30)))))
    (L1_law_spot_2))
noncomputable def L1_law_spot_0 : Sf := (sSeq (sSet 5 (eCall 2 d_law_mix (aCons (eV 1) (aCons (eAdd (eC (.int 16807)) (eMulW (eC (.int 14)) (eV 4))) aNil))))
    (L1_law_spot_1))
noncomputable def B_law_spot_2 : Sf := (sFrz 3 (sRet (eTupOf (eV 3))))
noncomputable def B_law_spot_1 : Sf := (sSeq (sFor (iR (eV 2)) (gN 4) (L1_law_spot_0))
    (B_law_spot_2))
noncomputable def B_law_spot_0 : Sf := (sSeq (sOwn 3 (lDisp aNil))
    (B_law_spot_1))
noncomputable def b_law_spot : Sf :=
    (B_law_spot_0)
noncomputable def d_law_spot : List D → Option D := fnF 7 b_law_spot
theorem ok_law_spot (T : Txt K mg) : FnOk P w K mg base CX0 2 T.f_law_spot T.fd_law_spot ["_law_cell", "_law_number", "_law_dims"] (spF K 3 d_law_spot) :=
  ok_fn (k := 1) T.F_law_spot sc_law_spot fun cdv A outer s H E hr =>
    (pss_consF (f := (sOwn 3 (lDisp aNil))) (g := (B_law_spot_1)) (ps_own 3 sc_law_spot.nd (pl_disp pa_nilF))
      (pss_consF (f := (sFor (iR (eV 2)) (gN 4) (L1_law_spot_0))) (g := (B_law_spot_2)) (ps_forF PassesOwn.never rfl (pi_r rfl T.z_range (pf_v 2)) (pg_n 4 sc_law_spot.nd) (pss_consF (f := (sSet 5 (eCall 2 d_law_mix (aCons (eV 1) (aCons (eAdd (eC (.int 16807)) (eMulW (eC (.int 14)) (eV 4))) aNil))))) (g := (L1_law_spot_1)) (ps_setF 5 sc_law_spot.nd (pf_call (ok_law_mix T) (hr.mono (by omega)) T.m_law_mix T.F_law_mix.kp T.b_law_mix rfl (pa_consF (pf_v 1) (pa_consF (pf_add pf_int (pf_mulW pf_int (pf_v 4))) pa_nilF))))
      (pss_consF (f := (sSet 6 (eMod (eMulW (eAdd (eV 0) (eV 5)) (eC (.int 314159265358979323846))) (ePow (eC (.int 10)) (eC (.int 30)))))) (g := (L1_law_spot_2)) (ps_setF 6 sc_law_spot.nd (pf_mod (pf_mulW (pf_add (pf_v 0) (pf_v 5)) pf_int) (pf_pow pf_int pf_int)))
      (pss_oneF (ps_app 3 (pe_bm PySem.F.plainAttrs_list PySem.F.slot_list_append PySem.F.type_list_append mt_append (pv 3) (pa_cons (pf_ix (pf_l (pl_disp (pa_consF (pf_mod (pf_v 5) pf_int) (pa_consF (pf_v 6) (pa_consF pf_int (pa_consF (pf_mod (pf_v 0) (pf_pow pf_int pf_int)) pa_nilF)))))) (pf_mod (pf_div (pf_v 5) pf_int) pf_int)) pa_nil)))))))
      (pss_oneF (ps_frz 3 (ps_retF (pf_tupOf rfl T.z_tuple (pf_v 3)))))))
theorem sc_law_word : FnScope ["_law_cell", "_law_k", "_law_letters", "_law_size", "_law_place", "_law_word_here", "_law_n", "_law_far"] ["_law_cell", "_law_k"] (defScope s_law_word) := ⟨rfl, rfl, rfl, by decide +kernel, rfl, by decide +kernel, by decide +kernel⟩
noncomputable def L1_law_word_2 : Sf := (sSet 5 (eAddP (eV 5) (eIx (eV 2) (eMod (eAddP (eDiv (eV 0) (eC (.int 144))) (eV 7)) (eC (.int 26))))))
noncomputable def L1_law_word_1 : Sf := (sSeq (sIf (eB2 gEq (eV 6) (eV 4)) (sSet 7 (eAddP (eDiv (eV 0) (eC (.int 97))) (eMul (eC (.int 3)) (eV 1)))) sNil)
    (L1_law_word_2))
noncomputable def L1_law_word_0 : Sf := (sSeq (sSet 7 (eMul (eMul (eV 6) (eV 6)) (eMod (eDiv (eV 0) (eC (.int 7))) (eC (.int 3)))))
    (L1_law_word_1))
noncomputable def B_law_word_5 : Sf := (sRet (eV 5))
noncomputable def B_law_word_4 : Sf := (sSeq (sFor (iR (eV 3)) (gN 6) (L1_law_word_0))
    (B_law_word_5))
noncomputable def B_law_word_3 : Sf := (sSeq (sSet 5 (eC (.str "")))
    (B_law_word_4))
noncomputable def B_law_word_2 : Sf := (sSeq (sSet 4 (eMod (eDiv (eV 0) (eC (.int 12))) (eV 3)))
    (B_law_word_3))
noncomputable def B_law_word_1 : Sf := (sSeq (sSet 3 (eAddP (eC (.int 1)) (eMod (eV 0) (eC (.int 12)))))
    (B_law_word_2))
noncomputable def B_law_word_0 : Sf := (sSeq (sSet 2 (eC (.str "abcdefghijklmnopqrstuvwxyz")))
    (B_law_word_1))
noncomputable def b_law_word : Sf :=
    (B_law_word_0)
noncomputable def d_law_word : List D → Option D := fnF 8 b_law_word
theorem ok_law_word (T : Txt K mg) : FnOk P w K mg base CX0 1 T.f_law_word T.fd_law_word ["_law_cell", "_law_k"] (spF K 2 d_law_word) :=
  ok_fn (k := 0) T.F_law_word sc_law_word fun cdv A outer s H E hr =>
    (pss_consF (f := (sSet 2 (eC (.str "abcdefghijklmnopqrstuvwxyz")))) (g := (B_law_word_1)) (ps_setF 2 sc_law_word.nd pf_str)
      (pss_consF (f := (sSet 3 (eAddP (eC (.int 1)) (eMod (eV 0) (eC (.int 12)))))) (g := (B_law_word_2)) (ps_setF 3 sc_law_word.nd (pf_addP pf_int (pf_mod (pf_v 0) pf_int)))
      (pss_consF (f := (sSet 4 (eMod (eDiv (eV 0) (eC (.int 12))) (eV 3)))) (g := (B_law_word_3)) (ps_setF 4 sc_law_word.nd (pf_mod (pf_div (pf_v 0) pf_int) (pf_v 3)))
      (pss_consF (f := (sSet 5 (eC (.str "")))) (g := (B_law_word_4)) (ps_setF 5 sc_law_word.nd pf_str)
      (pss_consF (f := (sFor (iR (eV 3)) (gN 6) (L1_law_word_0))) (g := (B_law_word_5)) (ps_forF PassesOwn.never rfl (pi_r rfl T.z_range (pf_v 3)) (pg_n 6 sc_law_word.nd) (pss_consF (f := (sSet 7 (eMul (eMul (eV 6) (eV 6)) (eMod (eDiv (eV 0) (eC (.int 7))) (eC (.int 3)))))) (g := (L1_law_word_1)) (ps_setF 7 sc_law_word.nd (pf_mul (pf_mul (pf_v 6) (pf_v 6)) (pf_mod (pf_div (pf_v 0) pf_int) pf_int)))
      (pss_consF (f := (sIf (eB2 gEq (eV 6) (eV 4)) (sSet 7 (eAddP (eDiv (eV 0) (eC (.int 97))) (eMul (eC (.int 3)) (eV 1)))) sNil)) (g := (L1_law_word_2)) (ps_ifF (pt_cmpF cm_eq (pf_v 6) (pf_v 4)) (pss_oneF (ps_setF 7 sc_law_word.nd (pf_addP (pf_div (pf_v 0) pf_int) (pf_mul pf_int (pf_v 1))))) pss_nilF)
      (pss_oneF (ps_setF 5 sc_law_word.nd (pf_addP (pf_v 5) (pf_ix (pf_v 2) (pf_mod (pf_addP (pf_div (pf_v 0) pf_int) (pf_v 7)) pf_int))))))))
      (pss_oneF (ps_retF (pf_v 5))))))))
theorem sc_law_answer : FnScope ["_law_cell", "_law_number", "_law_dims", "_law_many", "_law_words", "_law_far", "_law_spans", "_law_low", "_law_high"] ["_law_cell", "_law_number"] (defScope s_law_answer) := ⟨rfl, rfl, rfl, by decide +kernel, rfl, by decide +kernel, by decide +kernel⟩
noncomputable def B_law_answer_7 : Sf := (sFrz 6 (sRet (eIx (eL (lDisp (aCons (eTup (aCons (eC (.str "ok")) aNil)) (aCons (eTup (aCons (eC (.str "refused")) (aCons (eIx (eL (lDisp (aCons (eC (.str "box")) (aCons (eC (.str "twice")) (aCons (eC (.str "thing")) (aCons (eC (.str "floor")) aNil)))))) (eMod (eV 3) (eC (.int 4)))) aNil))) (aCons (eTup (aCons (eC (.str "names")) (aCons (eL (lSlice (eV 4) oNo (oSome (eMod (eDiv (eV 1) (eC (.int 18))) (eC (.int 13)))))) aNil))) (aCons (eTup (aCons (eC (.str "box")) (aCons (eV 7) (aCons (eV 8) aNil)))) (aCons (eTup (aCons (eC (.str "near")) (aCons (eL (lComp (iR (eV 3)) 1 [5, 4] (gN 0) tOK (eTup (aCons (eIx (eV 1) (eV 0)) (aCons (eIx (eV 2) (eV 0)) aNil))))) aNil))) (aCons (eTup (aCons (eC (.str "pairs")) (aCons (eL (lComp (iR (eMod (eV 3) (eC (.int 6)))) 1 [4] (gN 0) tOK (eTup (aCons (eIx (eV 1) (eV 0)) (aCons (eIx (eV 1) (eAdd (eV 0) (eC (.int 1)))) aNil))))) aNil))) (aCons (eTup (aCons (eC (.str "number")) (aCons (eIx (eV 5) (eC (.int 0))) aNil))) (aCons (eTup (aCons (eC (.str "place")) (aCons (eV 7) aNil))) (aCons (eTup (aCons (eC (.str "spans")) (aCons (eV 6) aNil))) aNil))))))))))) (eMod (eV 1) (eC (.int 9))))))
noncomputable def B_law_answer_6 : Sf := (sSeq (sSet 8 (eCall 3 d_law_spot (aCons (eV 0) (aCons (eAdd (eV 1) (eC (.int 1))) (aCons (eV 2) aNil)))))
    (B_law_answer_7))
noncomputable def B_law_answer_5 : Sf := (sSeq (sSet 7 (eCall 3 d_law_spot (aCons (eV 0) (aCons (eV 1) (aCons (eV 2) aNil)))))
    (B_law_answer_6))
noncomputable def B_law_answer_4 : Sf := (sSeq (sOwn 6 (lComp (iR (eV 3)) 1 [5, 1] (gN 0) tOK (eTup (aCons (eAdd (eIx (eV 1) (eV 0)) (eMul (eV 0) (ePow (eC (.int 10)) (eC (.int 61))))) (aCons (eAdd (eAdd (eIx (eV 1) (eV 0)) (eMul (eV 0) (ePow (eC (.int 10)) (eC (.int 61))))) (eMod (eAdd (eV 2) (eV 0)) (eC (.int 3)))) aNil)))))
    (B_law_answer_5))
noncomputable def B_law_answer_3 : Sf := (sSeq (sSet 5 (eL (lComp (iR (eC (.int 7))) 1 [0, 1] (gN 0) tOK (eMod (eAdd (eV 1) (eMul (eMul (eV 0) (eV 0)) (eV 0))) (eIx (eL (lDisp (aCons (eC (.int 10)) (aCons (ePow (eC (.int 10)) (eC (.int 60))) aNil)))) (eMod (eDiv (eV 2) (eC (.int 630))) (eC (.int 2))))))))
    (B_law_answer_4))
noncomputable def B_law_answer_2 : Sf := (sSeq (sSet 4 (eL (lComp (iR (eC (.int 13))) 1 [0, 1] (gN 0) tOK (eCall 2 d_law_word (aCons (eAdd (eMod (eV 1) (ePow (eC (.int 10)) (eC (.int 9)))) (eMod (eDiv (eV 2) (eC (.int 126))) (eC (.int 5)))) (aCons (eV 0) aNil))))))
    (B_law_answer_3))
noncomputable def B_law_answer_1 : Sf := (sSeq (sSet 3 (eMod (eDiv (eV 1) (eC (.int 18))) (eC (.int 7))))
    (B_law_answer_2))
noncomputable def B_law_answer_0 : Sf := (sSeq (sSet 2 (eAdd (eC (.int 2)) (eMod (eDiv (eV 1) (eC (.int 9))) (eC (.int 2)))))
    (B_law_answer_1))
noncomputable def b_law_answer : Sf :=
    (B_law_answer_0)
noncomputable def d_law_answer : List D → Option D := fnF 9 b_law_answer
theorem ok_law_answer (T : Txt K mg) : FnOk P w K mg base CX0 3 T.f_law_answer T.fd_law_answer ["_law_cell", "_law_number"] (spF K 2 d_law_answer) :=
  ok_fn (k := 2) T.F_law_answer sc_law_answer fun cdv A outer s H E hr =>
    (pss_consF (f := (sSet 2 (eAdd (eC (.int 2)) (eMod (eDiv (eV 1) (eC (.int 9))) (eC (.int 2)))))) (g := (B_law_answer_1)) (ps_setF 2 sc_law_answer.nd (pf_add pf_int (pf_mod (pf_div (pf_v 1) pf_int) pf_int)))
      (pss_consF (f := (sSet 3 (eMod (eDiv (eV 1) (eC (.int 18))) (eC (.int 7))))) (g := (B_law_answer_2)) (ps_setF 3 sc_law_answer.nd (pf_mod (pf_div (pf_v 1) pf_int) pf_int))
      (pss_consF (f := (sSet 4 (eL (lComp (iR (eC (.int 13))) 1 [0, 1] (gN 0) tOK (eCall 2 d_law_word (aCons (eAdd (eMod (eV 1) (ePow (eC (.int 10)) (eC (.int 9)))) (eMod (eDiv (eV 2) (eC (.int 126))) (eC (.int 5)))) (aCons (eV 0) aNil))))))) (g := (B_law_answer_3)) (ps_setF 4 sc_law_answer.nd (pf_l (pl_comp (defScope s_law_answer) ["_law_cell", "_law_number", "_law_dims", "_law_many", "_law_words", "_law_far", "_law_spans", "_law_low", "_law_high"] ["_law_k"] ["_law_cell", "_law_number"] [0, 1] (go_n 0) (pi_r rfl T.z_range pf_int) rfl rfl rfl (by decide +kernel) (fun _ _ _ _ => (pg_n 0 (show (List.Nodup (α := PySem.Str) ["_law_k", "_law_cell", "_law_number"]) from by decide +kernel))) (fun _ _ _ _ => pifs_nilF) (fun _ _ _ _ => (pf_call (ok_law_word T) (hr.mono (by omega)) T.m_law_word T.F_law_word.kp T.b_law_word rfl (pa_consF (pf_add (pf_mod (pf_v 1) (pf_pow pf_int pf_int)) (pf_mod (pf_div (pf_v 2) pf_int) pf_int)) (pa_consF (pf_v 0) pa_nilF)))))))
      (pss_consF (f := (sSet 5 (eL (lComp (iR (eC (.int 7))) 1 [0, 1] (gN 0) tOK (eMod (eAdd (eV 1) (eMul (eMul (eV 0) (eV 0)) (eV 0))) (eIx (eL (lDisp (aCons (eC (.int 10)) (aCons (ePow (eC (.int 10)) (eC (.int 60))) aNil)))) (eMod (eDiv (eV 2) (eC (.int 630))) (eC (.int 2))))))))) (g := (B_law_answer_4)) (ps_setF 5 sc_law_answer.nd (pf_l (pl_comp (defScope s_law_answer) ["_law_cell", "_law_number", "_law_dims", "_law_many", "_law_words", "_law_far", "_law_spans", "_law_low", "_law_high"] ["_law_k"] ["_law_cell", "_law_number"] [0, 1] (go_n 0) (pi_r rfl T.z_range pf_int) rfl rfl rfl (by decide +kernel) (fun _ _ _ _ => (pg_n 0 (show (List.Nodup (α := PySem.Str) ["_law_k", "_law_cell", "_law_number"]) from by decide +kernel))) (fun _ _ _ _ => pifs_nilF) (fun _ _ _ _ => (pf_mod (pf_add (pf_v 1) (pf_mul (pf_mul (pf_v 0) (pf_v 0)) (pf_v 0))) (pf_ix (pf_l (pl_disp (pa_consF pf_int (pa_consF (pf_pow pf_int pf_int) pa_nilF)))) (pf_mod (pf_div (pf_v 2) pf_int) pf_int)))))))
      (pss_consF (f := (sOwn 6 (lComp (iR (eV 3)) 1 [5, 1] (gN 0) tOK (eTup (aCons (eAdd (eIx (eV 1) (eV 0)) (eMul (eV 0) (ePow (eC (.int 10)) (eC (.int 61))))) (aCons (eAdd (eAdd (eIx (eV 1) (eV 0)) (eMul (eV 0) (ePow (eC (.int 10)) (eC (.int 61))))) (eMod (eAdd (eV 2) (eV 0)) (eC (.int 3)))) aNil)))))) (g := (B_law_answer_5)) (ps_compOwn (defScope s_law_answer) ["_law_cell", "_law_number", "_law_dims", "_law_many", "_law_words", "_law_far", "_law_spans", "_law_low", "_law_high"] ["_law_k"] ["_law_far", "_law_number"] [5, 1] (go_n 0) 6 sc_law_answer.nd rfl rfl (pi_r rfl T.z_range (pf_v 3)) rfl rfl rfl (by decide +kernel) (fun _ _ _ _ => (pg_n 0 (show (List.Nodup (α := PySem.Str) ["_law_k", "_law_far", "_law_number"]) from by decide +kernel))) (fun _ _ _ _ => pifs_nilF) (fun _ _ _ _ => (pf_tup (pa_consF (pf_add (pf_ix (pf_v 1) (pf_v 0)) (pf_mul (pf_v 0) (pf_pow pf_int pf_int))) (pa_consF (pf_add (pf_add (pf_ix (pf_v 1) (pf_v 0)) (pf_mul (pf_v 0) (pf_pow pf_int pf_int))) (pf_mod (pf_add (pf_v 2) (pf_v 0)) pf_int)) pa_nilF)))))
      (pss_consF (f := (sSet 7 (eCall 3 d_law_spot (aCons (eV 0) (aCons (eV 1) (aCons (eV 2) aNil)))))) (g := (B_law_answer_6)) (ps_setF 7 sc_law_answer.nd (pf_call (ok_law_spot T) (hr.mono (by omega)) T.m_law_spot T.F_law_spot.kp T.b_law_spot rfl (pa_consF (pf_v 0) (pa_consF (pf_v 1) (pa_consF (pf_v 2) pa_nilF)))))
      (pss_consF (f := (sSet 8 (eCall 3 d_law_spot (aCons (eV 0) (aCons (eAdd (eV 1) (eC (.int 1))) (aCons (eV 2) aNil)))))) (g := (B_law_answer_7)) (ps_setF 8 sc_law_answer.nd (pf_call (ok_law_spot T) (hr.mono (by omega)) T.m_law_spot T.F_law_spot.kp T.b_law_spot rfl (pa_consF (pf_v 0) (pa_consF (pf_add (pf_v 1) pf_int) (pa_consF (pf_v 2) pa_nilF)))))
      (pss_oneF (ps_frz 6 (ps_retF (pf_ix (pf_l (pl_disp (pa_consF (pf_tup (pa_consF pf_str pa_nilF)) (pa_consF (pf_tup (pa_consF pf_str (pa_consF (pf_ix (pf_l (pl_disp (pa_consF pf_str (pa_consF pf_str (pa_consF pf_str (pa_consF pf_str pa_nilF)))))) (pf_mod (pf_v 3) pf_int)) pa_nilF))) (pa_consF (pf_tup (pa_consF pf_str (pa_consF (pf_l (pl_slice (pf_v 4) po_no (po_sm (pf_mod (pf_div (pf_v 1) pf_int) pf_int)))) pa_nilF))) (pa_consF (pf_tup (pa_consF pf_str (pa_consF (pf_v 7) (pa_consF (pf_v 8) pa_nilF)))) (pa_consF (pf_tup (pa_consF pf_str (pa_consF (pf_l (pl_comp (defScope s_law_answer) ["_law_cell", "_law_number", "_law_dims", "_law_many", "_law_words", "_law_far", "_law_spans", "_law_low", "_law_high"] ["_law_k"] ["_law_far", "_law_words"] [5, 4] (go_n 0) (pi_r rfl T.z_range (pf_v 3)) rfl rfl rfl (by decide +kernel) (fun _ _ _ _ => (pg_n 0 (show (List.Nodup (α := PySem.Str) ["_law_k", "_law_far", "_law_words"]) from by decide +kernel))) (fun _ _ _ _ => pifs_nilF) (fun _ _ _ _ => (pf_tup (pa_consF (pf_ix (pf_v 1) (pf_v 0)) (pa_consF (pf_ix (pf_v 2) (pf_v 0)) pa_nilF)))))) pa_nilF))) (pa_consF (pf_tup (pa_consF pf_str (pa_consF (pf_l (pl_comp (defScope s_law_answer) ["_law_cell", "_law_number", "_law_dims", "_law_many", "_law_words", "_law_far", "_law_spans", "_law_low", "_law_high"] ["_law_k"] ["_law_words"] [4] (go_n 0) (pi_r rfl T.z_range (pf_mod (pf_v 3) pf_int)) rfl rfl rfl (by decide +kernel) (fun _ _ _ _ => (pg_n 0 (show (List.Nodup (α := PySem.Str) ["_law_k", "_law_words"]) from by decide +kernel))) (fun _ _ _ _ => pifs_nilF) (fun _ _ _ _ => (pf_tup (pa_consF (pf_ix (pf_v 1) (pf_v 0)) (pa_consF (pf_ix (pf_v 1) (pf_add (pf_v 0) pf_int)) pa_nilF)))))) pa_nilF))) (pa_consF (pf_tup (pa_consF pf_str (pa_consF (pf_ix (pf_v 5) pf_int) pa_nilF))) (pa_consF (pf_tup (pa_consF pf_str (pa_consF (pf_v 7) pa_nilF))) (pa_consF (pf_tup (pa_consF pf_str (pa_consF (pf_v 6) pa_nilF))) pa_nilF))))))))))) (pf_mod (pf_v 1) pf_int))))))))))))
theorem sc_list_row : FnScope ["word", "things"] ["word", "things"] (defScope s_list_row) := ⟨rfl, rfl, rfl, by decide +kernel, rfl, by decide +kernel, by decide +kernel⟩
noncomputable def B_list_row_4 : Sf := (sRet (eJoin (eC (.str " ")) (iL (eV 1))))
noncomputable def B_list_row_3 : Sf := (sSeq (sIf (eB2 gEq (eV 0) (eC (.str "spans"))) (sRet (eJoin (eC (.str " ")) (lComp (iL (eV 1)) 2 [] (gT (gsCons (gN 0) (gsCons (gN 1) gsNil))) tOK (eFs (jV (eV 0) (jC "-" (jV (eV 1) jNil))))))) sNil)
    (B_list_row_4))
noncomputable def B_list_row_2 : Sf := (sSeq (sIf (eB2 gEq (eV 0) (eC (.str "pairs"))) (sRet (eJoin (eC (.str ", ")) (lComp (iL (eV 1)) 2 [] (gT (gsCons (gN 0) (gsCons (gN 1) gsNil))) tOK (eFs (jV (eV 0) (jC " " (jV (eV 1) jNil))))))) sNil)
    (B_list_row_3))
noncomputable def B_list_row_1 : Sf := (sSeq (sIf (eB2 gEq (eV 0) (eC (.str "near"))) (sRet (eJoin (eC (.str " ")) (lComp (iL (eV 1)) 2 [] (gT (gsCons (gN 0) (gsCons (gN 1) gsNil))) tOK (eFs (jV (eV 0) (jC " " (jV (eV 1) jNil))))))) sNil)
    (B_list_row_2))
noncomputable def B_list_row_0 : Sf := (sSeq (sIf (tNotF (tTru (eV 1))) (sRet (eC (.str "none"))) sNil)
    (B_list_row_1))
noncomputable def b_list_row : Sf :=
    (B_list_row_0)
noncomputable def d_list_row : List D → Option D := fnF 2 b_list_row
theorem ok_list_row (T : Txt K mg) : FnOk P w K mg base CX0 1 T.f_list_row T.fd_list_row ["word", "things"] (spF K 2 d_list_row) :=
  ok_fn (k := 0) T.F_list_row sc_list_row fun cdv A outer s H E hr =>
    (pss_consF (f := (sIf (tNotF (tTru (eV 1))) (sRet (eC (.str "none"))) sNil)) (g := (B_list_row_1)) (ps_ifF (pt_notF (pt_truF (pf_v 1))) (pss_oneF (ps_retF pf_str)) pss_nilF)
      (pss_consF (f := (sIf (eB2 gEq (eV 0) (eC (.str "near"))) (sRet (eJoin (eC (.str " ")) (lComp (iL (eV 1)) 2 [] (gT (gsCons (gN 0) (gsCons (gN 1) gsNil))) tOK (eFs (jV (eV 0) (jC " " (jV (eV 1) jNil))))))) sNil)) (g := (B_list_row_2)) (ps_ifF (pt_cmpF cm_eq (pf_v 0) pf_str) (pss_oneF (ps_retF (pf_join (pe_bm PySem.F.plainAttrs_str PySem.F.slot_str_join PySem.F.type_str_join mt_join pf_str (pa_cons (src_r (pl_comp (defScope s_list_row) ["word", "things"] ["gap", "name"] [] [] (go_t (gso_cons (go_n 0) (gso_cons (go_n 1) gso_nil))) (pi_l (pf_v 1)) rfl rfl rfl (by decide +kernel) (fun _ _ _ _ => (pg_t 2 rfl (pgs_consF (pg_n 0 (show (List.Nodup (α := PySem.Str) ["gap", "name"]) from by decide +kernel)) (pgs_consF (pg_n 1 (show (List.Nodup (α := PySem.Str) ["gap", "name"]) from by decide +kernel)) pgs_nilF)) (gs_len1 (gs_len1 gs_len0)))) (fun _ _ _ _ => pifs_nilF) (fun _ _ _ _ => (pf_fs (pjv_v (pf_v 0) (pjv_c (pjv_v (pf_v 1) pjv_nil))))))) pa_nil))))) pss_nilF)
      (pss_consF (f := (sIf (eB2 gEq (eV 0) (eC (.str "pairs"))) (sRet (eJoin (eC (.str ", ")) (lComp (iL (eV 1)) 2 [] (gT (gsCons (gN 0) (gsCons (gN 1) gsNil))) tOK (eFs (jV (eV 0) (jC " " (jV (eV 1) jNil))))))) sNil)) (g := (B_list_row_3)) (ps_ifF (pt_cmpF cm_eq (pf_v 0) pf_str) (pss_oneF (ps_retF (pf_join (pe_bm PySem.F.plainAttrs_str PySem.F.slot_str_join PySem.F.type_str_join mt_join pf_str (pa_cons (src_r (pl_comp (defScope s_list_row) ["word", "things"] ["one", "other"] [] [] (go_t (gso_cons (go_n 0) (gso_cons (go_n 1) gso_nil))) (pi_l (pf_v 1)) rfl rfl rfl (by decide +kernel) (fun _ _ _ _ => (pg_t 2 rfl (pgs_consF (pg_n 0 (show (List.Nodup (α := PySem.Str) ["one", "other"]) from by decide +kernel)) (pgs_consF (pg_n 1 (show (List.Nodup (α := PySem.Str) ["one", "other"]) from by decide +kernel)) pgs_nilF)) (gs_len1 (gs_len1 gs_len0)))) (fun _ _ _ _ => pifs_nilF) (fun _ _ _ _ => (pf_fs (pjv_v (pf_v 0) (pjv_c (pjv_v (pf_v 1) pjv_nil))))))) pa_nil))))) pss_nilF)
      (pss_consF (f := (sIf (eB2 gEq (eV 0) (eC (.str "spans"))) (sRet (eJoin (eC (.str " ")) (lComp (iL (eV 1)) 2 [] (gT (gsCons (gN 0) (gsCons (gN 1) gsNil))) tOK (eFs (jV (eV 0) (jC "-" (jV (eV 1) jNil))))))) sNil)) (g := (B_list_row_4)) (ps_ifF (pt_cmpF cm_eq (pf_v 0) pf_str) (pss_oneF (ps_retF (pf_join (pe_bm PySem.F.plainAttrs_str PySem.F.slot_str_join PySem.F.type_str_join mt_join pf_str (pa_cons (src_r (pl_comp (defScope s_list_row) ["word", "things"] ["first", "last"] [] [] (go_t (gso_cons (go_n 0) (gso_cons (go_n 1) gso_nil))) (pi_l (pf_v 1)) rfl rfl rfl (by decide +kernel) (fun _ _ _ _ => (pg_t 2 rfl (pgs_consF (pg_n 0 (show (List.Nodup (α := PySem.Str) ["first", "last"]) from by decide +kernel)) (pgs_consF (pg_n 1 (show (List.Nodup (α := PySem.Str) ["first", "last"]) from by decide +kernel)) pgs_nilF)) (gs_len1 (gs_len1 gs_len0)))) (fun _ _ _ _ => pifs_nilF) (fun _ _ _ _ => (pf_fs (pjv_v (pf_v 0) (pjv_c (pjv_v (pf_v 1) pjv_nil))))))) pa_nil))))) pss_nilF)
      (pss_oneF (ps_retF (pf_join (pe_bm PySem.F.plainAttrs_str PySem.F.slot_str_join PySem.F.type_str_join mt_join pf_str (pa_cons (src_l (pf_v 1)) pa_nil)))))))))
theorem sc_place_text : FnScope ["place"] ["place"] (defScope s_place_text) := ⟨rfl, rfl, rfl, by decide +kernel, rfl, by decide +kernel, by decide +kernel⟩
noncomputable def B_place_text_0 : Sf := (sRet (eJoin (eC (.str ",")) (lComp (iT (eV 0)) 1 [] (gN 0) tOK (eStrOf (eV 0)))))
noncomputable def b_place_text : Sf :=
    (B_place_text_0)
noncomputable def d_place_text : List D → Option D := fnF 1 b_place_text
theorem ok_place_text (T : Txt K mg) : FnOk P w K mg base CX0 1 T.f_place_text T.fd_place_text ["place"] (spF K 1 d_place_text) :=
  ok_fn (k := 0) T.F_place_text sc_place_text fun cdv A outer s H E hr =>
    (pss_oneF (ps_retF (pf_join (pe_bm PySem.F.plainAttrs_str PySem.F.slot_str_join PySem.F.type_str_join mt_join pf_str (pa_cons (src_r (pl_comp (defScope s_place_text) ["place"] ["along"] [] [] (go_n 0) (pi_t (pf_v 0)) rfl rfl rfl (by decide +kernel) (fun _ _ _ _ => (pg_n 0 (show (List.Nodup (α := PySem.Str) ["along"]) from by decide +kernel))) (fun _ _ _ _ => pifs_nilF) (fun _ _ _ _ => (pf_strOf rfl T.z_str (pf_v 0))))) pa_nil)))))
theorem sc_answer_row : FnScope ["answer", "word"] ["answer"] (defScope s_answer_row) := ⟨rfl, rfl, rfl, by decide +kernel, rfl, by decide +kernel, by decide +kernel⟩
noncomputable def B_answer_row_5 : Sf := (sRet (eCall 2 d_list_row (aCons (eV 1) (aCons (eIx (eV 0) (eC (.int 1))) aNil))))
noncomputable def B_answer_row_4 : Sf := (sSeq (sIf (eB2 gInD (eV 1) (eTup (aCons (eC (.str "place")) (aCons (eC (.str "box")) aNil)))) (sRet (eJoin (eC (.str " ")) (lComp (iT (eTCut (eV 0) (oSome (eC (.int 1))) oNo)) 1 [] (gN 0) tOK (eCall 1 d_place_text (aCons (eV 0) aNil))))) sNil)
    (B_answer_row_5))
noncomputable def B_answer_row_3 : Sf := (sSeq (sIf (eB2 gEq (eV 1) (eC (.str "number"))) (sRet (eStrOf (eIx (eV 0) (eC (.int 1))))) sNil)
    (B_answer_row_4))
noncomputable def B_answer_row_2 : Sf := (sSeq (sIf (eB2 gEq (eV 1) (eC (.str "refused"))) (sRet (eJoinT (eC (.str " ")) (eV 0))) sNil)
    (B_answer_row_3))
noncomputable def B_answer_row_1 : Sf := (sSeq (sIf (eB2 gEq (eV 1) (eC (.str "ok"))) (sRet (eV 1)) sNil)
    (B_answer_row_2))
noncomputable def B_answer_row_0 : Sf := (sSeq (sSet 1 (eIx (eV 0) (eC (.int 0))))
    (B_answer_row_1))
noncomputable def b_answer_row : Sf :=
    (B_answer_row_0)
noncomputable def d_answer_row : List D → Option D := fnF 2 b_answer_row
theorem ok_answer_row (T : Txt K mg) : FnOk P w K mg base CX0 2 T.f_answer_row T.fd_answer_row ["answer"] (spF K 1 d_answer_row) :=
  ok_fn (k := 1) T.F_answer_row sc_answer_row fun cdv A outer s H E hr =>
    (pss_consF (f := (sSet 1 (eIx (eV 0) (eC (.int 0))))) (g := (B_answer_row_1)) (ps_setF 1 sc_answer_row.nd (pf_ix (pf_v 0) pf_int))
      (pss_consF (f := (sIf (eB2 gEq (eV 1) (eC (.str "ok"))) (sRet (eV 1)) sNil)) (g := (B_answer_row_2)) (ps_ifF (pt_cmpF cm_eq (pf_v 1) pf_str) (pss_oneF (ps_retF (pf_v 1))) pss_nilF)
      (pss_consF (f := (sIf (eB2 gEq (eV 1) (eC (.str "refused"))) (sRet (eJoinT (eC (.str " ")) (eV 0))) sNil)) (g := (B_answer_row_3)) (ps_ifF (pt_cmpF cm_eq (pf_v 1) pf_str) (pss_oneF (ps_retF (pf_joinT (pe_bm PySem.F.plainAttrs_str PySem.F.slot_str_join PySem.F.type_str_join mt_joinT pf_str (pa_cons (pf_v 0) pa_nil))))) pss_nilF)
      (pss_consF (f := (sIf (eB2 gEq (eV 1) (eC (.str "number"))) (sRet (eStrOf (eIx (eV 0) (eC (.int 1))))) sNil)) (g := (B_answer_row_4)) (ps_ifF (pt_cmpF cm_eq (pf_v 1) pf_str) (pss_oneF (ps_retF (pf_strOf rfl T.z_str (pf_ix (pf_v 0) pf_int)))) pss_nilF)
      (pss_consF (f := (sIf (eB2 gInD (eV 1) (eTup (aCons (eC (.str "place")) (aCons (eC (.str "box")) aNil)))) (sRet (eJoin (eC (.str " ")) (lComp (iT (eTCut (eV 0) (oSome (eC (.int 1))) oNo)) 1 [] (gN 0) tOK (eCall 1 d_place_text (aCons (eV 0) aNil))))) sNil)) (g := (B_answer_row_5)) (ps_ifF (pt_cmpF (cm_inD hr) (pf_v 1) (pf_tup (pa_consF pf_str (pa_consF pf_str pa_nilF)))) (pss_oneF (ps_retF (pf_join (pe_bm PySem.F.plainAttrs_str PySem.F.slot_str_join PySem.F.type_str_join mt_join pf_str (pa_cons (src_r (pl_comp (defScope s_answer_row) ["answer", "word"] ["place"] [] [] (go_n 0) (pi_t (pf_tcut (pf_v 0) (po_sm pf_int) po_no)) rfl rfl rfl (by decide +kernel) (fun _ _ _ _ => (pg_n 0 (show (List.Nodup (α := PySem.Str) ["place"]) from by decide +kernel))) (fun _ _ _ _ => pifs_nilF) (fun _ _ _ _ => (pf_call (ok_place_text T) (hr.mono (by omega)) T.m_place_text T.F_place_text.kp T.b_place_text rfl (pa_consF (pf_v 0) pa_nilF))))) pa_nil))))) pss_nilF)
      (pss_oneF (ps_retF (pf_call (ok_list_row T) (hr.mono (by omega)) T.m_list_row T.F_list_row.kp T.b_list_row rfl (pa_consF (pf_v 1) (pa_consF (pf_ix (pf_v 0) pf_int) pa_nilF))))))))))
theorem sc_law_cell_at : FnScope ["_law_script", "_law_k"] ["_law_script", "_law_k"] (defScope s_law_cell_at) := ⟨rfl, rfl, rfl, by decide +kernel, rfl, by decide +kernel, by decide +kernel⟩
noncomputable def B_law_cell_at_1 : Sf := (sRet (eC (.int 0)))
noncomputable def B_law_cell_at_0 : Sf := (sSeq (sIf (eB2 gLt (eV 1) (eLen (eV 0))) (sRet (eIx (eV 0) (eV 1))) sNil)
    (B_law_cell_at_1))
noncomputable def b_law_cell_at : Sf :=
    (B_law_cell_at_0)
noncomputable def d_law_cell_at : List D → Option D := fnF 2 b_law_cell_at
theorem ok_law_cell_at (T : Txt K mg) : FnOk P w K mg base CX0 1 T.f_law_cell_at T.fd_law_cell_at ["_law_script", "_law_k"] (spF K 2 d_law_cell_at) :=
  ok_fn (k := 0) T.F_law_cell_at sc_law_cell_at fun cdv A outer s H E hr =>
    (pss_consF (f := (sIf (eB2 gLt (eV 1) (eLen (eV 0))) (sRet (eIx (eV 0) (eV 1))) sNil)) (g := (B_law_cell_at_1)) (ps_ifF (pt_cmpF cm_lt (pf_v 1) (pf_len rfl T.z_len (pf_v 0))) (pss_oneF (ps_retF (pf_ix (pf_v 0) (pf_v 1)))) pss_nilF)
      (pss_oneF (ps_retF pf_int)))
theorem sc_law_listed : FnScope ["_law_parts", "_law_mark", "_law_text", "_law_k", "_law_part"] ["_law_parts", "_law_mark"] (defScope s_law_listed) := ⟨rfl, rfl, rfl, by decide +kernel, rfl, by decide +kernel, by decide +kernel⟩
noncomputable def L1_law_listed_1 : Sf := (sSet 2 (eAddP (eV 2) (eV 4)))
noncomputable def L1_law_listed_0 : Sf := (sSeq (sIf (eB2 gGt (eV 3) (eC (.int 0))) (sSet 2 (eAddP (eV 2) (eV 1))) sNil)
    (L1_law_listed_1))
noncomputable def B_law_listed_3 : Sf := (sRet (eV 2))
noncomputable def B_law_listed_2 : Sf := (sSeq (sIf (eB2 gEq (eV 2) (eC (.str ""))) (sRet (eC (.str "none"))) sNil)
    (B_law_listed_3))
noncomputable def B_law_listed_1 : Sf := (sSeq (sFor (iEnum (iL (eV 0))) (gT (gsCons (gN 3) (gsCons (gN 4) gsNil))) (L1_law_listed_0))
    (B_law_listed_2))
noncomputable def B_law_listed_0 : Sf := (sSeq (sSet 2 (eC (.str "")))
    (B_law_listed_1))
noncomputable def b_law_listed : Sf :=
    (B_law_listed_0)
noncomputable def d_law_listed : List D → Option D := fnF 5 b_law_listed
theorem ok_law_listed (T : Txt K mg) : FnOk P w K mg base CX0 1 T.f_law_listed T.fd_law_listed ["_law_parts", "_law_mark"] (spF K 2 d_law_listed) :=
  ok_fn (k := 0) T.F_law_listed sc_law_listed fun cdv A outer s H E hr =>
    (pss_consF (f := (sSet 2 (eC (.str "")))) (g := (B_law_listed_1)) (ps_setF 2 sc_law_listed.nd pf_str)
      (pss_consF (f := (sFor (iEnum (iL (eV 0))) (gT (gsCons (gN 3) (gsCons (gN 4) gsNil))) (L1_law_listed_0))) (g := (B_law_listed_2)) (ps_forF PassesOwn.never rfl (pi_enum rfl T.z_enumerate (src_l (pf_v 0))) (pg_t 2 rfl (pgs_consF (pg_n 3 sc_law_listed.nd) (pgs_consF (pg_n 4 sc_law_listed.nd) pgs_nilF)) (gs_len1 (gs_len1 gs_len0))) (pss_consF (f := (sIf (eB2 gGt (eV 3) (eC (.int 0))) (sSet 2 (eAddP (eV 2) (eV 1))) sNil)) (g := (L1_law_listed_1)) (ps_ifF (pt_cmpF cm_gt (pf_v 3) pf_int) (pss_oneF (ps_setF 2 sc_law_listed.nd (pf_addP (pf_v 2) (pf_v 1)))) pss_nilF)
      (pss_oneF (ps_setF 2 sc_law_listed.nd (pf_addP (pf_v 2) (pf_v 4))))))
      (pss_consF (f := (sIf (eB2 gEq (eV 2) (eC (.str ""))) (sRet (eC (.str "none"))) sNil)) (g := (B_law_listed_3)) (ps_ifF (pt_cmpF cm_eq (pf_v 2) pf_str) (pss_oneF (ps_retF pf_str)) pss_nilF)
      (pss_oneF (ps_retF (pf_v 2))))))
theorem sc_law_place_text : FnScope ["_law_place", "_law_text", "_law_each"] ["_law_place"] (defScope s_law_place_text) := ⟨rfl, rfl, rfl, by decide +kernel, rfl, by decide +kernel, by decide +kernel⟩
noncomputable def L1_law_place_text_0 : Sf := (sSet 1 (eAddP (eAddP (eV 1) (eC (.str ","))) (eStrOf (eV 2))))
noncomputable def B_law_place_text_2 : Sf := (sRet (eV 1))
noncomputable def B_law_place_text_1 : Sf := (sSeq (sFor (iT (eTCut (eV 0) (oSome (eC (.int 1))) oNo)) (gN 2) (L1_law_place_text_0))
    (B_law_place_text_2))
noncomputable def B_law_place_text_0 : Sf := (sSeq (sSet 1 (eStrOf (eIx (eV 0) (eC (.int 0)))))
    (B_law_place_text_1))
noncomputable def b_law_place_text : Sf :=
    (B_law_place_text_0)
noncomputable def d_law_place_text : List D → Option D := fnF 3 b_law_place_text
theorem ok_law_place_text (T : Txt K mg) : FnOk P w K mg base CX0 1 T.f_law_place_text T.fd_law_place_text ["_law_place"] (spF K 1 d_law_place_text) :=
  ok_fn (k := 0) T.F_law_place_text sc_law_place_text fun cdv A outer s H E hr =>
    (pss_consF (f := (sSet 1 (eStrOf (eIx (eV 0) (eC (.int 0)))))) (g := (B_law_place_text_1)) (ps_setF 1 sc_law_place_text.nd (pf_strOf rfl T.z_str (pf_ix (pf_v 0) pf_int)))
      (pss_consF (f := (sFor (iT (eTCut (eV 0) (oSome (eC (.int 1))) oNo)) (gN 2) (L1_law_place_text_0))) (g := (B_law_place_text_2)) (ps_forF PassesOwn.never rfl (pi_t (pf_tcut (pf_v 0) (po_sm pf_int) po_no)) (pg_n 2 sc_law_place_text.nd) (pss_oneF (ps_setF 1 sc_law_place_text.nd (pf_addP (pf_addP (pf_v 1) pf_str) (pf_strOf rfl T.z_str (pf_v 2))))))
      (pss_oneF (ps_retF (pf_v 1)))))
theorem sc_law_due : FnScope ["_law_answer_here", "_law_sort"] ["_law_answer_here"] (defScope s_law_due) := ⟨rfl, rfl, rfl, by decide +kernel, rfl, by decide +kernel, by decide +kernel⟩
noncomputable def B_law_due_9 : Sf := (sRet (eCall 2 d_law_listed (aCons (eL (lComp (iL (eIx (eV 0) (eC (.int 1)))) 2 [] (gT (gsCons (gN 0) (gsCons (gN 1) gsNil))) tOK (eAddP (eAddP (eStrOf (eV 0)) (eC (.str "-"))) (eStrOf (eV 1))))) (aCons (eC (.str " ")) aNil))))
noncomputable def B_law_due_8 : Sf := (sSeq (sIf (eB2 gEq (eV 1) (eC (.str "pairs"))) (sRet (eCall 2 d_law_listed (aCons (eL (lComp (iL (eIx (eV 0) (eC (.int 1)))) 2 [] (gT (gsCons (gN 0) (gsCons (gN 1) gsNil))) tOK (eAddP (eAddP (eV 0) (eC (.str " "))) (eV 1)))) (aCons (eC (.str ", ")) aNil)))) sNil)
    (B_law_due_9))
noncomputable def B_law_due_7 : Sf := (sSeq (sIf (eB2 gEq (eV 1) (eC (.str "near"))) (sRet (eCall 2 d_law_listed (aCons (eL (lComp (iL (eIx (eV 0) (eC (.int 1)))) 2 [] (gT (gsCons (gN 0) (gsCons (gN 1) gsNil))) tOK (eAddP (eAddP (eStrOf (eV 0)) (eC (.str " "))) (eV 1)))) (aCons (eC (.str " ")) aNil)))) sNil)
    (B_law_due_8))
noncomputable def B_law_due_6 : Sf := (sSeq (sIf (eB2 gEq (eV 1) (eC (.str "number"))) (sRet (eStrOf (eIx (eV 0) (eC (.int 1))))) sNil)
    (B_law_due_7))
noncomputable def B_law_due_5 : Sf := (sSeq (sIf (eB2 gEq (eV 1) (eC (.str "place"))) (sRet (eCall 1 d_law_place_text (aCons (eIx (eV 0) (eC (.int 1))) aNil))) sNil)
    (B_law_due_6))
noncomputable def B_law_due_4 : Sf := (sSeq (sIf (eB2 gEq (eV 1) (eC (.str "box"))) (sRet (eAddP (eAddP (eCall 1 d_law_place_text (aCons (eIx (eV 0) (eC (.int 1))) aNil)) (eC (.str " "))) (eCall 1 d_law_place_text (aCons (eIx (eV 0) (eC (.int 2))) aNil)))) sNil)
    (B_law_due_5))
noncomputable def B_law_due_3 : Sf := (sSeq (sIf (eB2 gEq (eV 1) (eC (.str "names"))) (sRet (eCall 2 d_law_listed (aCons (eIx (eV 0) (eC (.int 1))) (aCons (eC (.str " ")) aNil)))) sNil)
    (B_law_due_4))
noncomputable def B_law_due_2 : Sf := (sSeq (sIf (eB2 gEq (eV 1) (eC (.str "refused"))) (sRet (eAddP (eC (.str "refused ")) (eIx (eV 0) (eC (.int 1))))) sNil)
    (B_law_due_3))
noncomputable def B_law_due_1 : Sf := (sSeq (sIf (eB2 gEq (eV 1) (eC (.str "ok"))) (sRet (eC (.str "ok"))) sNil)
    (B_law_due_2))
noncomputable def B_law_due_0 : Sf := (sSeq (sSet 1 (eIx (eV 0) (eC (.int 0))))
    (B_law_due_1))
noncomputable def b_law_due : Sf :=
    (B_law_due_0)
noncomputable def d_law_due : List D → Option D := fnF 2 b_law_due
theorem ok_law_due (T : Txt K mg) : FnOk P w K mg base CX0 2 T.f_law_due T.fd_law_due ["_law_answer_here"] (spF K 1 d_law_due) :=
  ok_fn (k := 1) T.F_law_due sc_law_due fun cdv A outer s H E hr =>
    (pss_consF (f := (sSet 1 (eIx (eV 0) (eC (.int 0))))) (g := (B_law_due_1)) (ps_setF 1 sc_law_due.nd (pf_ix (pf_v 0) pf_int))
      (pss_consF (f := (sIf (eB2 gEq (eV 1) (eC (.str "ok"))) (sRet (eC (.str "ok"))) sNil)) (g := (B_law_due_2)) (ps_ifF (pt_cmpF cm_eq (pf_v 1) pf_str) (pss_oneF (ps_retF pf_str)) pss_nilF)
      (pss_consF (f := (sIf (eB2 gEq (eV 1) (eC (.str "refused"))) (sRet (eAddP (eC (.str "refused ")) (eIx (eV 0) (eC (.int 1))))) sNil)) (g := (B_law_due_3)) (ps_ifF (pt_cmpF cm_eq (pf_v 1) pf_str) (pss_oneF (ps_retF (pf_addP pf_str (pf_ix (pf_v 0) pf_int)))) pss_nilF)
      (pss_consF (f := (sIf (eB2 gEq (eV 1) (eC (.str "names"))) (sRet (eCall 2 d_law_listed (aCons (eIx (eV 0) (eC (.int 1))) (aCons (eC (.str " ")) aNil)))) sNil)) (g := (B_law_due_4)) (ps_ifF (pt_cmpF cm_eq (pf_v 1) pf_str) (pss_oneF (ps_retF (pf_call (ok_law_listed T) (hr.mono (by omega)) T.m_law_listed T.F_law_listed.kp T.b_law_listed rfl (pa_consF (pf_ix (pf_v 0) pf_int) (pa_consF pf_str pa_nilF))))) pss_nilF)
      (pss_consF (f := (sIf (eB2 gEq (eV 1) (eC (.str "box"))) (sRet (eAddP (eAddP (eCall 1 d_law_place_text (aCons (eIx (eV 0) (eC (.int 1))) aNil)) (eC (.str " "))) (eCall 1 d_law_place_text (aCons (eIx (eV 0) (eC (.int 2))) aNil)))) sNil)) (g := (B_law_due_5)) (ps_ifF (pt_cmpF cm_eq (pf_v 1) pf_str) (pss_oneF (ps_retF (pf_addP (pf_addP (pf_call (ok_law_place_text T) (hr.mono (by omega)) T.m_law_place_text T.F_law_place_text.kp T.b_law_place_text rfl (pa_consF (pf_ix (pf_v 0) pf_int) pa_nilF)) pf_str) (pf_call (ok_law_place_text T) (hr.mono (by omega)) T.m_law_place_text T.F_law_place_text.kp T.b_law_place_text rfl (pa_consF (pf_ix (pf_v 0) pf_int) pa_nilF))))) pss_nilF)
      (pss_consF (f := (sIf (eB2 gEq (eV 1) (eC (.str "place"))) (sRet (eCall 1 d_law_place_text (aCons (eIx (eV 0) (eC (.int 1))) aNil))) sNil)) (g := (B_law_due_6)) (ps_ifF (pt_cmpF cm_eq (pf_v 1) pf_str) (pss_oneF (ps_retF (pf_call (ok_law_place_text T) (hr.mono (by omega)) T.m_law_place_text T.F_law_place_text.kp T.b_law_place_text rfl (pa_consF (pf_ix (pf_v 0) pf_int) pa_nilF)))) pss_nilF)
      (pss_consF (f := (sIf (eB2 gEq (eV 1) (eC (.str "number"))) (sRet (eStrOf (eIx (eV 0) (eC (.int 1))))) sNil)) (g := (B_law_due_7)) (ps_ifF (pt_cmpF cm_eq (pf_v 1) pf_str) (pss_oneF (ps_retF (pf_strOf rfl T.z_str (pf_ix (pf_v 0) pf_int)))) pss_nilF)
      (pss_consF (f := (sIf (eB2 gEq (eV 1) (eC (.str "near"))) (sRet (eCall 2 d_law_listed (aCons (eL (lComp (iL (eIx (eV 0) (eC (.int 1)))) 2 [] (gT (gsCons (gN 0) (gsCons (gN 1) gsNil))) tOK (eAddP (eAddP (eStrOf (eV 0)) (eC (.str " "))) (eV 1)))) (aCons (eC (.str " ")) aNil)))) sNil)) (g := (B_law_due_8)) (ps_ifF (pt_cmpF cm_eq (pf_v 1) pf_str) (pss_oneF (ps_retF (pf_call (ok_law_listed T) (hr.mono (by omega)) T.m_law_listed T.F_law_listed.kp T.b_law_listed rfl (pa_consF (pf_l (pl_comp (defScope s_law_due) ["_law_answer_here", "_law_sort"] ["_law_each", "_law_name"] [] [] (go_t (gso_cons (go_n 0) (gso_cons (go_n 1) gso_nil))) (pi_l (pf_ix (pf_v 0) pf_int)) rfl rfl rfl (by decide +kernel) (fun _ _ _ _ => (pg_t 2 rfl (pgs_consF (pg_n 0 (show (List.Nodup (α := PySem.Str) ["_law_each", "_law_name"]) from by decide +kernel)) (pgs_consF (pg_n 1 (show (List.Nodup (α := PySem.Str) ["_law_each", "_law_name"]) from by decide +kernel)) pgs_nilF)) (gs_len1 (gs_len1 gs_len0)))) (fun _ _ _ _ => pifs_nilF) (fun _ _ _ _ => (pf_addP (pf_addP (pf_strOf rfl T.z_str (pf_v 0)) pf_str) (pf_v 1))))) (pa_consF pf_str pa_nilF))))) pss_nilF)
      (pss_consF (f := (sIf (eB2 gEq (eV 1) (eC (.str "pairs"))) (sRet (eCall 2 d_law_listed (aCons (eL (lComp (iL (eIx (eV 0) (eC (.int 1)))) 2 [] (gT (gsCons (gN 0) (gsCons (gN 1) gsNil))) tOK (eAddP (eAddP (eV 0) (eC (.str " "))) (eV 1)))) (aCons (eC (.str ", ")) aNil)))) sNil)) (g := (B_law_due_9)) (ps_ifF (pt_cmpF cm_eq (pf_v 1) pf_str) (pss_oneF (ps_retF (pf_call (ok_law_listed T) (hr.mono (by omega)) T.m_law_listed T.F_law_listed.kp T.b_law_listed rfl (pa_consF (pf_l (pl_comp (defScope s_law_due) ["_law_answer_here", "_law_sort"] ["_law_one", "_law_other"] [] [] (go_t (gso_cons (go_n 0) (gso_cons (go_n 1) gso_nil))) (pi_l (pf_ix (pf_v 0) pf_int)) rfl rfl rfl (by decide +kernel) (fun _ _ _ _ => (pg_t 2 rfl (pgs_consF (pg_n 0 (show (List.Nodup (α := PySem.Str) ["_law_one", "_law_other"]) from by decide +kernel)) (pgs_consF (pg_n 1 (show (List.Nodup (α := PySem.Str) ["_law_one", "_law_other"]) from by decide +kernel)) pgs_nilF)) (gs_len1 (gs_len1 gs_len0)))) (fun _ _ _ _ => pifs_nilF) (fun _ _ _ _ => (pf_addP (pf_addP (pf_v 0) pf_str) (pf_v 1))))) (pa_consF pf_str pa_nilF))))) pss_nilF)
      (pss_oneF (ps_retF (pf_call (ok_law_listed T) (hr.mono (by omega)) T.m_law_listed T.F_law_listed.kp T.b_law_listed rfl (pa_consF (pf_l (pl_comp (defScope s_law_due) ["_law_answer_here", "_law_sort"] ["_law_first", "_law_last"] [] [] (go_t (gso_cons (go_n 0) (gso_cons (go_n 1) gso_nil))) (pi_l (pf_ix (pf_v 0) pf_int)) rfl rfl rfl (by decide +kernel) (fun _ _ _ _ => (pg_t 2 rfl (pgs_consF (pg_n 0 (show (List.Nodup (α := PySem.Str) ["_law_first", "_law_last"]) from by decide +kernel)) (pgs_consF (pg_n 1 (show (List.Nodup (α := PySem.Str) ["_law_first", "_law_last"]) from by decide +kernel)) pgs_nilF)) (gs_len1 (gs_len1 gs_len0)))) (fun _ _ _ _ => pifs_nilF) (fun _ _ _ _ => (pf_addP (pf_addP (pf_strOf rfl T.z_str (pf_v 0)) pf_str) (pf_strOf rfl T.z_str (pf_v 1)))))) (pa_consF pf_str pa_nilF))))))))))))))
theorem sc_law : FnScope ["_law_script", "_law_cells", "_law_k", "_law_number", "_law_answer_here", "_law_kept", "_law_found"] ["_law_script"] (defScope s_law) := ⟨rfl, rfl, rfl, by decide +kernel, rfl, by decide +kernel, by decide +kernel⟩
noncomputable def L1_law_5 : Sf := (sIf (tOrF (tNotF (tB1 (isTy isStr (eV 6)))) (tOrF (eB2 gNeD (eV 6) (eCall 1 d_law_due (aCons (eV 4) aNil))) (eB2 gNeD (eL (lListOf (eV 4))) (eV 5)))) (sRet (eC (.bl false))) sNil)
noncomputable def L1_law_4 : Sf := (sSeq (sSet 6 (eCall 1 d_answer_row (aCons (eV 4) aNil)))
    (L1_law_5))
noncomputable def L1_law_3 : Sf := (sSeq (sIf (tB1 (isTy isLst (eIx (eV 4) (eSub (eLen (eV 4)) (eC (.int 1)))))) (sSet 5 (eL (lDisp (aCons (eIx (eV 4) (eC (.int 0))) (aCons (eL (lListOf (eIx (eV 4) (eC (.int 1))))) aNil))))) sNil)
    (L1_law_4))
noncomputable def L1_law_2 : Sf := (sSeq (sSet 5 (eL (lListOf (eV 4))))
    (L1_law_3))
noncomputable def L1_law_1 : Sf := (sSeq (sSet 4 (eCall 2 d_law_answer (aCons (eCall 2 d_law_cell_at (aCons (eV 1) (aCons (eMul (eC (.int 2)) (eV 2)) aNil))) (aCons (eV 3) aNil))))
    (L1_law_2))
noncomputable def L1_law_0 : Sf := (sSeq (sSet 3 (eCall 2 d_law_mix (aCons (eAdd (eCall 2 d_law_cell_at (aCons (eV 1) (aCons (eAdd (eMul (eC (.int 2)) (eV 2)) (eC (.int 1))) aNil))) (eMul (eV 2) (eV 2))) (aCons (eC (.int 48271)) aNil))))
    (L1_law_1))
noncomputable def B_law_2 : Sf := (sRet (eC (.bl true)))
noncomputable def B_law_1 : Sf := (sSeq (sFor (iR (eAdd (eC (.int 1)) (eDiv (eLen (eV 1)) (eC (.int 2))))) (gN 2) (L1_law_0))
    (B_law_2))
noncomputable def B_law_0 : Sf := (sSeq (sSet 1 (eL (lSlice (eV 0) (oSome (eC (.int 0))) (oSome (eC (.int 60))))))
    (B_law_1))
noncomputable def b_law : Sf :=
    (B_law_0)
noncomputable def d_law : List D → Option D := fnF 7 b_law
theorem ok_law (T : Txt K mg) : FnOk P w K mg base CX0 4 T.f_law T.fd_law ["_law_script"] (spF K 1 d_law) :=
  ok_fn (k := 3) T.F_law sc_law fun cdv A outer s H E hr =>
    (pss_consF (f := (sSet 1 (eL (lSlice (eV 0) (oSome (eC (.int 0))) (oSome (eC (.int 60))))))) (g := (B_law_1)) (ps_setF 1 sc_law.nd (pf_l (pl_slice (pf_v 0) (po_sm pf_int) (po_sm pf_int))))
      (pss_consF (f := (sFor (iR (eAdd (eC (.int 1)) (eDiv (eLen (eV 1)) (eC (.int 2))))) (gN 2) (L1_law_0))) (g := (B_law_2)) (ps_forF PassesOwn.never rfl (pi_r rfl T.z_range (pf_add pf_int (pf_div (pf_len rfl T.z_len (pf_v 1)) pf_int))) (pg_n 2 sc_law.nd) (pss_consF (f := (sSet 3 (eCall 2 d_law_mix (aCons (eAdd (eCall 2 d_law_cell_at (aCons (eV 1) (aCons (eAdd (eMul (eC (.int 2)) (eV 2)) (eC (.int 1))) aNil))) (eMul (eV 2) (eV 2))) (aCons (eC (.int 48271)) aNil))))) (g := (L1_law_1)) (ps_setF 3 sc_law.nd (pf_call (ok_law_mix T) (hr.mono (by omega)) T.m_law_mix T.F_law_mix.kp T.b_law_mix rfl (pa_consF (pf_add (pf_call (ok_law_cell_at T) (hr.mono (by omega)) T.m_law_cell_at T.F_law_cell_at.kp T.b_law_cell_at rfl (pa_consF (pf_v 1) (pa_consF (pf_add (pf_mul pf_int (pf_v 2)) pf_int) pa_nilF))) (pf_mul (pf_v 2) (pf_v 2))) (pa_consF pf_int pa_nilF))))
      (pss_consF (f := (sSet 4 (eCall 2 d_law_answer (aCons (eCall 2 d_law_cell_at (aCons (eV 1) (aCons (eMul (eC (.int 2)) (eV 2)) aNil))) (aCons (eV 3) aNil))))) (g := (L1_law_2)) (ps_setF 4 sc_law.nd (pf_call (ok_law_answer T) (hr.mono (by omega)) T.m_law_answer T.F_law_answer.kp T.b_law_answer rfl (pa_consF (pf_call (ok_law_cell_at T) (hr.mono (by omega)) T.m_law_cell_at T.F_law_cell_at.kp T.b_law_cell_at rfl (pa_consF (pf_v 1) (pa_consF (pf_mul pf_int (pf_v 2)) pa_nilF))) (pa_consF (pf_v 3) pa_nilF))))
      (pss_consF (f := (sSet 5 (eL (lListOf (eV 4))))) (g := (L1_law_3)) (ps_setF 5 sc_law.nd (pf_l (pl_listOf rfl T.z_list (pf_v 4))))
      (pss_consF (f := (sIf (tB1 (isTy isLst (eIx (eV 4) (eSub (eLen (eV 4)) (eC (.int 1)))))) (sSet 5 (eL (lDisp (aCons (eIx (eV 4) (eC (.int 0))) (aCons (eL (lListOf (eIx (eV 4) (eC (.int 1))))) aNil))))) sNil)) (g := (L1_law_4)) (ps_ifF (pt_valF (pf_isi (T := "list") (TT := "list") rfl hq_lst rfl T.z_isinstance rfl T.z_list (pf_ix (pf_v 4) (pf_sub (pf_len rfl T.z_len (pf_v 4)) pf_int)))) (pss_oneF (ps_setF 5 sc_law.nd (pf_l (pl_disp (pa_consF (pf_ix (pf_v 4) pf_int) (pa_consF (pf_l (pl_listOf rfl T.z_list (pf_ix (pf_v 4) pf_int))) pa_nilF)))))) pss_nilF)
      (pss_consF (f := (sSet 6 (eCall 1 d_answer_row (aCons (eV 4) aNil)))) (g := (L1_law_5)) (ps_setF 6 sc_law.nd (pf_call (ok_answer_row T) (hr.mono (by omega)) T.m_answer_row T.F_answer_row.kp T.b_answer_row rfl (pa_consF (pf_v 4) pa_nilF)))
      (pss_oneF (ps_ifF (pt_w (pw_orF (pt_notF (pt_valF (pf_isi (T := "str") (TT := "str") rfl hq_str rfl T.z_isinstance rfl T.z_str (pf_v 6)))) (pw_orF (pt_cmpF (cm_neD hr) (pf_v 6) (pf_call (ok_law_due T) (hr.mono (by omega)) T.m_law_due T.F_law_due.kp T.b_law_due rfl (pa_consF (pf_v 4) pa_nilF))) (pw_or1F (pt_cmpF (cm_neD hr) (pf_l (pl_listOf rfl T.z_list (pf_v 4))) (pf_v 5)))))) (pss_oneF (ps_retF pf_bl)) pss_nilF))))))))
      (pss_oneF (ps_retF pf_bl))))
end
theorem all_mk {l : PySem.W.OpenLaw} {w : World} {K : PySem.W.Frag} {h : Heap} {mg : Str → Option Value} {fa : Addr}
    {f0 : Addr} {od0 an0 : Option Addr} {sl0 : Array (Option Value)} {oc0 kV0 dc0 pm0 cd0 ct0 : Value}
    {f1 : Addr} {od1 an1 : Option Addr} {sl1 : Array (Option Value)} {oc1 kV1 dc1 pm1 cd1 ct1 : Value}
    {f2 : Addr} {od2 an2 : Option Addr} {sl2 : Array (Option Value)} {oc2 kV2 dc2 pm2 cd2 ct2 : Value}
    {f3 : Addr} {od3 an3 : Option Addr} {sl3 : Array (Option Value)} {oc3 kV3 dc3 pm3 cd3 ct3 : Value}
    {f4 : Addr} {od4 an4 : Option Addr} {sl4 : Array (Option Value)} {oc4 kV4 dc4 pm4 cd4 ct4 : Value}
    {f5 : Addr} {od5 an5 : Option Addr} {sl5 : Array (Option Value)} {oc5 kV5 dc5 pm5 cd5 ct5 : Value}
    {f6 : Addr} {od6 an6 : Option Addr} {sl6 : Array (Option Value)} {oc6 kV6 dc6 pm6 cd6 ct6 : Value}
    {f7 : Addr} {od7 an7 : Option Addr} {sl7 : Array (Option Value)} {oc7 kV7 dc7 pm7 cd7 ct7 : Value}
    {f8 : Addr} {od8 an8 : Option Addr} {sl8 : Array (Option Value)} {oc8 kV8 dc8 pm8 cd8 ct8 : Value}
    {f9 : Addr} {od9 an9 : Option Addr} {sl9 : Array (Option Value)} {oc9 kV9 dc9 pm9 cd9 ct9 : Value}
    {f10 : Addr} {od10 an10 : Option Addr} {sl10 : Array (Option Value)} {oc10 kV10 dc10 pm10 cd10 ct10 : Value}
    {f11 : Addr} {od11 an11 : Option Addr} {sl11 : Array (Option Value)} {oc11 kV11 dc11 pm11 cd11 ct11 : Value} (X : K.In h) (G : h.Ns mainGlobals mg) (hfa : mg "law" = some (.ref fa))
    (a0 : PySem.W.nsIn K mainGlobals "_law_mix" = some (some (.ref f0))) (l0 : K.lookup f0 = some ⟨oc0, od0, .func (PySem.W.fnOf "_law_mix" "_law_mix" (defArgs s_law_mix) (defBody s_law_mix) (defScope s_law_mix) .none kV0 dc0 pm0 an0 cd0 ct0), sl0⟩) (c0 : PySem.W.codeIn K cd0 "_law_mix" = true) (k0 : PySem.W.keepIn K (.ref f0) = true)
    (a1 : PySem.W.nsIn K mainGlobals "_law_spot" = some (some (.ref f1))) (l1 : K.lookup f1 = some ⟨oc1, od1, .func (PySem.W.fnOf "_law_spot" "_law_spot" (defArgs s_law_spot) (defBody s_law_spot) (defScope s_law_spot) .none kV1 dc1 pm1 an1 cd1 ct1), sl1⟩) (c1 : PySem.W.codeIn K cd1 "_law_spot" = true) (k1 : PySem.W.keepIn K (.ref f1) = true)
    (a2 : PySem.W.nsIn K mainGlobals "_law_word" = some (some (.ref f2))) (l2 : K.lookup f2 = some ⟨oc2, od2, .func (PySem.W.fnOf "_law_word" "_law_word" (defArgs s_law_word) (defBody s_law_word) (defScope s_law_word) .none kV2 dc2 pm2 an2 cd2 ct2), sl2⟩) (c2 : PySem.W.codeIn K cd2 "_law_word" = true) (k2 : PySem.W.keepIn K (.ref f2) = true)
    (a3 : PySem.W.nsIn K mainGlobals "_law_answer" = some (some (.ref f3))) (l3 : K.lookup f3 = some ⟨oc3, od3, .func (PySem.W.fnOf "_law_answer" "_law_answer" (defArgs s_law_answer) (defBody s_law_answer) (defScope s_law_answer) .none kV3 dc3 pm3 an3 cd3 ct3), sl3⟩) (c3 : PySem.W.codeIn K cd3 "_law_answer" = true) (k3 : PySem.W.keepIn K (.ref f3) = true)
    (a4 : PySem.W.nsIn K mainGlobals "list_row" = some (some (.ref f4))) (l4 : K.lookup f4 = some ⟨oc4, od4, .func (PySem.W.fnOf "list_row" "list_row" (defArgs s_list_row) (defBody s_list_row) (defScope s_list_row) .none kV4 dc4 pm4 an4 cd4 ct4), sl4⟩) (c4 : PySem.W.codeIn K cd4 "list_row" = true) (k4 : PySem.W.keepIn K (.ref f4) = true)
    (a5 : PySem.W.nsIn K mainGlobals "place_text" = some (some (.ref f5))) (l5 : K.lookup f5 = some ⟨oc5, od5, .func (PySem.W.fnOf "place_text" "place_text" (defArgs s_place_text) (defBody s_place_text) (defScope s_place_text) .none kV5 dc5 pm5 an5 cd5 ct5), sl5⟩) (c5 : PySem.W.codeIn K cd5 "place_text" = true) (k5 : PySem.W.keepIn K (.ref f5) = true)
    (a6 : PySem.W.nsIn K mainGlobals "answer_row" = some (some (.ref f6))) (l6 : K.lookup f6 = some ⟨oc6, od6, .func (PySem.W.fnOf "answer_row" "answer_row" (defArgs s_answer_row) (defBody s_answer_row) (defScope s_answer_row) .none kV6 dc6 pm6 an6 cd6 ct6), sl6⟩) (c6 : PySem.W.codeIn K cd6 "answer_row" = true) (k6 : PySem.W.keepIn K (.ref f6) = true)
    (a7 : PySem.W.nsIn K mainGlobals "_law_cell_at" = some (some (.ref f7))) (l7 : K.lookup f7 = some ⟨oc7, od7, .func (PySem.W.fnOf "_law_cell_at" "_law_cell_at" (defArgs s_law_cell_at) (defBody s_law_cell_at) (defScope s_law_cell_at) .none kV7 dc7 pm7 an7 cd7 ct7), sl7⟩) (c7 : PySem.W.codeIn K cd7 "_law_cell_at" = true) (k7 : PySem.W.keepIn K (.ref f7) = true)
    (a8 : PySem.W.nsIn K mainGlobals "_law_listed" = some (some (.ref f8))) (l8 : K.lookup f8 = some ⟨oc8, od8, .func (PySem.W.fnOf "_law_listed" "_law_listed" (defArgs s_law_listed) (defBody s_law_listed) (defScope s_law_listed) .none kV8 dc8 pm8 an8 cd8 ct8), sl8⟩) (c8 : PySem.W.codeIn K cd8 "_law_listed" = true) (k8 : PySem.W.keepIn K (.ref f8) = true)
    (a9 : PySem.W.nsIn K mainGlobals "_law_place_text" = some (some (.ref f9))) (l9 : K.lookup f9 = some ⟨oc9, od9, .func (PySem.W.fnOf "_law_place_text" "_law_place_text" (defArgs s_law_place_text) (defBody s_law_place_text) (defScope s_law_place_text) .none kV9 dc9 pm9 an9 cd9 ct9), sl9⟩) (c9 : PySem.W.codeIn K cd9 "_law_place_text" = true) (k9 : PySem.W.keepIn K (.ref f9) = true)
    (a10 : PySem.W.nsIn K mainGlobals "_law_due" = some (some (.ref f10))) (l10 : K.lookup f10 = some ⟨oc10, od10, .func (PySem.W.fnOf "_law_due" "_law_due" (defArgs s_law_due) (defBody s_law_due) (defScope s_law_due) .none kV10 dc10 pm10 an10 cd10 ct10), sl10⟩) (c10 : PySem.W.codeIn K cd10 "_law_due" = true) (k10 : PySem.W.keepIn K (.ref f10) = true)
    (a11 : PySem.W.nsIn K mainGlobals "law" = some (some (.ref f11))) (l11 : K.lookup f11 = some ⟨oc11, od11, .func (PySem.W.fnOf "law" "law" (defArgs s_law) (defBody s_law) (defScope s_law) .none kV11 dc11 pm11 an11 cd11 ct11), sl11⟩) (c11 : PySem.W.codeIn K cd11 "law" = true) (k11 : PySem.W.keepIn K (.ref f11) = true)
    (z_enumerate : PySem.W.nsIn K mainGlobals "enumerate" = some none)
    (z_isinstance : PySem.W.nsIn K mainGlobals "isinstance" = some none)
    (z_len : PySem.W.nsIn K mainGlobals "len" = some none)
    (z_list : PySem.W.nsIn K mainGlobals "list" = some none)
    (z_range : PySem.W.nsIn K mainGlobals "range" = some none)
    (z_str : PySem.W.nsIn K mainGlobals "str" = some none)
    (z_tuple : PySem.W.nsIn K mainGlobals "tuple" = some none) :
    ∃ fd : FuncData, (∀ (s : Shared) (v : Value), BindsTo s fd ⟨[v], []⟩ [("_law_script", v)]) ∧ ∀ base : Heap, K.In base → base.Ns mainGlobals mg → FnOk l.prog w K mg base CX0 4 fa fd ["_law_script"] (spF K 1 d_law) := by
  have e := hfa.symm.trans (PySem.W.mg_of X G a11)
  cases e
  have F0 := fun_mk (st := s_law_mix) l0 c0 k0
  have b0 := F0.binds (ps := ["_law_cell", "_law_factor"]) fun _ _ _ _ _ _ us hl => match us, hl with | [_, _], _ => rfl
  have F1 := fun_mk (st := s_law_spot) l1 c1 k1
  have b1 := F1.binds (ps := ["_law_cell", "_law_number", "_law_dims"]) fun _ _ _ _ _ _ us hl => match us, hl with | [_, _, _], _ => rfl
  have F2 := fun_mk (st := s_law_word) l2 c2 k2
  have b2 := F2.binds (ps := ["_law_cell", "_law_k"]) fun _ _ _ _ _ _ us hl => match us, hl with | [_, _], _ => rfl
  have F3 := fun_mk (st := s_law_answer) l3 c3 k3
  have b3 := F3.binds (ps := ["_law_cell", "_law_number"]) fun _ _ _ _ _ _ us hl => match us, hl with | [_, _], _ => rfl
  have F4 := fun_mk (st := s_list_row) l4 c4 k4
  have b4 := F4.binds (ps := ["word", "things"]) fun _ _ _ _ _ _ us hl => match us, hl with | [_, _], _ => rfl
  have F5 := fun_mk (st := s_place_text) l5 c5 k5
  have b5 := F5.binds (ps := ["place"]) fun _ _ _ _ _ _ us hl => match us, hl with | [_], _ => rfl
  have F6 := fun_mk (st := s_answer_row) l6 c6 k6
  have b6 := F6.binds (ps := ["answer"]) fun _ _ _ _ _ _ us hl => match us, hl with | [_], _ => rfl
  have F7 := fun_mk (st := s_law_cell_at) l7 c7 k7
  have b7 := F7.binds (ps := ["_law_script", "_law_k"]) fun _ _ _ _ _ _ us hl => match us, hl with | [_, _], _ => rfl
  have F8 := fun_mk (st := s_law_listed) l8 c8 k8
  have b8 := F8.binds (ps := ["_law_parts", "_law_mark"]) fun _ _ _ _ _ _ us hl => match us, hl with | [_, _], _ => rfl
  have F9 := fun_mk (st := s_law_place_text) l9 c9 k9
  have b9 := F9.binds (ps := ["_law_place"]) fun _ _ _ _ _ _ us hl => match us, hl with | [_], _ => rfl
  have F10 := fun_mk (st := s_law_due) l10 c10 k10
  have b10 := F10.binds (ps := ["_law_answer_here"]) fun _ _ _ _ _ _ us hl => match us, hl with | [_], _ => rfl
  have F11 := fun_mk (st := s_law) l11 c11 k11
  have b11 := F11.binds (ps := ["_law_script"]) fun _ _ _ _ _ _ us hl => match us, hl with | [_], _ => rfl
  exact ⟨PySem.W.fnOf "law" "law" (defArgs s_law) (defBody s_law) (defScope s_law) .none kV11 dc11 pm11 an11 cd11 ct11, fun s v => .of_eq rfl, fun base _ _ => ok_law ({ f_law_mix := _, fd_law_mix := _, F_law_mix := F0, b_law_mix := b0, m_law_mix := PySem.W.mg_of X G a0, f_law_spot := _, fd_law_spot := _, F_law_spot := F1, b_law_spot := b1, m_law_spot := PySem.W.mg_of X G a1, f_law_word := _, fd_law_word := _, F_law_word := F2, b_law_word := b2, m_law_word := PySem.W.mg_of X G a2, f_law_answer := _, fd_law_answer := _, F_law_answer := F3, b_law_answer := b3, m_law_answer := PySem.W.mg_of X G a3, f_list_row := _, fd_list_row := _, F_list_row := F4, b_list_row := b4, m_list_row := PySem.W.mg_of X G a4, f_place_text := _, fd_place_text := _, F_place_text := F5, b_place_text := b5, m_place_text := PySem.W.mg_of X G a5, f_answer_row := _, fd_answer_row := _, F_answer_row := F6, b_answer_row := b6, m_answer_row := PySem.W.mg_of X G a6, f_law_cell_at := _, fd_law_cell_at := _, F_law_cell_at := F7, b_law_cell_at := b7, m_law_cell_at := PySem.W.mg_of X G a7, f_law_listed := _, fd_law_listed := _, F_law_listed := F8, b_law_listed := b8, m_law_listed := PySem.W.mg_of X G a8, f_law_place_text := _, fd_law_place_text := _, F_law_place_text := F9, b_law_place_text := b9, m_law_place_text := PySem.W.mg_of X G a9, f_law_due := _, fd_law_due := _, F_law_due := F10, b_law_due := b10, m_law_due := PySem.W.mg_of X G a10, f_law := _, fd_law := _, F_law := F11, b_law := b11, m_law := PySem.W.mg_of X G a11, z_enumerate := PySem.W.mg_none_of X G z_enumerate, z_isinstance := PySem.W.mg_none_of X G z_isinstance, z_len := PySem.W.mg_none_of X G z_len, z_list := PySem.W.mg_none_of X G z_list, z_range := PySem.W.mg_none_of X G z_range, z_str := PySem.W.mg_none_of X G z_str, z_tuple := PySem.W.mg_none_of X G z_tuple } : Txt K mg)⟩
theorem law_ok {K : PySem.W.Frag} {H : Hp} {a : Addr} {ns : List Int} (hS : SqL K H a (ns.map V.int)) (h : d_law [.lst (ns.map .int)] = some (.bl true)) : spF K 1 d_law [.ref a] H (fun v _ => v = .bl true) fun _ _ _ => False := by
  have rs : ∀ ns : List Int, Reps K H (ns.map .int) (ns.map V.int) := fun ns => by
    induction ns with
    | nil => exact reps_nil.mpr rfl
    | cons n r ih => exact reps_cons.mpr ⟨_, _, rfl, rep_int.mpr rfl, ih⟩
  exact ⟨H, [.lst (ns.map .int)], .bl true, Same.refl _, reps_cons.mpr ⟨_, _, rfl, rep_lst.mpr ⟨a, _, rfl, hS, rs ns⟩, reps_nil.mpr rfl⟩, rfl, h, fun v H' G' _ r => rep_bl.mp r⟩
end My

namespace My
open PySem L2
theorem setnx {i : Nat} {f : Ef} {g : Sf} {ρ : List B} {d : D} (h : f ρ = some d) : sSeq (sSet i f) g ρ = g (ρ.set i (.fz d)) := sSeq_nx (by unfold sSet; rw [h]; rfl)
theorem seqset {i : Nat} {f : Ef} {g : Sf} {ρ : List B} {d : D} {r : Option D} (h : f ρ = some d) (k : (g (ρ.set i (.fz d))).bind outD = r) : (sSeq (sSet i f) g ρ).bind outD = r := seq_out (by unfold sSet; rw [h]; rfl) k
theorem seqif {t : Tf} {f g : Sf} {ρ : List B} {r : Option D} (h : t ρ = some false) (k : (g ρ).bind outD = r) : (sSeq (sIf t f sNil) g ρ).bind outD = r := seq_out (by unfold sIf; rw [h]; rfl) k
theorem if_of {t : Tf} {f : Sf} {ρ : List B} {b : Bool} (h : t ρ = some b) : sIf t f sNil ρ = if b then f ρ else some (.nx ρ) := by unfold sIf; rw [h]; cases b <;> rfl
theorem seqifr {t : Tf} {e : Ef} {g : Sf} {ρ : List B} {r : Option D} (h : t ρ = some true) (k : e ρ = r) : (sSeq (sIf t (sRet e) sNil) g ρ).bind outD = r := by
  unfold sSeq
  rw [if_of h, if_pos rfl]
  unfold sRet
  rw [k]
  cases r <;> rfl
theorem ret_eq {e : Ef} {ρ : List B} : (sRet e ρ).bind outD = e ρ := by unfold sRet; cases e ρ <;> rfl
theorem call1 {f : List D → Option D} {fa : Ef} {ρ : List B} {x : D} (h : fa ρ = some x) : eCall 1 f (aCons fa aNil) ρ = f [x] := eCall_eq (aCons_eq h rfl) rfl
theorem call2 {f : List D → Option D} {fa fb : Ef} {ρ : List B} {x y : D} (h1 : fa ρ = some x) (h2 : fb ρ = some y) : eCall 2 f (aCons fa (aCons fb aNil)) ρ = f [x, y] := eCall_eq (aCons_eq h1 (aCons_eq h2 rfl)) rfl
theorem call3 {f : List D → Option D} {fa fb fc : Ef} {ρ : List B} {x y z : D} (h1 : fa ρ = some x) (h2 : fb ρ = some y) (h3 : fc ρ = some z) : eCall 3 f (aCons fa (aCons fb (aCons fc aNil))) ρ = f [x, y, z] := eCall_eq (aCons_eq h1 (aCons_eq h2 (aCons_eq h3 rfl))) rfl
theorem eI_eq {C : Int → Int → Bool} {g : Int → Int → Int} {fa fb : Ef} {ρ : List B} {i j : Int} (h1 : fa ρ = some (.int i)) (h2 : fb ρ = some (.int j)) (h : C i j = true) : eI C g fa fb ρ = some (.int (g i j)) := by
  unfold eI; rw [h1, h2]; simp [h]
theorem addP_int {fa fb : Ef} {ρ : List B} {i j : Int} (h1 : fa ρ = some (.int i)) (h2 : fb ρ = some (.int j)) : eAddP fa fb ρ = some (.int (i + j)) := by unfold eAddP; rw [h1, h2]; rfl
theorem addP_str {fa fb : Ef} {ρ : List B} {x y : Str} (h1 : fa ρ = some (.str x)) (h2 : fb ρ = some (.str y)) (h : x.length + y.length ≤ 100000) : eAddP fa fb ρ = some (.str (x ++ y)) := by unfold eAddP; rw [h1, h2]; exact add_str_le h
theorem eTup_eq {g : Lf} {ρ : List B} {ds : List D} (h : g ρ = some ds) (hl : ds.length ≤ 100000) : eTup g ρ = some (.tup ds) := by unfold eTup; rw [h, Option.bind_some, okL_le hl]; rfl
theorem lDisp_eq {g : Lf} {ρ : List B} {ds : List D} (h : g ρ = some ds) (hl : ds.length ≤ 100000) : lDisp g ρ = some ds := by unfold lDisp; rw [h, Option.bind_some, okL_le hl]
theorem eIx_eq {fa fb : Ef} {ρ : List B} {x y : D} (h1 : fa ρ = some x) (h2 : fb ρ = some y) : eIx fa fb ρ = atD x y := by unfold eIx; rw [h1, h2]; rfl
theorem atI_mem {α : Type} {xs : List α} {i : Int} (h0 : 0 ≤ i) (h1 : i < xs.length) : ∃ x ∈ xs, atI xs i = some x := by
  have hi : i.toNat < xs.length := by omega
  refine ⟨xs[i.toNat], List.getElem_mem hi, ?_⟩
  unfold atI ixN
  rw [if_pos h0, if_pos h1]
  simp [hi]
theorem mapF_ex {α : Type} {elt : Ef} {f : α → D} {Q : α → Prop} {rest : List B} : ∀ (ds : List D) (x0 : B) (acc : List D), (∀ d ∈ ds, ∃ a, elt (.fz d :: rest) = some (f a) ∧ Q a) → ∃ as : List α, mapF (gN 0) tOK elt ds (x0 :: rest) acc = some (acc ++ as.map f) ∧ as.length = ds.length ∧ ∀ a ∈ as, Q a
  | [], _, acc, _ => ⟨[], by simp [mapF], rfl, fun _ h => by cases h⟩
  | d :: r, x0, acc, hh => by
    obtain ⟨a, ha, qa⟩ := hh d List.mem_cons_self
    obtain ⟨as, e, el, hq⟩ := mapF_ex (Q := Q) r (.fz d) (acc ++ [f a]) fun q hq => hh q (List.mem_cons_of_mem _ hq)
    refine ⟨a :: as, ?_, by rw [List.length_cons, List.length_cons, el], fun b hb => by
      rcases List.mem_cons.mp hb with z | z
      · rw [z]; exact qa
      · exact hq b z⟩
    unfold mapF
    have e1 : gN 0 d (x0 :: rest) = some (.fz d :: rest) := rfl
    have e2 : tOK (.fz d :: rest) = some true := rfl
    rw [e1, Option.bind_some, e2, Option.bind_some, if_pos rfl, ha, Option.bind_some, e]
    simp
theorem mapF_two {α : Type} {elt : Ef} {f g h : α → D} : ∀ (l : List α) (x0 x1 : B) (acc : List D), (∀ a ∈ l, elt [.fz (f a), .fz (g a)] = some (h a)) → mapF (gT (gsCons (gN 0) (gsCons (gN 1) gsNil))) tOK elt (l.map fun a => .tup [f a, g a]) [x0, x1] acc = some (acc ++ l.map h)
  | [], _, _, acc, _ => by simp [mapF]
  | a :: r, x0, x1, acc, hh => by
    rw [List.map_cons]
    unfold mapF
    have e1 : gT (gsCons (gN 0) (gsCons (gN 1) gsNil)) (.tup [f a, g a]) [x0, x1] = some [.fz (f a), .fz (g a)] := rfl
    have e2 : tOK [.fz (f a), .fz (g a)] = some true := rfl
    rw [e1, Option.bind_some, e2, Option.bind_some, if_pos rfl, hh a List.mem_cons_self, Option.bind_some, mapF_two r _ _ _ fun q hq => hh q (List.mem_cons_of_mem _ hq)]
    simp
noncomputable def mixI (c f : Int) : Int := ((c * f + 12345) % 2147483647) * ((c * f + 12345) % 2147483647) % 2147483629 / 3
theorem mixI_nn (c f : Int) : 0 ≤ mixI c f := by unfold mixI; omega
theorem mixI_lt (c f : Int) : mixI c f < 2147483629 := by unfold mixI; omega
theorem mix_eq (c f : Int) (h1 : -18446744073709551616 < f) (h2 : f < 18446744073709551616) : d_law_mix [.int c, .int f] = some (.int (mixI c f)) := by
  have e1 : cMul c f = true := cMul_r h1 h2
  have e2 : cMul ((c * f + 12345) % 2147483647) ((c * f + 12345) % 2147483647) = true := cMul_l (by omega) (by omega)
  have d1 : decide ((0 : Int) < 2147483647) = true := rfl
  have d2 : decide ((0 : Int) < 2147483629) = true := rfl
  have d3 : (decide ((0 : Int) < 3) && decide ((3 : Int) < 1073741824)) = true := rfl
  simp only [d_law_mix, fnF, b_law_mix, B_law_mix_0, B_law_mix_1, startB, sSeq, sSet, sRet, eI, eV, eC, getB, List.map, List.length_cons, List.length_nil, List.replicate, List.cons_append, List.nil_append, List.getElem?_cons_zero, List.getElem?_cons_succ, Option.bind_some, Option.map_some, e1, e2, d1, d2, d3, if_true, outD, List.set, cDiv]
  rfl
theorem bits_addm {c d : Int} {m : Nat} (hm : 31 ≤ m) (hc : Builtin.Int.intBits c ≤ m) (h0 : 0 ≤ d) (h1 : d < 2147483648) : Builtin.Int.intBits (c + d) ≤ m + 1 := by
  have h2 := PyProof.Rows.natAbs_lt_pow_bits c
  have h3 : 2 ^ Builtin.Int.intBits c ≤ 2 ^ m := Nat.pow_le_pow_right (by decide) hc
  refine PyProof.Rows.intBits_le ?_
  have h5 : 2 ^ 31 ≤ 2 ^ m := Nat.pow_le_pow_right (by decide) hm
  rw [Nat.pow_succ]
  have h6 : (2147483648 : Nat) = 2 ^ 31 := by decide
  have h7 : (2147483648 : Nat) ≤ 2 ^ m := by rw [h6]; exact h5
  generalize 2 ^ m = M at *
  omega
theorem bits_add {c d : Int} (hc : Builtin.Int.intBits c ≤ 1048576) (h0 : 0 ≤ d) (h1 : d < 2147483648) : Builtin.Int.intBits (c + d) ≤ 2097152 := Nat.le_trans (bits_addm (by decide) hc h0 h1) (by decide)
noncomputable def Sm (x : Int) : Prop := 0 ≤ x ∧ x < 10 ^ 63
theorem Sm.log {x : Int} (h : Sm x) : x.natAbs.log2 < 1920 := by
  have h1 : x.natAbs < 2 ^ 300 := by
    have h2 : (10 : Int) ^ 63 < 2 ^ 300 := by decide +kernel
    have h3 := h.1
    have h4 := h.2
    have h5 : ((x.natAbs : Nat) : Int) = x := Int.natAbs_of_nonneg h3
    have h6 : ((2 ^ 300 : Nat) : Int) = 2 ^ 300 := by rw [Int.natCast_pow]; rfl
    have h7 : ((x.natAbs : Nat) : Int) < ((2 ^ 300 : Nat) : Int) := by rw [h5, h6]; exact Int.lt_trans h4 h2
    exact Int.ofNat_lt.mp h7
  by_cases z : x.natAbs = 0
  · rw [z]; decide
  · have := (Nat.log2_lt z).mpr h1
    omega
noncomputable def txtI (x : Int) : Str := Str.ofString (toString x)
theorem Sm.len {x : Int} (h : Sm x) : (txtI x).length ≤ 1921 := by
  have := int_text_length_le (k := 1920) (by decide) h.log
  unfold txtI
  rw [PySem.ofString_length]; omega
theorem strOf_eq {f : Ef} {ρ : List B} {x : Int} (h : f ρ = some (.int x)) (hs : Sm x) : eStrOf f ρ = some (.str (txtI x)) := by
  unfold eStrOf
  rw [h, Option.bind_some]
  exact if_pos hs.log
noncomputable def lettersS : Str := Str.ofString "abcdefghijklmnopqrstuvwxyz"
theorem lettersS_len : lettersS.length = 26 := by decide +kernel
theorem word_turn (q k : Int) (size place : Int) (y : Str) (n : Int) (x7 : B) (hn0 : 0 ≤ n) (hn : n < 13) (hy : y.length ≤ 1000) :
    ∃ s : Nat, ∃ x7', L1_law_word_0 [.fz (.int q), .fz (.int k), .fz (.str lettersS), .fz (.int size), .fz (.int place), .fz (.str y), .fz (.int n), x7] = some (.nx [.fz (.int q), .fz (.int k), .fz (.str lettersS), .fz (.int size), .fz (.int place), .fz (.str (y ++ ⟨#[s]⟩)), .fz (.int n), x7']) := by
  have fin : ∀ far : Int, ∃ s : Nat, L1_law_word_2 [.fz (.int q), .fz (.int k), .fz (.str lettersS), .fz (.int size), .fz (.int place), .fz (.str y), .fz (.int n), .fz (.int far)] = some (.nx [.fz (.int q), .fz (.int k), .fz (.str lettersS), .fz (.int size), .fz (.int place), .fz (.str (y ++ ⟨#[s]⟩)), .fz (.int n), .fz (.int far)]) := by
    intro far
    have e := atD_str (x := lettersS) (i := (q / 144 + far) % 26) (by omega) (by rw [lettersS_len]; omega) (by rw [lettersS_len]; decide)
    generalize lettersS.cps.toList.getD ((q / 144 + far) % 26).toNat 0 = s at e
    refine ⟨s, ?_⟩
    unfold L1_law_word_2 sSet
    have hl : y.length + (⟨#[s]⟩ : Str).length ≤ 100000 := by show y.length + 1 ≤ 100000; omega
    rw [addP_str (x := y) (y := ⟨#[s]⟩) rfl ((eIx_eq (x := .str lettersS) (y := .int ((q / 144 + far) % 26)) rfl (eI_eq (addP_int (eI_eq rfl rfl rfl) rfl) rfl rfl)).trans e) hl]
    rfl
  have m1 : cMul n n = true := cMul_l (by omega) (by omega)
  have m2 : cMul (n * n) (q / 7 % 3) = true := cMul_r (by omega) (by omega)
  unfold L1_law_word_0
  rw [setnx (d := .int (n * n * (q / 7 % 3))) (eI_eq (eI_eq rfl rfl m1) (eI_eq (eI_eq rfl rfl rfl) rfl rfl) m2)]
  generalize n * n * (q / 7 % 3) = far
  unfold L1_law_word_1
  have t : eB2 gEq (eV 6) (eV 4) [.fz (.int q), .fz (.int k), .fz (.str lettersS), .fz (.int size), .fz (.int place), .fz (.str y), .fz (.int n), .fz (.int far)] = some (decide (n = place)) := rfl
  by_cases hp : n = place
  · obtain ⟨s, e⟩ := fin (q / 97 + 3 * k)
    refine ⟨s, .fz (.int (q / 97 + 3 * k)), ?_⟩
    show sSeq _ _ [.fz (.int q), .fz (.int k), .fz (.str lettersS), .fz (.int size), .fz (.int place), .fz (.str y), .fz (.int n), .fz (.int far)] = _
    rw [sSeq_nx (ρ' := [.fz (.int q), .fz (.int k), .fz (.str lettersS), .fz (.int size), .fz (.int place), .fz (.str y), .fz (.int n), .fz (.int (q / 97 + 3 * k))]) ((if_of t).trans (by
      rw [decide_eq_true hp, if_pos rfl]
      unfold sSet
      rw [addP_int (i := q / 97) (j := 3 * k) (eI_eq rfl rfl rfl) (eI_eq rfl rfl (cMul_l (by omega) (by omega)))]
      rfl))]
    exact e
  · obtain ⟨s, e⟩ := fin far
    refine ⟨s, .fz (.int far), ?_⟩
    show sSeq _ _ [.fz (.int q), .fz (.int k), .fz (.str lettersS), .fz (.int size), .fz (.int place), .fz (.str y), .fz (.int n), .fz (.int far)] = _
    rw [sSeq_nx (ρ' := [.fz (.int q), .fz (.int k), .fz (.str lettersS), .fz (.int size), .fz (.int place), .fz (.str y), .fz (.int n), .fz (.int far)]) ((if_of t).trans (by rw [decide_eq_false hp]; rfl))]
    exact e
noncomputable def Wd (w : Str) : Prop := 1 ≤ w.length ∧ w.length ≤ 12
theorem word_eq (q k : Int) : ∃ w : Str, d_law_word [.int q, .int k] = some (.str w) ∧ Wd w := by
  have z0 : 0 ≤ q % 12 := by omega
  have z1 : q % 12 < 12 := by omega
  have src : ∀ x6 x7 : B, iR (eV 3) [.fz (.int q), .fz (.int k), .fz (.str lettersS), .fz (.int (1 + q % 12)), .fz (.int (q / 12 % (1 + q % 12))), .fz (.str (Str.ofString "")), x6, x7] = some (upto 0 (1 + q % 12).toNat) := fun x6 x7 => by
    have c1 : decide (-1000000 ≤ 1 + q % 12) = true := decide_eq_true (by omega)
    have c2 : decide (1 + q % 12 ≤ 1000000) = true := decide_eq_true (by omega)
    show (if decide (-1000000 ≤ 1 + q % 12) && decide (1 + q % 12 ≤ 1000000) then some (upto 0 (1 + q % 12).toNat) else none) = _
    rw [c1, c2]; rfl
  have hp : eMod (eDiv (eV 0) (eC (.int 12))) (eV 3) [.fz (.int q), .fz (.int k), .fz (.str lettersS), .fz (.int (1 + q % 12)), .no, .no, .no, .no] = some (.int (q / 12 % (1 + q % 12))) := eI_eq (eI_eq rfl rfl rfl) rfl (decide_eq_true (by omega))
  generalize q / 12 % (1 + q % 12) = place at src hp
  obtain ⟨ρ', e, y, x6, x7, hy, rfl⟩ := forF_ix (g := gN 6) (body := L1_law_word_0) (P := fun i ρ => ∃ y : Str, ∃ x6 x7, y.length = i ∧ ρ = [.fz (.int q), .fz (.int k), .fz (.str lettersS), .fz (.int (1 + q % 12)), .fz (.int place), .fz (.str y), x6, x7]) (upto 0 (1 + q % 12).toNat) 0 (fun i d hd ρ hρ => by
      obtain ⟨hi, rfl⟩ := upto_get hd
      obtain ⟨y, x6, x7, hy, rfl⟩ := hρ
      obtain ⟨s, x7', e⟩ := word_turn q k (1 + q % 12) place y (0 + (i : Nat)) x7 (by omega) (by omega) (by omega)
      exact ⟨_, _, rfl, e, _, _, _, by rw [str_len_append, hy]; rfl, rfl⟩) [.fz (.int q), .fz (.int k), .fz (.str lettersS), .fz (.int (1 + q % 12)), .fz (.int place), .fz (.str (Str.ofString "")), .no, .no] ⟨_, _, _, by decide +kernel, rfl⟩
  rw [upto_len] at hy
  refine ⟨y, ?_, by omega, by omega⟩
  show (B_law_word_0 [.fz (.int q), .fz (.int k), .no, .no, .no, .no, .no, .no]).bind outD = _
  unfold B_law_word_0
  refine seqset (d := .str lettersS) rfl ?_
  unfold B_law_word_1
  refine seqset (d := .int (1 + q % 12)) (addP_int rfl (eI_eq rfl rfl rfl)) ?_
  unfold B_law_word_2
  refine seqset (d := .int place) hp ?_
  unfold B_law_word_3
  refine seqset (d := .str (Str.ofString "")) rfl ?_
  unfold B_law_word_4
  refine seq_out (ρ' := [.fz (.int q), .fz (.int k), .fz (.str lettersS), .fz (.int (1 + q % 12)), .fz (.int place), .fz (.str y), x6, x7]) ?_ rfl
  show sFor (iR (eV 3)) (gN 6) L1_law_word_0 [.fz (.int q), .fz (.int k), .fz (.str lettersS), .fz (.int (1 + q % 12)), .fz (.int place), .fz (.str (Str.ofString "")), .no, .no] = _
  unfold sFor
  rw [src, Option.bind_some]
  exact e
end My

namespace My
open PySem L2
theorem strsD_map : ∀ ys : List Str, strsD (ys.map D.str) = some ys
  | [] => rfl
  | y :: r => by rw [List.map_cons, strsD, strsD_map r]; rfl
theorem join_len {z : Str} {m : Nat} : ∀ (ys : List Str), (∀ y ∈ ys, y.length ≤ m) → (Str.join z ys).length ≤ ys.length * (m + z.length)
  | [], _ => Nat.zero_le _
  | [x], h => by
    have := h x (List.mem_cons_self ..)
    show x.length ≤ 1 * (m + z.length)
    omega
  | x :: y :: r, h => by
    have h1 := h x (List.mem_cons_self ..)
    have h2 := join_len (z := z) (m := m) (y :: r) fun q hq => h q (List.mem_cons_of_mem _ hq)
    show (x ++ z ++ Str.join z (y :: r)).length ≤ (y :: r).length.succ * (m + z.length)
    rw [str_len_append, str_len_append, Nat.succ_mul]
    omega
theorem sum_len {m : Nat} : ∀ (ys : List Str), (∀ y ∈ ys, y.length ≤ m) → (ys.map (·.length)).sum ≤ ys.length * m
  | [], _ => by simp
  | x :: r, h => by
    have h1 := h x (List.mem_cons_self ..)
    have h2 := sum_len r fun q hq => h q (List.mem_cons_of_mem _ hq)
    rw [List.map_cons, List.sum_cons, List.length_cons, Nat.succ_mul]
    omega
theorem join_pos {z : Str} : ∀ (ys : List Str), (∀ y ∈ ys, 1 ≤ y.length) → ys ≠ [] → 1 ≤ (Str.join z ys).length
  | [], _, h => absurd rfl h
  | [x], h, _ => h x (List.mem_cons_self ..)
  | x :: y :: r, h, _ => by
    have h1 := h x (List.mem_cons_self ..)
    show 1 ≤ (x ++ z ++ Str.join z (y :: r)).length
    rw [str_len_append, str_len_append]
    omega
noncomputable def Fit (y : Str) : Prop := 1 ≤ y.length ∧ y.length ≤ 4000
theorem eJoin_eq {fa : Ef} {ga : Lf} {ρ : List B} {z : Str} {ys : List Str} (h1 : fa ρ = some (.str z)) (h2 : ga ρ = some (ys.map D.str)) (hz : z.length ≤ 2) (hy : ∀ y ∈ ys, y.length ≤ 6000) (hl : ys.length ≤ 13) : eJoin fa ga ρ = some (.str (Str.join z ys)) := by
  unfold eJoin
  rw [h1, h2, Option.bind_some, Option.bind_some]
  dsimp only
  rw [strsD_map, Option.bind_some]
  have e1 := sum_len ys hy
  have e2 : ys.length * z.length ≤ ys.length * 2 := Nat.mul_le_mul_left _ hz
  rw [if_pos (by omega)]
  unfold Txt.join
  rw [StrLaws.glued_eq_join]
noncomputable def listM (mark : Str) (ys : List Str) : Str := if ys = [] then Str.ofString "none" else Str.join mark ys
theorem str_empty_l (x : Str) : Str.ofString "" ++ x = x := Str.empty_append x
theorem join_one (sep a : Str) : ∀ l : List Str, l ≠ [] → Str.join sep (l ++ [a]) = Str.join sep l ++ sep ++ a
  | [], h => absurd rfl h
  | [x], _ => rfl
  | x :: y :: r, _ => by
    show x ++ sep ++ Str.join sep (y :: r ++ [a]) = x ++ sep ++ Str.join sep (y :: r) ++ sep ++ a
    rw [join_one sep a (y :: r) (List.cons_ne_nil _ _)]
    simp only [Str.append_assoc]
theorem numbered_get {ds : List D} {i : Nat} {d : D} (h : (L2.numbered ds)[i]? = some d) : ∃ x, ds[i]? = some x ∧ d = .tup [.int (i : Nat), x] := by
  unfold L2.numbered at h
  rw [List.getElem?_map] at h
  obtain ⟨q, hq, rfl⟩ := Option.map_eq_some_iff.mp h
  rw [List.getElem?_zipIdx] at hq
  obtain ⟨x, hx, rfl⟩ := Option.map_eq_some_iff.mp hq
  exact ⟨x, hx, by simp⟩
theorem listed_eq (mark : Str) (hm : mark.length ≤ 2) (ys : List Str) (hy : ∀ y ∈ ys, Fit y) (hl : ys.length ≤ 13) : d_law_listed [.lst (ys.map D.str), .str mark] = some (.str (listM mark ys)) := by
  obtain ⟨ρ', e, x3, x4, rfl⟩ := forF_ix (g := gT (gsCons (gN 3) (gsCons (gN 4) gsNil))) (body := L1_law_listed_0) (P := fun i ρ => ∃ x3 x4, ρ = [.fz (.lst (ys.map D.str)), .fz (.str mark), .fz (.str (Str.join mark (ys.take i))), x3, x4]) (L2.numbered (ys.map D.str)) 0 (fun i d hd ρ hρ => by
      obtain ⟨x3, x4, rfl⟩ := hρ
      obtain ⟨x, hx, rfl⟩ := numbered_get hd
      rw [List.getElem?_map] at hx
      obtain ⟨y, hy1, rfl⟩ := Option.map_eq_some_iff.mp hx
      have hi : i < ys.length := (List.getElem?_eq_some_iff.mp hy1).1
      have hyf := hy y (List.mem_of_getElem? hy1)
      rw [Nat.zero_add]
      have hlt : (ys.take i).length = i := by rw [List.length_take]; omega
      have hj := join_len (z := mark) (m := 4000) (ys.take i) fun q hq => (hy q (List.mem_of_mem_take hq)).2
      have hj2 : (ys.take i).length * (4000 + mark.length) ≤ 13 * 4002 := Nat.mul_le_mul (by omega) (by omega)
      have ht : ys.take (i + 1) = ys.take i ++ [y] := by rw [List.take_succ, hy1]; rfl
      have hyl := hyf.2
      refine ⟨[.fz (.lst (ys.map D.str)), .fz (.str mark), .fz (.str (Str.join mark (ys.take i))), .fz (.int (i : Nat)), .fz (.str y)], [.fz (.lst (ys.map D.str)), .fz (.str mark), .fz (.str (Str.join mark (ys.take (i + 1)))), .fz (.int (i : Nat)), .fz (.str y)], rfl, ?_, _, _, rfl⟩
      rw [ht]
      unfold L1_law_listed_0
      by_cases h0 : i = 0
      · subst h0
        have tst : eB2 gGt (eV 3) (eC (.int 0)) [.fz (.lst (ys.map D.str)), .fz (.str mark), .fz (.str (Str.join mark (ys.take 0))), .fz (.int ((0 : Nat) : Nat)), .fz (.str y)] = some false := rfl
        rw [sSeq_nx (ρ' := [.fz (.lst (ys.map D.str)), .fz (.str mark), .fz (.str (Str.join mark (ys.take 0))), .fz (.int ((0 : Nat) : Nat)), .fz (.str y)]) ((if_of tst).trans rfl)]
        unfold L1_law_listed_1 sSet
        rw [addP_str (x := Str.ofString "") (y := y) rfl rfl (by show 0 + y.length ≤ _; omega), str_empty_l]
        rfl
      · have tst : eB2 gGt (eV 3) (eC (.int 0)) [.fz (.lst (ys.map D.str)), .fz (.str mark), .fz (.str (Str.join mark (ys.take i))), .fz (.int (i : Nat)), .fz (.str y)] = some true := by
          show some (decide ((i : Int) > 0)) = _
          rw [decide_eq_true (by omega)]
        have hne : ys.take i ≠ [] := fun z => by rw [z] at hlt; simp at hlt; omega
        rw [join_one mark y (ys.take i) hne]
        generalize Str.join mark (ys.take i) = t at hj tst
        rw [sSeq_nx (ρ' := [.fz (.lst (ys.map D.str)), .fz (.str mark), .fz (.str (t ++ mark)), .fz (.int (i : Nat)), .fz (.str y)]) ((if_of tst).trans (by
          rw [if_pos rfl]
          unfold sSet
          rw [addP_str (x := t) (y := mark) rfl rfl (by omega)]
          rfl))]
        unfold L1_law_listed_1 sSet
        rw [addP_str (x := t ++ mark) (y := y) rfl rfl (by rw [str_len_append]; omega)]
        rfl) [.fz (.lst (ys.map D.str)), .fz (.str mark), .fz (.str (Str.ofString "")), .no, .no] ⟨_, _, rfl⟩
  have hnl : (L2.numbered (ys.map D.str)).length = ys.length := by unfold L2.numbered; simp
  rw [hnl, Nat.zero_add, List.take_length] at e
  show (B_law_listed_0 [.fz (.lst (ys.map D.str)), .fz (.str mark), .no, .no, .no]).bind outD = _
  unfold B_law_listed_0
  refine seqset (d := .str (Str.ofString "")) rfl ?_
  unfold B_law_listed_1
  refine seq_out (ρ' := [.fz (.lst (ys.map D.str)), .fz (.str mark), .fz (.str (Str.join mark ys)), x3, x4]) ?_ ?_
  · show sFor (iEnum (iL (eV 0))) (gT (gsCons (gN 3) (gsCons (gN 4) gsNil))) L1_law_listed_0 [.fz (.lst (ys.map D.str)), .fz (.str mark), .fz (.str (Str.ofString "")), .no, .no] = _
    unfold sFor
    show (some (L2.numbered (ys.map D.str))).bind _ = _
    rw [Option.bind_some]
    exact e
  · unfold B_law_listed_2
    have tst : eB2 gEq (eV 2) (eC (.str (Str.ofString ""))) [.fz (.lst (ys.map D.str)), .fz (.str mark), .fz (.str (Str.join mark ys)), x3, x4] = some (Str.join mark ys == Str.ofString "") := rfl
    by_cases hn : ys = []
    · subst hn
      unfold listM
      rw [if_pos rfl]
      exact seqifr (tst.trans (by show some (Str.ofString "" == Str.ofString "") = _; rw [beq_self_eq_true])) rfl
    · unfold listM
      rw [if_neg hn]
      have hp := join_pos (z := mark) ys (fun y h => (hy y h).1) hn
      refine seqif (tst.trans ?_) rfl
      have : (Str.join mark ys == Str.ofString "") = false := by
        rw [beq_eq_false_iff_ne]
        intro z
        rw [z] at hp
        exact absurd hp (by decide)
      rw [this]
end My

namespace My
open PySem L2
noncomputable abbrev encC (c : List Int) : D := .tup (c.map D.int)
theorem p1030 : (0 : Int) < 10 ^ (30 : Int).toNat ∧ (10 : Int) ^ (30 : Int).toNat < 10 ^ 63 := by decide +kernel
theorem spot_turn (c r : Int) (hc : Builtin.Int.intBits c ≤ 1048576) (n : D) (xs : List Int) (hx : xs.length ≤ 10) (a : Int) (ha0 : 0 ≤ a) (ha : a < 3) (x5 x6 : B) : ∃ v x5' x6', Sm v ∧ L1_law_spot_0 [.fz (.int c), .fz (.int r), .fz n, .ow (xs.map D.int), .fz (.int a), x5, x6] = some (.nx [.fz (.int c), .fz (.int r), .fz n, .ow ((xs ++ [v]).map D.int), .fz (.int a), x5', x6']) := by
  have e1 := mix_eq r (16807 + 14 * a) (by omega) (by omega)
  have h0 := mixI_nn r (16807 + 14 * a)
  have h1 := mixI_lt r (16807 + 14 * a)
  generalize mixI r (16807 + 14 * a) = d at e1 h0 h1
  have hm14 : cMulW 14 a = true := by
    unfold cMulW
    rw [decide_eq_true (by decide), decide_eq_true (Nat.le_trans (PyProof.Rows.intBits_le (k := 10) (by omega)) (by decide))]; rfl
  have hmul : cMulW (c + d) 314159265358979323846 = true := by
    unfold cMulW
    rw [decide_eq_true (bits_add hc h0 (by omega)), decide_eq_true (by decide +kernel)]; rfl
  obtain ⟨q0, q1⟩ := p1030
  have hpow : ∀ ρ, ePow (eC (.int 10)) (eC (.int 30)) ρ = some (.int ((10 : Int) ^ (30 : Int).toNat)) := fun ρ => eI_eq (C := cPow) (g := fun i j => i ^ j.toNat) (i := 10) (j := 30) rfl rfl (by decide)
  generalize (10 : Int) ^ (30 : Int).toNat = M at hpow q0 q1
  have hfar : Sm ((c + d) * 314159265358979323846 % M) := ⟨Int.emod_nonneg _ (by omega), Int.lt_trans (Int.emod_lt_of_pos _ q0) q1⟩
  have hcm : Sm (c % M) := ⟨Int.emod_nonneg _ (by omega), Int.lt_trans (Int.emod_lt_of_pos _ q0) q1⟩
  have hd64 : Sm (d % 64) := ⟨by omega, Int.lt_trans (Int.emod_lt_of_pos d (by decide : (0 : Int) < 64)) (by decide +kernel)⟩
  have hzero : Sm 0 := ⟨by decide, by decide +kernel⟩
  unfold L1_law_spot_0
  rw [setnx ((call2 (x := .int r) (y := .int (16807 + 14 * a)) rfl (eI_eq rfl (eI_eq rfl rfl hm14) rfl)).trans e1)]
  unfold L1_law_spot_1
  rw [setnx (d := .int ((c + d) * 314159265358979323846 % M)) (eI_eq (eI_eq (eI_eq rfl rfl rfl) rfl hmul) (hpow _) (decide_eq_true q0))]
  generalize (c + d) * 314159265358979323846 % M = far at hfar
  obtain ⟨v, hv, ev⟩ := atI_mem (xs := [D.int (d % 64), .int far, .int 0, .int (c % M)]) (i := d / 64 % 4) (by omega) (by show d / 64 % 4 < 4; omega)
  obtain ⟨w, rfl, hw⟩ : ∃ w, v = .int w ∧ Sm w := by
    simp only [List.mem_cons, List.not_mem_nil, or_false] at hv
    rcases hv with rfl | rfl | rfl | rfl
    · exact ⟨_, rfl, hd64⟩
    · exact ⟨_, rfl, hfar⟩
    · exact ⟨_, rfl, hzero⟩
    · exact ⟨_, rfl, hcm⟩
  refine ⟨w, .fz (.int d), .fz (.int far), hw, ?_⟩
  unfold L1_law_spot_2 sApp
  have hdisp : lDisp (aCons (eMod (eV 5) (eC (.int 64))) (aCons (eV 6) (aCons (eC (.int 0)) (aCons (eMod (eV 0) (ePow (eC (.int 10)) (eC (.int 30)))) aNil)))) [.fz (.int c), .fz (.int r), .fz n, .ow (xs.map D.int), .fz (.int a), .fz (.int d), .fz (.int far)] = some [D.int (d % 64), .int far, .int 0, .int (c % M)] :=
    lDisp_eq (aCons_eq (eI_eq rfl rfl rfl) (aCons_eq rfl (aCons_eq rfl (aCons_eq (eI_eq rfl (hpow _) (decide_eq_true q0)) rfl)))) (Nat.le_of_ble_eq_true rfl)
  have hix := (eIx_eq (eL_eq hdisp) (fb := eMod (eDiv (eV 5) (eC (.int 64))) (eC (.int 4))) (y := .int (d / 64 % 4)) (eI_eq (eI_eq rfl rfl rfl) rfl rfl)).trans ev
  dsimp only [List.set]
  rw [hix, Option.bind_some]
  show (if (xs.map D.int).length < lim then _ else none) = _
  rw [if_pos (by rw [List.length_map]; show xs.length < 100000; omega), List.map_append]
  rfl
theorem iR_n {f : Ef} {ρ : List B} {n : Nat} (h : f ρ = some (.int (n : Nat))) (hn : n ≤ 1000) : iR f ρ = some (upto 0 n) := by
  unfold iR
  rw [h, Option.bind_some]
  dsimp only
  rw [decide_eq_true (by omega), decide_eq_true (by omega), Int.toNat_natCast]
  rfl
noncomputable def Plc (xs : List Int) : Prop := (xs.length = 2 ∨ xs.length = 3) ∧ ∀ x ∈ xs, Sm x
theorem spot_eq (c r : Int) (hc : Builtin.Int.intBits c ≤ 1048576) {n : Nat} (hn : n = 2 ∨ n = 3) : ∃ xs, d_law_spot [.int c, .int r, .int (n : Nat)] = some (encC xs) ∧ Plc xs := by
  obtain ⟨ρ', e, xs, x4, x5, x6, hl, hs, rfl⟩ := forF_ix (g := gN 4) (body := L1_law_spot_0) (P := fun i ρ => ∃ (xs : List Int) (x4 x5 x6 : B), xs.length = i ∧ (∀ x ∈ xs, Sm x) ∧ ρ = [.fz (.int c), .fz (.int r), .fz (.int (n : Nat)), .ow (xs.map D.int), x4, x5, x6]) (upto 0 n) 0 (fun i d hd ρ hρ => by
      obtain ⟨hi, rfl⟩ := upto_get hd
      obtain ⟨xs, x4, x5, x6, hl, hs, rfl⟩ := hρ
      obtain ⟨v, x5', x6', hv, e⟩ := spot_turn c r hc (.int (n : Nat)) xs (by omega) (0 + (i : Nat)) (by omega) (by omega) x5 x6
      exact ⟨_, _, rfl, e, _, _, _, _, by rw [List.length_append, hl]; rfl, fun x hx => by
        rcases List.mem_append.mp hx with z | z
        · exact hs x z
        · rw [List.mem_singleton.mp z]; exact hv, rfl⟩) [.fz (.int c), .fz (.int r), .fz (.int (n : Nat)), .ow (([] : List Int).map D.int), .no, .no, .no] ⟨[], _, _, _, rfl, (fun x hx => by cases hx), rfl⟩
  rw [upto_len, Nat.zero_add] at hl
  refine ⟨xs, ?_, by omega, hs⟩
  show (B_law_spot_0 [.fz (.int c), .fz (.int r), .fz (.int (n : Nat)), .no, .no, .no, .no]).bind outD = _
  unfold B_law_spot_0
  refine seq_out (ρ' := [.fz (.int c), .fz (.int r), .fz (.int (n : Nat)), .ow (([] : List Int).map D.int), .no, .no, .no]) rfl ?_
  unfold B_law_spot_1
  refine seq_out (ρ' := [.fz (.int c), .fz (.int r), .fz (.int (n : Nat)), .ow (xs.map D.int), x4, x5, x6]) ?_ rfl
  unfold sFor
  rw [iR_n (n := n) rfl (by omega), Option.bind_some]
  exact e
noncomputable def plT (xs : List Int) : Str := Str.join (Str.ofString ",") (xs.map txtI)
theorem plc_cases {xs : List Int} (h : Plc xs) : (∃ a b, xs = [a, b] ∧ Sm a ∧ Sm b) ∨ ∃ a b c, xs = [a, b, c] ∧ Sm a ∧ Sm b ∧ Sm c := by
  obtain ⟨hl, hs⟩ := h
  match xs, hl, hs with
  | [a, b], _, hs => exact .inl ⟨a, b, rfl, hs a (by simp), hs b (by simp)⟩
  | [a, b, c], _, hs => exact .inr ⟨a, b, c, rfl, hs a (by simp), hs b (by simp), hs c (by simp)⟩
  | [], h, _ => simp at h
  | [_], h, _ => simp at h
  | _ :: _ :: _ :: _ :: _, h, _ => simp at h
theorem plT_len {xs : List Int} (h : Plc xs) : (plT xs).length ≤ 5800 := by
  have h1 := join_len (z := Str.ofString ",") (m := 1921) (xs.map txtI) fun y hy => by
    obtain ⟨x, hx, rfl⟩ := List.mem_map.mp hy
    exact (h.2 x hx).len
  rw [List.length_map] at h1
  have h2 : xs.length ≤ 3 := by have := h.1; omega
  have h3 : xs.length * (1921 + (Str.ofString ",").length) ≤ 3 * 1922 := Nat.mul_le_mul h2 (by decide)
  unfold plT
  omega
theorem place_text_eq {xs : List Int} (h : Plc xs) : d_place_text [encC xs] = some (.str (plT xs)) := by
  show (B_place_text_0 [.fz (encC xs)]).bind outD = _
  unfold B_place_text_0
  rw [ret_eq]
  refine eJoin_eq (z := Str.ofString ",") (ys := xs.map txtI) rfl ?_ (by decide) (fun y hy => by
    obtain ⟨x, hx, rfl⟩ := List.mem_map.mp hy
    have := (h.2 x hx).len
    omega) (by rw [List.length_map]; have := h.1; omega)
  show (okL (xs.map D.int)).bind (fun ds => mapF (gN 0) tOK (eStrOf (eV 0)) ds [.no] []) = _
  rw [okL_le (by rw [List.length_map]; have := h.1; omega), Option.bind_some]
  rw [mapF_one (h := fun d => match d with | .int x => .str (txtI x) | d => d)]
  · rw [List.nil_append, List.map_map, List.map_map]; rfl
  · intro d hd
    obtain ⟨x, hx, rfl⟩ := List.mem_map.mp hd
    exact strOf_eq rfl (h.2 x hx)
theorem lplace_text_eq {xs : List Int} (h : Plc xs) : d_law_place_text [encC xs] = some (.str (plT xs)) := by
  have step : ∀ (p y : Str) (x : Int) (x0 : B), Sm x → p.length ≤ 4000 → L1_law_place_text_0 [x0, .fz (.str p), .fz (.int x)] = some (.nx [x0, .fz (.str (p ++ Str.ofString "," ++ txtI x)), .fz (.int x)]) := by
    intro p y x x0 hx hp
    have h1 := hx.len
    unfold L1_law_place_text_0 sSet
    rw [addP_str (x := p ++ Str.ofString ",") (y := txtI x) (addP_str rfl rfl (by show p.length + 1 ≤ _; omega)) (strOf_eq rfl hx) (by rw [str_len_append]; show p.length + 1 + _ ≤ _; omega)]
    rfl
  show (B_law_place_text_0 [.fz (encC xs), .no, .no]).bind outD = _
  unfold B_law_place_text_0
  rcases plc_cases h with ⟨a, b, rfl, ha, hb⟩ | ⟨a, b, c, rfl, ha, hb, hc⟩
  · refine seqset (d := .str (txtI a)) (strOf_eq rfl ha) ?_
    unfold B_law_place_text_1
    refine seq_out (ρ' := [.fz (encC [a, b]), .fz (.str (plT [a, b])), .fz (.int b)]) ?_ rfl
    show forF (gN 2) L1_law_place_text_0 [.int b] [.fz (encC [a, b]), .fz (.str (txtI a)), .no] = _
    rw [forF_nx rfl (step (txtI a) (txtI a) b _ hb (by have := ha.len; omega))]
    rfl
  · refine seqset (d := .str (txtI a)) (strOf_eq rfl ha) ?_
    unfold B_law_place_text_1
    refine seq_out (ρ' := [.fz (encC [a, b, c]), .fz (.str (plT [a, b, c])), .fz (.int c)]) ?_ rfl
    show forF (gN 2) L1_law_place_text_0 [.int b, .int c] [.fz (encC [a, b, c]), .fz (.str (txtI a)), .no] = _
    rw [forF_nx rfl (step (txtI a) (txtI a) b _ hb (by have := ha.len; omega))]
    rw [forF_nx rfl (step _ (txtI a) c _ hc (by have := ha.len; have := hb.len; rw [str_len_append, str_len_append]; show _ + 1 + _ ≤ _; omega))]
    have e : txtI a ++ Str.ofString "," ++ txtI b ++ Str.ofString "," ++ txtI c = plT [a, b, c] := by
      show _ = txtI a ++ Str.ofString "," ++ (txtI b ++ Str.ofString "," ++ txtI c)
      simp only [Str.append_assoc]
    rw [e]
    rfl
end My

namespace My
open PySem L2
inductive Ans where
  | ok | refused (w : Str) | names (ws : List Str) | box (lo hi : List Int) | near (l : List (Int × Str)) | pairs (l : List (Str × Str)) | number (i : Int) | place (xs : List Int) | spans (l : List (Int × Int))
noncomputable def ts (x : String) : D := .str (Str.ofString x)
noncomputable def Ans.its : Ans → List D
  | .ok => [ts "ok"]
  | .refused w => [ts "refused", .str w]
  | .names ws => [ts "names", .lst (ws.map D.str)]
  | .box lo hi => [ts "box", encC lo, encC hi]
  | .near l => [ts "near", .lst (l.map fun p => .tup [.int p.1, .str p.2])]
  | .pairs l => [ts "pairs", .lst (l.map fun p => .tup [.str p.1, .str p.2])]
  | .number i => [ts "number", .int i]
  | .place xs => [ts "place", encC xs]
  | .spans l => [ts "spans", .lst (l.map fun p => .tup [.int p.1, .int p.2])]
noncomputable def Ans.enc (a : Ans) : D := .tup a.its
noncomputable def Ans.good : Ans → Prop
  | .ok => True
  | .refused w => w.length ≤ 100
  | .names ws => ws.length ≤ 13 ∧ ∀ w ∈ ws, Wd w
  | .box lo hi => Plc lo ∧ Plc hi
  | .near l => l.length ≤ 13 ∧ ∀ p ∈ l, Sm p.1 ∧ Wd p.2
  | .pairs l => l.length ≤ 13 ∧ ∀ p ∈ l, Wd p.1 ∧ Wd p.2
  | .number i => Sm i
  | .place xs => Plc xs
  | .spans l => l.length ≤ 13 ∧ ∀ p ∈ l, Sm p.1 ∧ Sm p.2
noncomputable def bl : Str := Str.ofString " "
noncomputable def cb : Str := Str.ofString ", "
noncomputable def nearT (p : Int × Str) : Str := txtI p.1 ++ bl ++ p.2
noncomputable def pairT (p : Str × Str) : Str := p.1 ++ bl ++ p.2
noncomputable def spanT (p : Int × Int) : Str := txtI p.1 ++ Str.ofString "-" ++ txtI p.2
noncomputable def Ans.row : Ans → Str
  | .ok => Str.ofString "ok"
  | .refused w => Str.ofString "refused " ++ w
  | .names ws => listM bl ws
  | .box lo hi => plT lo ++ bl ++ plT hi
  | .near l => listM bl (l.map nearT)
  | .pairs l => listM cb (l.map pairT)
  | .number i => txtI i
  | .place xs => plT xs
  | .spans l => listM bl (l.map spanT)
theorem Wd.fit {w : Str} (h : Wd w) : Fit w := ⟨h.1, by have := h.2; omega⟩
theorem near_fit {p : Int × Str} (h : Sm p.1 ∧ Wd p.2) : Fit (nearT p) := by
  have h1 := h.1.len
  have h2 := h.2.2
  have h3 : bl.length = 1 := by decide +kernel
  unfold nearT Fit
  rw [str_len_append, str_len_append]
  omega
theorem pair_fit {p : Str × Str} (h : Wd p.1 ∧ Wd p.2) : Fit (pairT p) := by
  have h1 := h.1.2
  have h2 := h.2.2
  have h3 : bl.length = 1 := by decide +kernel
  unfold pairT Fit
  rw [str_len_append, str_len_append]
  omega
theorem span_fit {p : Int × Int} (h : Sm p.1 ∧ Sm p.2) : Fit (spanT p) := by
  have h1 := h.1.len
  have h2 := h.2.len
  have h3 : (Str.ofString "-").length = 1 := by decide +kernel
  unfold spanT Fit
  rw [str_len_append, str_len_append]
  omega
theorem fmt_int {i : Int} (h : Sm i) : fmtD (.int i) = some (txtI i) := if_pos h.log
theorem fmt_str {y : Str} (h : y.length ≤ 20000) : fmtD (.str y) = some y := if_pos h
theorem eFs_three {fa fb : Ef} {ρ : List B} {a b : D} {x y m : Str} (h1 : fa ρ = some a) (h2 : fb ρ = some b) (e1 : fmtD a = some x) (e2 : fmtD b = some y) (hl : (x ++ m ++ y).length ≤ 100000) : eFs (jV fa (jC m (jV fb jNil))) ρ = some (.str (x ++ m ++ y)) := by
  have hy : jV fb jNil ρ = some y := by
    unfold jV jNil
    rw [h2, Option.bind_some, e2, Option.bind_some]
    show some (y ++ Str.empty) = _
    rw [Str.append_empty]
  have hm : jC m (jV fb jNil) ρ = some (m ++ y) := by unfold jC; rw [hy]; rfl
  have hx : jV fa (jC m (jV fb jNil)) ρ = some (x ++ m ++ y) := by
    rw [jV, h1, Option.bind_some, e1, Option.bind_some, hm, Str.append_assoc]; rfl
  unfold eFs
  rw [hx, Option.bind_some, if_pos hl]
theorem tst1 (x0 : B) (a b : Str) (h : (a == b) = false) : eB2 gEq (eV 1) (eC (.str b)) [x0, .fz (.str a)] = some false := by
  show some (a == b) = _
  rw [h]
theorem tst1t (x0 : B) (a : Str) : eB2 gEq (eV 1) (eC (.str a)) [x0, .fz (.str a)] = some true := by
  show some (a == a) = _
  rw [beq_self_eq_true]
theorem tst0 (x1 : B) (a b : Str) (h : (a == b) = false) : eB2 gEq (eV 0) (eC (.str b)) [.fz (.str a), x1] = some false := by
  show some (a == b) = _
  rw [h]
theorem tst0t (x1 : B) (a : Str) : eB2 gEq (eV 0) (eC (.str a)) [.fz (.str a), x1] = some true := by
  show some (a == a) = _
  rw [beq_self_eq_true]
theorem list_none {w : D} : d_list_row [w, .lst []] = some (.str (Str.ofString "none")) := by
  show (B_list_row_0 [.fz w, .fz (.lst [])]).bind outD = _
  unfold B_list_row_0
  exact seqifr rfl rfl
theorem tru_t {x0 : B} {ds : List D} (h : ds ≠ []) : tNotF (tTru (eV 1)) [x0, .fz (.lst ds)] = some false := by
  cases ds with
  | nil => exact absurd rfl h
  | cons d r => rfl
theorem comp2 {α : Type} {x0 : B} {elt : Ef} {f g : α → D} {h : α → Str} (l : List α) (hl : l.length ≤ 13) (hh : ∀ a ∈ l, elt [.fz (f a), .fz (g a)] = some (.str (h a))) : lComp (iL (eV 1)) 2 [] (gT (gsCons (gN 0) (gsCons (gN 1) gsNil))) tOK elt [x0, .fz (.lst (l.map fun a => .tup [f a, g a]))] = some ((l.map h).map D.str) := by
  show (okL (l.map fun a => .tup [f a, g a])).bind (fun ds => mapF _ tOK elt ds [.no, .no] []) = _
  rw [okL_le (by rw [List.length_map]; omega), Option.bind_some, mapF_two (h := fun a => .str (h a)) l _ _ _ hh, List.nil_append, List.map_map]
  rfl
section
theorem names_row (ws : List Str) (hl : ws.length ≤ 13) (hw : ∀ w ∈ ws, Wd w) : d_list_row [ts "names", .lst (ws.map D.str)] = some (.str (listM bl ws)) := by
  by_cases hn : ws = []
  · subst hn; exact list_none
  unfold listM
  rw [if_neg hn]
  show (B_list_row_0 [.fz (ts "names"), .fz (.lst (ws.map D.str))]).bind outD = _
  unfold B_list_row_0
  refine seqif (tru_t (by simpa using hn)) ?_
  unfold B_list_row_1
  refine seqif (tst0 _ _ _ (by decide +kernel)) ?_
  unfold B_list_row_2
  refine seqif (tst0 _ _ _ (by decide +kernel)) ?_
  unfold B_list_row_3
  refine seqif (tst0 _ _ _ (by decide +kernel)) ?_
  unfold B_list_row_4
  rw [ret_eq]
  exact eJoin_eq (ys := ws) rfl rfl (by decide +kernel) (fun y hy => by have := (hw y hy).2; omega) hl
theorem near_row (l : List (Int × Str)) (hl : l.length ≤ 13) (hw : ∀ p ∈ l, Sm p.1 ∧ Wd p.2) : d_list_row [ts "near", .lst (l.map fun p => .tup [.int p.1, .str p.2])] = some (.str (listM bl (l.map nearT))) := by
  by_cases hn : l = []
  · subst hn; exact list_none
  unfold listM
  rw [if_neg (by simpa using hn)]
  show (B_list_row_0 [.fz (ts "near"), .fz (.lst (l.map fun p => .tup [.int p.1, .str p.2]))]).bind outD = _
  unfold B_list_row_0
  refine seqif (tru_t (by simpa using hn)) ?_
  unfold B_list_row_1
  refine seqifr (tst0t _ _) ?_
  refine eJoin_eq (ys := l.map nearT) rfl (comp2 (f := fun p : Int × Str => .int p.1) (g := fun p => .str p.2) l hl fun p hp => ?_) (by decide +kernel) (fun y hy => by
    obtain ⟨p, hp, rfl⟩ := List.mem_map.mp hy
    have := (near_fit (hw p hp)).2; omega) (by rw [List.length_map]; exact hl)
  exact eFs_three rfl rfl (fmt_int (hw p hp).1) (fmt_str (by have := (hw p hp).2.2; omega)) (by have := (near_fit (hw p hp)).2; unfold nearT bl at this; omega)
theorem pairs_row (l : List (Str × Str)) (hl : l.length ≤ 13) (hw : ∀ p ∈ l, Wd p.1 ∧ Wd p.2) : d_list_row [ts "pairs", .lst (l.map fun p => .tup [.str p.1, .str p.2])] = some (.str (listM cb (l.map pairT))) := by
  by_cases hn : l = []
  · subst hn; exact list_none
  unfold listM
  rw [if_neg (by simpa using hn)]
  show (B_list_row_0 [.fz (ts "pairs"), .fz (.lst (l.map fun p => .tup [.str p.1, .str p.2]))]).bind outD = _
  unfold B_list_row_0
  refine seqif (tru_t (by simpa using hn)) ?_
  unfold B_list_row_1
  refine seqif (tst0 _ _ _ (by decide +kernel)) ?_
  unfold B_list_row_2
  refine seqifr (tst0t _ _) ?_
  refine eJoin_eq (ys := l.map pairT) rfl (comp2 (f := fun p : Str × Str => .str p.1) (g := fun p => .str p.2) l hl fun p hp => ?_) (by decide +kernel) (fun y hy => by
    obtain ⟨p, hp, rfl⟩ := List.mem_map.mp hy
    have := (pair_fit (hw p hp)).2; omega) (by rw [List.length_map]; exact hl)
  exact eFs_three rfl rfl (fmt_str (by have := (hw p hp).1.2; omega)) (fmt_str (by have := (hw p hp).2.2; omega)) (by have := (pair_fit (hw p hp)).2; unfold pairT bl at this; omega)
theorem spans_row (l : List (Int × Int)) (hl : l.length ≤ 13) (hw : ∀ p ∈ l, Sm p.1 ∧ Sm p.2) : d_list_row [ts "spans", .lst (l.map fun p => .tup [.int p.1, .int p.2])] = some (.str (listM bl (l.map spanT))) := by
  by_cases hn : l = []
  · subst hn; exact list_none
  unfold listM
  rw [if_neg (by simpa using hn)]
  show (B_list_row_0 [.fz (ts "spans"), .fz (.lst (l.map fun p => .tup [.int p.1, .int p.2]))]).bind outD = _
  unfold B_list_row_0
  refine seqif (tru_t (by simpa using hn)) ?_
  unfold B_list_row_1
  refine seqif (tst0 _ _ _ (by decide +kernel)) ?_
  unfold B_list_row_2
  refine seqif (tst0 _ _ _ (by decide +kernel)) ?_
  unfold B_list_row_3
  refine seqifr (tst0t _ _) ?_
  refine eJoin_eq (ys := l.map spanT) rfl (comp2 (f := fun p : Int × Int => .int p.1) (g := fun p => .int p.2) l hl fun p hp => ?_) (by decide +kernel) (fun y hy => by
    obtain ⟨p, hp, rfl⟩ := List.mem_map.mp hy
    have := (span_fit (hw p hp)).2; omega) (by rw [List.length_map]; exact hl)
  exact eFs_three rfl rfl (fmt_int (hw p hp).1) (fmt_int (hw p hp).2) (by have := (span_fit (hw p hp)).2; unfold spanT at this; omega)
end
end My

namespace My
open PySem L2
theorem in_no (x0 : B) (a : Str) (h1 : (Str.ofString "place" == a) = false) (h2 : (Str.ofString "box" == a) = false) : eB2 gInD (eV 1) (eTup (aCons (eC (.str "place")) (aCons (eC (.str "box")) aNil))) [x0, .fz (.str a)] = some false := by
  show anyD (.str a) [.str (Str.ofString "place"), .str (Str.ofString "box")] = _
  simp only [anyD, eqD, h1, h2, Option.bind_some, Option.map_some, Bool.or_false]
theorem ar_list (w : Str) (x : D) (h1 : (w == Str.ofString "ok") = false) (h2 : (w == Str.ofString "refused") = false) (h3 : (w == Str.ofString "number") = false) (h4 : (Str.ofString "place" == w) = false) (h5 : (Str.ofString "box" == w) = false) : d_answer_row [.tup [.str w, x]] = d_list_row [.str w, x] := by
  show (B_answer_row_0 [.fz (.tup [.str w, x]), .no]).bind outD = _
  unfold B_answer_row_0
  refine seqset (d := .str w) rfl ?_
  unfold B_answer_row_1
  refine seqif (tst1 _ _ _ h1) ?_
  unfold B_answer_row_2
  refine seqif (tst1 _ _ _ h2) ?_
  unfold B_answer_row_3
  refine seqif (tst1 _ _ _ h3) ?_
  unfold B_answer_row_4
  refine seqif (in_no _ _ h4 h5) ?_
  unfold B_answer_row_5
  rw [ret_eq]
  exact call2 rfl rfl
theorem in_yes (x0 : B) (a : Str) (h : ((Str.ofString "place" == a) || (Str.ofString "box" == a)) = true) : eB2 gInD (eV 1) (eTup (aCons (eC (.str "place")) (aCons (eC (.str "box")) aNil))) [x0, .fz (.str a)] = some true := by
  show anyD (.str a) [.str (Str.ofString "place"), .str (Str.ofString "box")] = _
  simp only [anyD, eqD, Option.bind_some, Option.map_some, Bool.or_false, h]
theorem comp_places {ps : List (List Int)} (hl : ps.length ≤ 13) (h : ∀ p ∈ ps, Plc p) (w : Str) : lComp (iT (eTCut (eV 0) (oSome (eC (.int 1))) oNo)) 1 [] (gN 0) tOK (eCall 1 d_place_text (aCons (eV 0) aNil)) [.fz (.tup (.str w :: ps.map encC)), .fz (.str w)] = some ((ps.map plT).map D.str) := by
  have hc : cutD (.str w :: ps.map encC) (some 1) none = ps.map encC := by
    unfold cutD
    have z1 : ∀ m : Nat, HT.sIx (m + 1) 0 (some (1 : Int)) = 1 := fun m => (HT.sIx_nat (m + 1) 0 1).trans (by omega)
    rw [HT.sIx_none, List.length_cons, z1, List.drop_one, List.tail_cons]
    exact List.take_of_length_le (by simp)
  have e : iT (eTCut (eV 0) (oSome (eC (.int 1))) oNo) [.fz (.tup (.str w :: ps.map encC)), .fz (.str w)] = some (ps.map encC) := by
    show (some (D.tup (cutD (.str w :: ps.map encC) (some 1) none))).bind (fun d => match d with | .tup ds => some ds | _ => none) = _
    rw [hc]
    rfl
  unfold lComp
  rw [e, Option.bind_some, okL_le (by rw [List.length_map]; omega), Option.bind_some]
  show mapF (gN 0) tOK _ (ps.map encC) [.no] [] = _
  have go : ∀ (l : List (List Int)) (x0 : B) (acc : List D), (∀ p ∈ l, Plc p) → mapF (gN 0) tOK (eCall 1 d_place_text (aCons (eV 0) aNil)) (l.map encC) [x0] acc = some (acc ++ (l.map plT).map D.str) := by
    intro l
    induction l with
    | nil => intro x0 acc _; simp [mapF]
    | cons p r ih =>
      intro x0 acc hp
      rw [List.map_cons]
      unfold mapF
      have e1 : gN 0 (encC p) [x0] = some [.fz (encC p)] := rfl
      have e2 : tOK [.fz (encC p)] = some true := rfl
      rw [e1, Option.bind_some, e2, Option.bind_some, if_pos rfl, (call1 rfl).trans (place_text_eq (hp p List.mem_cons_self)), Option.bind_some, ih _ _ fun q hq => hp q (List.mem_cons_of_mem _ hq)]
      simp
  rw [go ps .no [] h, List.nil_append]
theorem ar_place {ps : List (List Int)} (hl : ps.length ≤ 13) (h : ∀ p ∈ ps, Plc p) (w : Str) (h1 : (w == Str.ofString "ok") = false) (h2 : (w == Str.ofString "refused") = false) (h3 : (w == Str.ofString "number") = false) (h4 : ((Str.ofString "place" == w) || (Str.ofString "box" == w)) = true) : d_answer_row [.tup (.str w :: ps.map encC)] = some (.str (Str.join bl (ps.map plT))) := by
  show (B_answer_row_0 [.fz (.tup (.str w :: ps.map encC)), .no]).bind outD = _
  unfold B_answer_row_0
  have ew : eIx (eV 0) (eC (.int 0)) [.fz (.tup (.str w :: ps.map encC)), .no] = some (.str w) := by
    show atI (.str w :: ps.map encC) 0 = _
    unfold atI ixN
    rw [if_pos (by decide), if_pos (by rw [List.length_cons]; omega)]
    rfl
  refine seqset (d := .str w) ew ?_
  unfold B_answer_row_1
  refine seqif (tst1 _ _ _ h1) ?_
  unfold B_answer_row_2
  refine seqif (tst1 _ _ _ h2) ?_
  unfold B_answer_row_3
  refine seqif (tst1 _ _ _ h3) ?_
  unfold B_answer_row_4
  refine seqifr (in_yes _ _ h4) ?_
  exact eJoin_eq (ys := ps.map plT) rfl (comp_places hl h w) (by decide +kernel) (fun y hy => by
    obtain ⟨p, hp, rfl⟩ := List.mem_map.mp hy
    have := plT_len (h p hp); omega) (by rw [List.length_map]; exact hl)
theorem row_eq (a : Ans) (g : a.good) : d_answer_row [a.enc] = some (.str a.row) := by
  cases a with
  | ok =>
    show (B_answer_row_0 [.fz (.tup [ts "ok"]), .no]).bind outD = _
    unfold B_answer_row_0
    refine seqset (d := ts "ok") rfl ?_
    unfold B_answer_row_1
    exact seqifr (tst1t _ _) rfl
  | refused w =>
    have g : w.length ≤ 100 := g
    show (B_answer_row_0 [.fz (.tup [ts "refused", .str w]), .no]).bind outD = _
    unfold B_answer_row_0
    refine seqset (d := ts "refused") rfl ?_
    unfold B_answer_row_1
    refine seqif (tst1 _ _ _ (by decide +kernel)) ?_
    unfold B_answer_row_2
    refine seqifr (tst1t _ _) ?_
    have hs : ([Str.ofString "refused", w].map (·.length)).sum + [Str.ofString "refused", w].length ≤ 100000 ∧ bl.length ≤ 16 := by
      refine ⟨?_, by decide +kernel⟩
      show (Str.ofString "refused").length + (w.length + 0) + 2 ≤ 100000
      have : (Str.ofString "refused").length = 7 := by decide +kernel
      omega
    show (if ([Str.ofString "refused", w].map (·.length)).sum + [Str.ofString "refused", w].length ≤ 100000 ∧ bl.length ≤ 16 then some (D.str (Txt.join bl [Str.ofString "refused", w])) else none) = _
    rw [if_pos hs]
    unfold Txt.join
    rw [StrLaws.glued_eq_join]
    show some (D.str (Str.ofString "refused" ++ bl ++ w)) = some (D.str (Str.ofString "refused " ++ w))
    rw [show Str.ofString "refused" ++ bl = Str.ofString "refused " by decide +kernel]
  | names ws => exact (ar_list _ _ (by decide +kernel) (by decide +kernel) (by decide +kernel) (by decide +kernel) (by decide +kernel)).trans (names_row ws g.1 g.2)
  | box lo hi =>
    exact ar_place (ps := [lo, hi]) (Nat.le_of_ble_eq_true rfl) (fun p hp => by
      rcases List.mem_cons.mp hp with z | z
      · rw [z]; exact g.1
      · rw [List.mem_singleton.mp z]; exact g.2) (Str.ofString "box") (by decide +kernel) (by decide +kernel) (by decide +kernel) (by decide +kernel)
  | near l => exact (ar_list _ _ (by decide +kernel) (by decide +kernel) (by decide +kernel) (by decide +kernel) (by decide +kernel)).trans (near_row l g.1 g.2)
  | pairs l => exact (ar_list _ _ (by decide +kernel) (by decide +kernel) (by decide +kernel) (by decide +kernel) (by decide +kernel)).trans (pairs_row l g.1 g.2)
  | number i =>
    show (B_answer_row_0 [.fz (.tup [ts "number", .int i]), .no]).bind outD = _
    unfold B_answer_row_0
    refine seqset (d := ts "number") rfl ?_
    unfold B_answer_row_1
    refine seqif (tst1 _ _ _ (by decide +kernel)) ?_
    unfold B_answer_row_2
    refine seqif (tst1 _ _ _ (by decide +kernel)) ?_
    unfold B_answer_row_3
    exact seqifr (tst1t _ _) (strOf_eq rfl g)
  | place xs =>
    exact ar_place (ps := [xs]) (Nat.le_of_ble_eq_true rfl) (fun p hp => by rw [List.mem_singleton.mp hp]; exact g) (Str.ofString "place") (by decide +kernel) (by decide +kernel) (by decide +kernel) (by decide +kernel)
  | spans l => exact (ar_list _ _ (by decide +kernel) (by decide +kernel) (by decide +kernel) (by decide +kernel) (by decide +kernel)).trans (spans_row l g.1 g.2)
end My

namespace My
open PySem L2
theorem comp2d {α : Type} {w : D} {elt : Ef} {f g : α → D} {h : α → Str} (l : List α) (hl : l.length ≤ 13) (hh : ∀ a ∈ l, elt [.fz (f a), .fz (g a)] = some (.str (h a))) (x1 : B) : eL (lComp (iL (eIx (eV 0) (eC (.int 1)))) 2 [] (gT (gsCons (gN 0) (gsCons (gN 1) gsNil))) tOK elt) [.fz (.tup [w, .lst (l.map fun a => .tup [f a, g a])]), x1] = some (.lst ((l.map h).map D.str)) := by
  refine eL_eq ?_
  show (okL (l.map fun a => .tup [f a, g a])).bind (fun ds => mapF _ tOK elt ds [.no, .no] []) = _
  rw [okL_le (by rw [List.length_map]; omega), Option.bind_some, mapF_two (h := fun a => .str (h a)) l _ _ _ hh, List.nil_append, List.map_map]
  rfl
theorem due_eq (a : Ans) (g : a.good) : d_law_due [a.enc] = some (.str a.row) := by
  have l1 : bl.length = 1 := by decide +kernel
  cases a with
  | ok =>
    show (B_law_due_0 [.fz (.tup [ts "ok"]), .no]).bind outD = _
    unfold B_law_due_0
    refine seqset (d := ts "ok") rfl ?_
    unfold B_law_due_1
    exact seqifr (tst1t _ _) rfl
  | refused w =>
    have g : w.length ≤ 100 := g
    show (B_law_due_0 [.fz (.tup [ts "refused", .str w]), .no]).bind outD = _
    unfold B_law_due_0
    refine seqset (d := ts "refused") rfl ?_
    unfold B_law_due_1
    refine seqif (tst1 _ _ _ (by decide +kernel)) ?_
    unfold B_law_due_2
    exact seqifr (tst1t _ _) (addP_str (x := Str.ofString "refused ") rfl rfl (by have : (Str.ofString "refused ").length = 8 := by decide +kernel
                                                                                  omega))
  | names ws =>
    show (B_law_due_0 [.fz (.tup [ts "names", .lst (ws.map D.str)]), .no]).bind outD = _
    unfold B_law_due_0
    refine seqset (d := ts "names") rfl ?_
    unfold B_law_due_1
    refine seqif (tst1 _ _ _ (by decide +kernel)) ?_
    unfold B_law_due_2
    refine seqif (tst1 _ _ _ (by decide +kernel)) ?_
    unfold B_law_due_3
    exact seqifr (tst1t _ _) ((call2 rfl rfl).trans (listed_eq bl (by omega) ws (fun y hy => (g.2 y hy).fit) g.1))
  | box lo hi =>
    have g1 := plT_len g.1
    have g2 := plT_len g.2
    show (B_law_due_0 [.fz (.tup [ts "box", encC lo, encC hi]), .no]).bind outD = _
    unfold B_law_due_0
    refine seqset (d := ts "box") rfl ?_
    unfold B_law_due_1
    refine seqif (tst1 _ _ _ (by decide +kernel)) ?_
    unfold B_law_due_2
    refine seqif (tst1 _ _ _ (by decide +kernel)) ?_
    unfold B_law_due_3
    refine seqif (tst1 _ _ _ (by decide +kernel)) ?_
    unfold B_law_due_4
    exact seqifr (tst1t _ _) (addP_str (addP_str ((call1 rfl).trans (lplace_text_eq g.1)) rfl (by show _ + bl.length ≤ _; omega)) ((call1 rfl).trans (lplace_text_eq g.2)) (by rw [str_len_append]; show _ + bl.length + _ ≤ _; omega))
  | near l =>
    show (B_law_due_0 [.fz (.tup [ts "near", .lst (l.map fun p => .tup [.int p.1, .str p.2])]), .no]).bind outD = _
    unfold B_law_due_0
    refine seqset (d := ts "near") rfl ?_
    unfold B_law_due_1
    refine seqif (tst1 _ _ _ (by decide +kernel)) ?_
    unfold B_law_due_2
    refine seqif (tst1 _ _ _ (by decide +kernel)) ?_
    unfold B_law_due_3
    refine seqif (tst1 _ _ _ (by decide +kernel)) ?_
    unfold B_law_due_4
    refine seqif (tst1 _ _ _ (by decide +kernel)) ?_
    unfold B_law_due_5
    refine seqif (tst1 _ _ _ (by decide +kernel)) ?_
    unfold B_law_due_6
    refine seqif (tst1 _ _ _ (by decide +kernel)) ?_
    unfold B_law_due_7
    refine seqifr (tst1t _ _) ((call2 (comp2d (f := fun p : Int × Str => .int p.1) (g := fun p => .str p.2) (h := nearT) l g.1 (fun p hp => ?_) _) rfl).trans (listed_eq bl (by omega) (l.map nearT) (fun y hy => by
      obtain ⟨p, hp, rfl⟩ := List.mem_map.mp hy
      exact near_fit (g.2 p hp)) (by rw [List.length_map]; exact g.1)))
    have h1 := (g.2 p hp).1.len
    have h2 := (g.2 p hp).2.2
    exact addP_str (addP_str (strOf_eq rfl (g.2 p hp).1) rfl (by show _ + bl.length ≤ _; omega)) rfl (by rw [str_len_append]; show _ + bl.length + _ ≤ _; omega)
  | pairs l =>
    show (B_law_due_0 [.fz (.tup [ts "pairs", .lst (l.map fun p => .tup [.str p.1, .str p.2])]), .no]).bind outD = _
    unfold B_law_due_0
    refine seqset (d := ts "pairs") rfl ?_
    unfold B_law_due_1
    refine seqif (tst1 _ _ _ (by decide +kernel)) ?_
    unfold B_law_due_2
    refine seqif (tst1 _ _ _ (by decide +kernel)) ?_
    unfold B_law_due_3
    refine seqif (tst1 _ _ _ (by decide +kernel)) ?_
    unfold B_law_due_4
    refine seqif (tst1 _ _ _ (by decide +kernel)) ?_
    unfold B_law_due_5
    refine seqif (tst1 _ _ _ (by decide +kernel)) ?_
    unfold B_law_due_6
    refine seqif (tst1 _ _ _ (by decide +kernel)) ?_
    unfold B_law_due_7
    refine seqif (tst1 _ _ _ (by decide +kernel)) ?_
    unfold B_law_due_8
    refine seqifr (tst1t _ _) ((call2 (comp2d (f := fun p : Str × Str => .str p.1) (g := fun p => .str p.2) (h := pairT) l g.1 (fun p hp => ?_) _) rfl).trans (listed_eq cb (by decide +kernel) (l.map pairT) (fun y hy => by
      obtain ⟨p, hp, rfl⟩ := List.mem_map.mp hy
      exact pair_fit (g.2 p hp)) (by rw [List.length_map]; exact g.1)))
    have h1 := (g.2 p hp).1.2
    have h2 := (g.2 p hp).2.2
    exact addP_str (addP_str rfl rfl (by show _ + bl.length ≤ _; omega)) rfl (by rw [str_len_append]; show _ + bl.length + _ ≤ _; omega)
  | number i =>
    show (B_law_due_0 [.fz (.tup [ts "number", .int i]), .no]).bind outD = _
    unfold B_law_due_0
    refine seqset (d := ts "number") rfl ?_
    unfold B_law_due_1
    refine seqif (tst1 _ _ _ (by decide +kernel)) ?_
    unfold B_law_due_2
    refine seqif (tst1 _ _ _ (by decide +kernel)) ?_
    unfold B_law_due_3
    refine seqif (tst1 _ _ _ (by decide +kernel)) ?_
    unfold B_law_due_4
    refine seqif (tst1 _ _ _ (by decide +kernel)) ?_
    unfold B_law_due_5
    refine seqif (tst1 _ _ _ (by decide +kernel)) ?_
    unfold B_law_due_6
    exact seqifr (tst1t _ _) (strOf_eq rfl g)
  | place xs =>
    show (B_law_due_0 [.fz (.tup [ts "place", encC xs]), .no]).bind outD = _
    unfold B_law_due_0
    refine seqset (d := ts "place") rfl ?_
    unfold B_law_due_1
    refine seqif (tst1 _ _ _ (by decide +kernel)) ?_
    unfold B_law_due_2
    refine seqif (tst1 _ _ _ (by decide +kernel)) ?_
    unfold B_law_due_3
    refine seqif (tst1 _ _ _ (by decide +kernel)) ?_
    unfold B_law_due_4
    refine seqif (tst1 _ _ _ (by decide +kernel)) ?_
    unfold B_law_due_5
    exact seqifr (tst1t _ _) ((call1 rfl).trans (lplace_text_eq g))
  | spans l =>
    show (B_law_due_0 [.fz (.tup [ts "spans", .lst (l.map fun p => .tup [.int p.1, .int p.2])]), .no]).bind outD = _
    unfold B_law_due_0
    refine seqset (d := ts "spans") rfl ?_
    unfold B_law_due_1
    refine seqif (tst1 _ _ _ (by decide +kernel)) ?_
    unfold B_law_due_2
    refine seqif (tst1 _ _ _ (by decide +kernel)) ?_
    unfold B_law_due_3
    refine seqif (tst1 _ _ _ (by decide +kernel)) ?_
    unfold B_law_due_4
    refine seqif (tst1 _ _ _ (by decide +kernel)) ?_
    unfold B_law_due_5
    refine seqif (tst1 _ _ _ (by decide +kernel)) ?_
    unfold B_law_due_6
    refine seqif (tst1 _ _ _ (by decide +kernel)) ?_
    unfold B_law_due_7
    refine seqif (tst1 _ _ _ (by decide +kernel)) ?_
    unfold B_law_due_8
    refine seqif (tst1 _ _ _ (by decide +kernel)) ?_
    unfold B_law_due_9
    rw [ret_eq]
    refine (call2 (comp2d (f := fun p : Int × Int => .int p.1) (g := fun p => .int p.2) (h := spanT) l g.1 (fun p hp => ?_) _) rfl).trans (listed_eq bl (by omega) (l.map spanT) (fun y hy => by
      obtain ⟨p, hp, rfl⟩ := List.mem_map.mp hy
      exact span_fit (g.2 p hp)) (by rw [List.length_map]; exact g.1))
    have h1 := (g.2 p hp).1.len
    have h2 := (g.2 p hp).2.len
    exact addP_str (addP_str (strOf_eq rfl (g.2 p hp).1) rfl (by show _ + 1 ≤ _; omega)) (strOf_eq rfl (g.2 p hp).2) (by rw [str_len_append]; show _ + 1 + _ ≤ _; omega)
theorem eqDs_refl {f : D → D → Option Bool} : ∀ {ds : List D}, (∀ d ∈ ds, f d d = some true) → eqDs f ds ds = some true
  | [], _ => rfl
  | d :: r, h => by
    rw [eqDs, h d List.mem_cons_self, eqDs_refl fun x hx => h x (List.mem_cons_of_mem _ hx)]
    rfl
theorem eq_int (n : Nat) (i : Int) : eqD (n + 1) (.int i) (.int i) = some true := by show some (i == i) = _; rw [beq_self_eq_true]
theorem eq_str (n : Nat) (i : Str) : eqD (n + 1) (.str i) (.str i) = some true := by show some (i == i) = _; rw [beq_self_eq_true]
theorem eq_tup (n : Nat) {ds : List D} (h : ∀ d ∈ ds, eqD n d d = some true) : eqD (n + 1) (.tup ds) (.tup ds) = some true := by
  show (eqDs (eqD n) ds ds).map (fun b => b && ds.length == ds.length) = _
  rw [eqDs_refl h, beq_self_eq_true]; rfl
theorem eq_lst (n : Nat) {ds : List D} (h : ∀ d ∈ ds, eqD n d d = some true) : eqD (n + 1) (.lst ds) (.lst ds) = some true := by
  show (if ds.length = ds.length then eqDs (eqD n) ds ds else some false) = _
  rw [if_pos rfl, eqDs_refl h]
theorem eq_C (n : Nat) (xs : List Int) : eqD (n + 2) (encC xs) (encC xs) = some true := eq_tup _ fun d hd => by
  obtain ⟨x, _, rfl⟩ := List.mem_map.mp hd
  exact eq_int n x
theorem eq_two (n : Nat) {x y : D} (h1 : eqD n x x = some true) (h2 : eqD n y y = some true) : eqD (n + 1) (.tup [x, y]) (.tup [x, y]) = some true := eq_tup _ fun d hd => by
  rcases List.mem_cons.mp hd with z | z
  · rw [z]; exact h1
  · rw [List.mem_singleton.mp z]; exact h2
theorem its_eq (a : Ans) : gNeD (.lst a.its) (.lst a.its) = some false := by
  have h : eqD 8 (.lst a.its) (.lst a.its) = some true := by
    refine eq_lst 7 ?_
    cases a with
    | ok => intro d hd; rw [List.mem_singleton.mp hd]; exact eq_str _ _
    | refused w =>
      intro d hd
      rcases List.mem_cons.mp hd with z | z
      · rw [z]; exact eq_str _ _
      · rw [List.mem_singleton.mp z]; exact eq_str _ _
    | names ws =>
      intro d hd
      rcases List.mem_cons.mp hd with z | z
      · rw [z]; exact eq_str _ _
      · rw [List.mem_singleton.mp z]; exact eq_lst _ fun d hd => by
          obtain ⟨x, _, rfl⟩ := List.mem_map.mp hd
          exact eq_str _ x
    | box lo hi =>
      intro d hd
      rcases List.mem_cons.mp hd with z | z
      · rw [z]; exact eq_str _ _
      · rcases List.mem_cons.mp z with z | z
        · rw [z]; exact eq_C _ _
        · rw [List.mem_singleton.mp z]; exact eq_C _ _
    | near l =>
      intro d hd
      rcases List.mem_cons.mp hd with z | z
      · rw [z]; exact eq_str _ _
      · rw [List.mem_singleton.mp z]; exact eq_lst _ fun d hd => by
          obtain ⟨x, _, rfl⟩ := List.mem_map.mp hd
          exact eq_two _ (eq_int _ _) (eq_str _ _)
    | pairs l =>
      intro d hd
      rcases List.mem_cons.mp hd with z | z
      · rw [z]; exact eq_str _ _
      · rw [List.mem_singleton.mp z]; exact eq_lst _ fun d hd => by
          obtain ⟨x, _, rfl⟩ := List.mem_map.mp hd
          exact eq_two _ (eq_str _ _) (eq_str _ _)
    | number i =>
      intro d hd
      rcases List.mem_cons.mp hd with z | z
      · rw [z]; exact eq_str _ _
      · rw [List.mem_singleton.mp z]; exact eq_int _ _
    | place xs =>
      intro d hd
      rcases List.mem_cons.mp hd with z | z
      · rw [z]; exact eq_str _ _
      · rw [List.mem_singleton.mp z]; exact eq_C _ _
    | spans l =>
      intro d hd
      rcases List.mem_cons.mp hd with z | z
      · rw [z]; exact eq_str _ _
      · rw [List.mem_singleton.mp z]; exact eq_lst _ fun d hd => by
          obtain ⟨x, _, rfl⟩ := List.mem_map.mp hd
          exact eq_two _ (eq_int _ _) (eq_int _ _)
  unfold gNeD
  rw [h]; rfl
end My

namespace My
open PySem L2
theorem pw (e : Nat) (he : e ≤ 100) (ρ : List B) : ePow (eC (.int 10)) (eC (.int (e : Nat))) ρ = some (.int ((10 : Int) ^ e)) := by
  have h := eI_eq (C := cPow) (g := fun i j => i ^ j.toNat) (i := 10) (j := (e : Nat)) (fa := eC (.int 10)) (fb := eC (.int (e : Nat))) (ρ := ρ) rfl rfl (by
    unfold cPow
    rw [decide_eq_true (by omega), decide_eq_true (by omega)]
    rfl)
  rw [Int.toNat_natCast] at h
  exact h
theorem at_map {α : Type} {f : α → D} (xs : List α) (i : Int) (h0 : 0 ≤ i) (h1 : i < xs.length) : ∃ a ∈ xs, atI (xs.map f) i = some (f a) := by
  obtain ⟨a, ha, e⟩ := atI_mem h0 h1
  exact ⟨a, ha, by rw [atI_map, e]; rfl⟩
noncomputable def Fr (x : Int) : Prop := 0 ≤ x ∧ x < 10 ^ 60
theorem Fr.sm {x : Int} (h : Fr x) : Sm x := ⟨h.1, Int.lt_trans h.2 (by decide +kernel)⟩
theorem words_eq (c r : Int) (x2 x3 x4 x5 x6 x7 x8 : B) : ∃ ws : List Str, ws.length = 13 ∧ (∀ w ∈ ws, Wd w) ∧ eL (lComp (iR (eC (.int 13))) 1 [0, 1] (gN 0) tOK (eCall 2 d_law_word (aCons (eAdd (eMod (eV 1) (ePow (eC (.int 10)) (eC (.int 9)))) (eMod (eDiv (eV 2) (eC (.int 126))) (eC (.int 5)))) (aCons (eV 0) aNil)))) [.fz (.int c), .fz (.int r), x2, x3, x4, x5, x6, x7, x8] = some (.lst (ws.map D.str)) := by
  obtain ⟨ws, e, hl, hw⟩ := mapF_ex (f := D.str) (Q := Wd) (elt := eCall 2 d_law_word (aCons (eAdd (eMod (eV 1) (ePow (eC (.int 10)) (eC (.int 9)))) (eMod (eDiv (eV 2) (eC (.int 126))) (eC (.int 5)))) (aCons (eV 0) aNil))) (rest := [.fz (.int c), .fz (.int r)]) (upto 0 13) .no [] (fun d hd => by
    obtain ⟨i, hi, rfl⟩ := mem_upto hd
    obtain ⟨w, ew, hw⟩ := word_eq (c % 10 ^ 9 + r / 126 % 5) (0 + (i : Nat))
    exact ⟨w, (call2 (eI_eq (eI_eq rfl (pw 9 (by decide) _) (by decide +kernel)) (eI_eq (eI_eq rfl rfl rfl) rfl rfl) rfl) rfl).trans ew, hw⟩)
  refine ⟨ws, by rw [hl, upto_len], hw, eL_eq ?_⟩
  rw [List.nil_append] at e
  exact e
theorem fars_eq (c r : Int) (x2 x3 x4 x5 x6 x7 x8 : B) : ∃ fs : List Int, fs.length = 7 ∧ (∀ f ∈ fs, Fr f) ∧ eL (lComp (iR (eC (.int 7))) 1 [0, 1] (gN 0) tOK (eMod (eAdd (eV 1) (eMul (eMul (eV 0) (eV 0)) (eV 0))) (eIx (eL (lDisp (aCons (eC (.int 10)) (aCons (ePow (eC (.int 10)) (eC (.int 60))) aNil)))) (eMod (eDiv (eV 2) (eC (.int 630))) (eC (.int 2)))))) [.fz (.int c), .fz (.int r), x2, x3, x4, x5, x6, x7, x8] = some (.lst (fs.map D.int)) := by
  obtain ⟨fs, e, hl, hw⟩ := mapF_ex (f := D.int) (Q := Fr) (elt := eMod (eAdd (eV 1) (eMul (eMul (eV 0) (eV 0)) (eV 0))) (eIx (eL (lDisp (aCons (eC (.int 10)) (aCons (ePow (eC (.int 10)) (eC (.int 60))) aNil)))) (eMod (eDiv (eV 2) (eC (.int 630))) (eC (.int 2))))) (rest := [.fz (.int c), .fz (.int r)]) (upto 0 7) .no [] (fun d hd => by
    obtain ⟨i, hi, rfl⟩ := mem_upto hd
    obtain ⟨m, hm, em⟩ := at_map (f := D.int) [10, 10 ^ 60] (r / 630 % 2) (by omega) (by show r / 630 % 2 < 2; omega)
    have hm' : 0 < m ∧ m ≤ 10 ^ 60 := by
      rcases List.mem_cons.mp hm with z | z
      · rw [z]; decide +kernel
      · rw [List.mem_singleton.mp z]; decide +kernel
    have hk : cMul (0 + (i : Nat) : Int) (0 + (i : Nat)) = true := cMul_l (by omega) (by omega)
    have hk2 : cMul ((0 + (i : Nat) : Int) * (0 + (i : Nat))) (0 + (i : Nat)) = true := cMul_r (by omega) (by omega)
    have hd : lDisp (aCons (eC (.int 10)) (aCons (ePow (eC (.int 10)) (eC (.int 60))) aNil)) [.fz (.int (0 + (i : Nat))), .fz (.int c), .fz (.int r)] = some ([10, 10 ^ 60].map D.int) := lDisp_eq (aCons_eq rfl (aCons_eq (pw 60 (by decide) _) rfl)) (Nat.le_of_ble_eq_true rfl)
    generalize (0 + (i : Nat) : Int) = k at hk hk2 hd
    exact ⟨_, eI_eq (eI_eq rfl (eI_eq (eI_eq rfl rfl hk) rfl hk2) rfl) ((eIx_eq (eL_eq hd) (eI_eq (eI_eq rfl rfl rfl) rfl rfl)).trans em) (decide_eq_true hm'.1), Int.emod_nonneg _ (by omega), Int.lt_of_lt_of_le (Int.emod_lt_of_pos _ hm'.1) hm'.2⟩)
  refine ⟨fs, by rw [hl, upto_len], hw, eL_eq ?_⟩
  rw [List.nil_append] at e
  exact e
noncomputable def spD (p : Int × Int) : D := .tup [.int p.1, .int p.2]
theorem spans_eq (c r : Int) (fs : List Int) (hf : fs.length = 7) (hF : ∀ f ∈ fs, Fr f) (m : Nat) (hm : m ≤ 7) (x0 x2 x4 x6 x7 x8 : B) : ∃ l : List (Int × Int), l.length = m ∧ (∀ p ∈ l, Sm p.1 ∧ Sm p.2) ∧ lComp (iR (eV 3)) 1 [5, 1] (gN 0) tOK (eTup (aCons (eAdd (eIx (eV 1) (eV 0)) (eMul (eV 0) (ePow (eC (.int 10)) (eC (.int 61))))) (aCons (eAdd (eAdd (eIx (eV 1) (eV 0)) (eMul (eV 0) (ePow (eC (.int 10)) (eC (.int 61))))) (eMod (eAdd (eV 2) (eV 0)) (eC (.int 3)))) aNil))) [x0, .fz (.int r), x2, .fz (.int (m : Nat)), x4, .fz (.lst (fs.map D.int)), x6, x7, x8] = some (l.map spD) := by
  obtain ⟨l, e, hl, hw⟩ := mapF_ex (f := spD) (Q := fun p => Sm p.1 ∧ Sm p.2) (elt := eTup (aCons (eAdd (eIx (eV 1) (eV 0)) (eMul (eV 0) (ePow (eC (.int 10)) (eC (.int 61))))) (aCons (eAdd (eAdd (eIx (eV 1) (eV 0)) (eMul (eV 0) (ePow (eC (.int 10)) (eC (.int 61))))) (eMod (eAdd (eV 2) (eV 0)) (eC (.int 3)))) aNil))) (rest := [.fz (.lst (fs.map D.int)), .fz (.int r)]) (upto 0 m) .no [] (fun d hd => by
    obtain ⟨i, hi, rfl⟩ := mem_upto hd
    obtain ⟨f, hfm, ef⟩ := at_map (f := D.int) fs (0 + (i : Nat)) (by omega) (by omega)
    have hFf := hF f hfm
    have hk : cMul (0 + (i : Nat) : Int) (10 ^ 61) = true := cMul_l (by omega) (by omega)
    have hk0 : 0 ≤ (0 + (i : Nat) : Int) := by omega
    have hk7 : (0 + (i : Nat) : Int) < 7 := by omega
    generalize (0 + (i : Nat) : Int) = k at hk hk0 hk7 ef
    have e1 : eAdd (eIx (eV 1) (eV 0)) (eMul (eV 0) (ePow (eC (.int 10)) (eC (.int 61)))) [.fz (.int k), .fz (.lst (fs.map D.int)), .fz (.int r)] = some (.int (f + k * 10 ^ 61)) := eI_eq ((eIx_eq (x := .lst (fs.map D.int)) (y := .int k) rfl rfl).trans ef) (eI_eq rfl (pw 61 (by decide) _) hk) rfl
    have hb : Sm (f + k * 10 ^ 61) ∧ Sm (f + k * 10 ^ 61 + (r + k) % 3) := by
      have h1 := hFf.1
      have h2 := hFf.2
      have h3 : (10 : Int) ^ 60 + 7 * 10 ^ 61 + 3 < 10 ^ 63 := by decide +kernel
      have h4 : k * (10 : Int) ^ 61 ≤ 7 * 10 ^ 61 := Int.mul_le_mul_of_nonneg_right (by omega) (by decide +kernel)
      have h5 : 0 ≤ k * (10 : Int) ^ 61 := Int.mul_nonneg hk0 (by decide +kernel)
      have h6 : 0 ≤ (r + k) % 3 := by omega
      have h7 : (r + k) % 3 < 3 := by omega
      unfold Sm
      generalize (10 : Int) ^ 60 = A at *
      generalize k * (10 : Int) ^ 61 = C at *
      generalize 7 * (10 : Int) ^ 61 = D at *
      generalize (10 : Int) ^ 63 = E at *
      generalize (r + k) % 3 = q at *
      omega
    exact ⟨(f + k * 10 ^ 61, f + k * 10 ^ 61 + (r + k) % 3), eTup_eq (aCons_eq e1 (aCons_eq (eI_eq e1 (eI_eq (eI_eq rfl rfl rfl) rfl rfl) rfl) rfl)) (Nat.le_of_ble_eq_true rfl), hb⟩)
  refine ⟨l, by rw [hl, upto_len], hw, ?_⟩
  rw [List.nil_append] at e
  unfold lComp
  rw [iR_n (n := m) rfl (by omega), Option.bind_some, okL_le (by rw [upto_len]; omega), Option.bind_some]
  exact e
noncomputable def nrD (p : Int × Str) : D := .tup [.int p.1, .str p.2]
noncomputable def prD (p : Str × Str) : D := .tup [.str p.1, .str p.2]
theorem near_eq (fs : List Int) (hf : fs.length = 7) (hF : ∀ f ∈ fs, Fr f) (ws : List Str) (hw : ws.length = 13) (hW : ∀ w ∈ ws, Wd w) (m : Nat) (hm : m ≤ 7) (x0 x1 x2 x6 x7 x8 : B) : ∃ l : List (Int × Str), l.length = m ∧ (∀ p ∈ l, Sm p.1 ∧ Wd p.2) ∧ lComp (iR (eV 3)) 1 [5, 4] (gN 0) tOK (eTup (aCons (eIx (eV 1) (eV 0)) (aCons (eIx (eV 2) (eV 0)) aNil))) [x0, x1, x2, .fz (.int (m : Nat)), .fz (.lst (ws.map D.str)), .fz (.lst (fs.map D.int)), x6, x7, x8] = some (l.map nrD) := by
  obtain ⟨l, e, hl, hw⟩ := mapF_ex (f := nrD) (Q := fun p => Sm p.1 ∧ Wd p.2) (elt := eTup (aCons (eIx (eV 1) (eV 0)) (aCons (eIx (eV 2) (eV 0)) aNil))) (rest := [.fz (.lst (fs.map D.int)), .fz (.lst (ws.map D.str))]) (upto 0 m) .no [] (fun d hd => by
    obtain ⟨i, hi, rfl⟩ := mem_upto hd
    obtain ⟨f, hfm, ef⟩ := at_map (f := D.int) fs (0 + (i : Nat)) (by omega) (by omega)
    obtain ⟨w, hwm, ew⟩ := at_map (f := D.str) ws (0 + (i : Nat)) (by omega) (by omega)
    exact ⟨(f, w), eTup_eq (aCons_eq ((eIx_eq (x := .lst (fs.map D.int)) (y := .int (0 + (i : Nat))) rfl rfl).trans ef) (aCons_eq ((eIx_eq (x := .lst (ws.map D.str)) (y := .int (0 + (i : Nat))) rfl rfl).trans ew) rfl)) (Nat.le_of_ble_eq_true rfl), (hF f hfm).sm, hW w hwm⟩)
  refine ⟨l, by rw [hl, upto_len], hw, ?_⟩
  rw [List.nil_append] at e
  unfold lComp
  rw [iR_n (n := m) rfl (by omega), Option.bind_some, okL_le (by rw [upto_len]; omega), Option.bind_some]
  exact e
theorem pairs_eq (ws : List Str) (hw : ws.length = 13) (hW : ∀ w ∈ ws, Wd w) (m : Int) (x0 x1 x2 x5 x6 x7 x8 : B) : ∃ l : List (Str × Str), l.length ≤ 6 ∧ (∀ p ∈ l, Wd p.1 ∧ Wd p.2) ∧ lComp (iR (eMod (eV 3) (eC (.int 6)))) 1 [4] (gN 0) tOK (eTup (aCons (eIx (eV 1) (eV 0)) (aCons (eIx (eV 1) (eAdd (eV 0) (eC (.int 1)))) aNil))) [x0, x1, x2, .fz (.int m), .fz (.lst (ws.map D.str)), x5, x6, x7, x8] = some (l.map prD) := by
  have h6 : m % 6 = (((m % 6).toNat : Nat) : Int) := by omega
  obtain ⟨l, e, hl, hw⟩ := mapF_ex (f := prD) (Q := fun p => Wd p.1 ∧ Wd p.2) (elt := eTup (aCons (eIx (eV 1) (eV 0)) (aCons (eIx (eV 1) (eAdd (eV 0) (eC (.int 1)))) aNil))) (rest := [.fz (.lst (ws.map D.str))]) (upto 0 (m % 6).toNat) .no [] (fun d hd => by
    obtain ⟨i, hi, rfl⟩ := mem_upto hd
    obtain ⟨f, hfm, ef⟩ := at_map (f := D.str) ws (0 + (i : Nat)) (by omega) (by omega)
    obtain ⟨w, hwm, ew⟩ := at_map (f := D.str) ws (0 + (i : Nat) + 1) (by omega) (by omega)
    exact ⟨(f, w), eTup_eq (aCons_eq ((eIx_eq (x := .lst (ws.map D.str)) (y := .int (0 + (i : Nat))) rfl rfl).trans ef) (aCons_eq ((eIx_eq (x := .lst (ws.map D.str)) (y := .int (0 + (i : Nat) + 1)) rfl (eI_eq rfl rfl rfl)).trans ew) rfl)) (Nat.le_of_ble_eq_true rfl), hW f hfm, hW w hwm⟩)
  refine ⟨l, by rw [hl, upto_len]; omega, hw, ?_⟩
  rw [List.nil_append] at e
  unfold lComp
  rw [iR_n (f := eMod (eV 3) (eC (.int 6))) (n := (m % 6).toNat) (by rw [← h6]; exact eI_eq rfl rfl rfl) (by omega), Option.bind_some, okL_le (by rw [upto_len]; omega), Option.bind_some]
  exact e
theorem answer_eq (c r : Int) (hc : Builtin.Int.intBits c ≤ 1048576) (hr : 0 ≤ r) : ∃ a : Ans, a.good ∧ d_law_answer [.int c, .int r] = some a.enc := by
  obtain ⟨n, hn, hnn⟩ : ∃ n : Nat, (n = 2 ∨ n = 3) ∧ 2 + r / 9 % 2 = (n : Int) := ⟨(2 + r / 9 % 2).toNat, by omega, by omega⟩
  obtain ⟨m, hm, hmm⟩ : ∃ m : Nat, m ≤ 7 ∧ r / 18 % 7 = (m : Int) := ⟨(r / 18 % 7).toNat, by omega, by omega⟩
  obtain ⟨ws, hwl, hw, ew⟩ := words_eq c r (.fz (.int (n : Nat))) (.fz (.int (m : Nat))) .no .no .no .no .no
  obtain ⟨fs, hfl, hf, ef⟩ := fars_eq c r (.fz (.int (n : Nat))) (.fz (.int (m : Nat))) (.fz (.lst (ws.map D.str))) .no .no .no .no
  obtain ⟨sp, hsl, hs, es⟩ := spans_eq c r fs hfl hf m hm (.fz (.int c)) (.fz (.int (n : Nat))) (.fz (.lst (ws.map D.str))) .no .no .no
  obtain ⟨lo, elo, hlo⟩ := spot_eq c r hc hn
  obtain ⟨hi, ehi, hhi⟩ := spot_eq c (r + 1) hc hn
  obtain ⟨nr, hnl, hnr, en⟩ := near_eq fs hfl hf ws hwl hw m hm (.fz (.int c)) (.fz (.int r)) (.fz (.int (n : Nat))) (.fz (.lst (sp.map spD))) (.fz (encC lo)) (.fz (encC hi))
  obtain ⟨pr, hpl, hpr, ep⟩ := pairs_eq ws hwl hw (m : Nat) (.fz (.int c)) (.fz (.int r)) (.fz (.int (n : Nat))) (.fz (.lst (fs.map D.int))) (.fz (.lst (sp.map spD))) (.fz (encC lo)) (.fz (encC hi))
  obtain ⟨f0, hf0, ef0⟩ := at_map (f := D.int) fs 0 (by decide) (by omega)
  obtain ⟨rw_, hrw, erw⟩ := at_map (f := D.str) [Str.ofString "box", Str.ofString "twice", Str.ofString "thing", Str.ofString "floor"] ((m : Nat) % 4 : Int) (by omega) (by show ((m : Nat) % 4 : Int) < 4; omega)
  have hrl : rw_.length ≤ 100 := by
    simp only [List.mem_cons, List.not_mem_nil, or_false] at hrw
    rcases hrw with rfl | rfl | rfl | rfl <;> decide +kernel
  have h13 : 0 ≤ r / 18 % 13 ∧ r / 18 % 13 < 13 := by omega
  have hcut : cutD (ws.map D.str) none (some (r / 18 % 13)) = (ws.take (r / 18 % 13).toNat).map D.str := by
    unfold cutD
    have z2 : HT.sIx ws.length ws.length (some (r / 18 % 13)) = (r / 18 % 13).toNat := by
      have e1 : r / 18 % 13 = (((r / 18 % 13).toNat : Nat) : Int) := by omega
      rw [e1, HT.sIx_nat]
      omega
    rw [HT.sIx_none, List.length_map, z2, List.drop_zero, Nat.sub_zero, List.map_take]
  let as : List Ans := [.ok, .refused rw_, .names (ws.take (r / 18 % 13).toNat), .box lo hi, .near nr, .pairs pr, .number f0, .place lo, .spans sp]
  have hgood : ∀ a ∈ as, a.good := by
    intro a ha
    simp only [as, List.mem_cons, List.not_mem_nil, or_false] at ha
    rcases ha with rfl | rfl | rfl | rfl | rfl | rfl | rfl | rfl | rfl
    · trivial
    · exact hrl
    · exact ⟨by rw [List.length_take]; omega, fun w h => hw w (List.mem_of_mem_take h)⟩
    · exact ⟨hlo, hhi⟩
    · exact ⟨by omega, hnr⟩
    · exact ⟨by omega, hpr⟩
    · exact (hf f0 hf0).sm
    · exact hlo
    · exact ⟨by omega, hs⟩
  obtain ⟨a, ham, ea⟩ := at_map (f := Ans.enc) as (r % 9) (by omega) (by show r % 9 < 9; omega)
  refine ⟨a, hgood a ham, ?_⟩
  have hlist : lDisp (aCons (eTup (aCons (eC (.str "ok")) aNil)) (aCons (eTup (aCons (eC (.str "refused")) (aCons (eIx (eL (lDisp (aCons (eC (.str "box")) (aCons (eC (.str "twice")) (aCons (eC (.str "thing")) (aCons (eC (.str "floor")) aNil)))))) (eMod (eV 3) (eC (.int 4)))) aNil))) (aCons (eTup (aCons (eC (.str "names")) (aCons (eL (lSlice (eV 4) oNo (oSome (eMod (eDiv (eV 1) (eC (.int 18))) (eC (.int 13)))))) aNil))) (aCons (eTup (aCons (eC (.str "box")) (aCons (eV 7) (aCons (eV 8) aNil)))) (aCons (eTup (aCons (eC (.str "near")) (aCons (eL (lComp (iR (eV 3)) 1 [5, 4] (gN 0) tOK (eTup (aCons (eIx (eV 1) (eV 0)) (aCons (eIx (eV 2) (eV 0)) aNil))))) aNil))) (aCons (eTup (aCons (eC (.str "pairs")) (aCons (eL (lComp (iR (eMod (eV 3) (eC (.int 6)))) 1 [4] (gN 0) tOK (eTup (aCons (eIx (eV 1) (eV 0)) (aCons (eIx (eV 1) (eAdd (eV 0) (eC (.int 1)))) aNil))))) aNil))) (aCons (eTup (aCons (eC (.str "number")) (aCons (eIx (eV 5) (eC (.int 0))) aNil))) (aCons (eTup (aCons (eC (.str "place")) (aCons (eV 7) aNil))) (aCons (eTup (aCons (eC (.str "spans")) (aCons (eV 6) aNil))) aNil)))))))))
      [.fz (.int c), .fz (.int r), .fz (.int (n : Nat)), .fz (.int (m : Nat)), .fz (.lst (ws.map D.str)), .fz (.lst (fs.map D.int)), .fz (.lst (sp.map spD)), .fz (encC lo), .fz (encC hi)] = some (as.map Ans.enc) := by
    have q : ∀ {x : D} {g : Lf} {ds : List D} {ρ : List B}, g ρ = some ds → ds.length ≤ 10 → eTup g ρ = some (.tup ds) := fun h hl => eTup_eq h (by omega)
    refine lDisp_eq (aCons_eq (eTup_eq rfl (Nat.le_of_ble_eq_true rfl)) (aCons_eq (eTup_eq (aCons_eq rfl (aCons_eq ((eIx_eq (x := .lst ([Str.ofString "box", Str.ofString "twice", Str.ofString "thing", Str.ofString "floor"].map D.str)) (y := .int ((m : Nat) % 4)) (eL_eq (lDisp_eq rfl (Nat.le_of_ble_eq_true rfl))) (eI_eq rfl rfl rfl)).trans erw) rfl)) (Nat.le_of_ble_eq_true rfl))
      (aCons_eq (eTup_eq (aCons_eq rfl (aCons_eq (eL_eq ?names) rfl)) (Nat.le_of_ble_eq_true rfl)) (aCons_eq (eTup_eq rfl (Nat.le_of_ble_eq_true rfl)) (aCons_eq (eTup_eq (aCons_eq rfl (aCons_eq (eL_eq en) rfl)) (Nat.le_of_ble_eq_true rfl)) (aCons_eq (eTup_eq (aCons_eq rfl (aCons_eq (eL_eq ep) rfl)) (Nat.le_of_ble_eq_true rfl)) (aCons_eq (eTup_eq (aCons_eq rfl (aCons_eq ((eIx_eq (x := .lst (fs.map D.int)) (y := .int 0) rfl rfl).trans ef0) rfl)) (Nat.le_of_ble_eq_true rfl)) (aCons_eq (eTup_eq rfl (Nat.le_of_ble_eq_true rfl)) (aCons_eq (eTup_eq rfl (Nat.le_of_ble_eq_true rfl)) rfl))))))))) (Nat.le_of_ble_eq_true rfl)
    case names =>
      have hq : eMod (eDiv (eV 1) (eC (.int 18))) (eC (.int 13)) [.fz (.int c), .fz (.int r), .fz (.int (n : Nat)), .fz (.int (m : Nat)), .fz (.lst (ws.map D.str)), .fz (.lst (fs.map D.int)), .fz (.lst (sp.map spD)), .fz (encC lo), .fz (encC hi)] = some (.int (r / 18 % 13)) := eI_eq (eI_eq rfl rfl rfl) rfl rfl
      unfold lSlice oSome
      rw [hq]
      show some (cutD (ws.map D.str) none (some (r / 18 % 13))) = _
      rw [hcut]
  show (B_law_answer_0 [.fz (.int c), .fz (.int r), .no, .no, .no, .no, .no, .no, .no]).bind outD = _
  unfold B_law_answer_0
  refine seqset (d := .int (n : Nat)) (by rw [← hnn]; exact eI_eq rfl (eI_eq (eI_eq rfl rfl rfl) rfl rfl) rfl) ?_
  unfold B_law_answer_1
  refine seqset (d := .int (m : Nat)) (by rw [← hmm]; exact eI_eq (eI_eq rfl rfl rfl) rfl rfl) ?_
  unfold B_law_answer_2
  refine seqset ew ?_
  unfold B_law_answer_3
  refine seqset ef ?_
  unfold B_law_answer_4
  refine seq_out (ρ' := [.fz (.int c), .fz (.int r), .fz (.int (n : Nat)), .fz (.int (m : Nat)), .fz (.lst (ws.map D.str)), .fz (.lst (fs.map D.int)), .ow (sp.map spD), .no, .no]) (by
    show (lComp _ 1 [5, 1] _ _ _ [.fz (.int c), .fz (.int r), .fz (.int (n : Nat)), .fz (.int (m : Nat)), .fz (.lst (ws.map D.str)), .fz (.lst (fs.map D.int)), .no, .no, .no]).map _ = _
    rw [es]; rfl) ?_
  unfold B_law_answer_5
  refine seqset ((call3 rfl rfl rfl).trans elo) ?_
  unfold B_law_answer_6
  refine seqset ((call3 rfl (eI_eq rfl rfl rfl) rfl).trans ehi) ?_
  unfold B_law_answer_7
  show (sRet _ [.fz (.int c), .fz (.int r), .fz (.int (n : Nat)), .fz (.int (m : Nat)), .fz (.lst (ws.map D.str)), .fz (.lst (fs.map D.int)), .fz (.lst (sp.map spD)), .fz (encC lo), .fz (encC hi)]).bind outD = _
  rw [ret_eq]
  exact (eIx_eq (eL_eq hlist) (eI_eq rfl rfl rfl)).trans ea
end My

namespace My
open PySem L2
noncomputable def Bt (c : Int) : Prop := Builtin.Int.intBits c ≤ 1048576
theorem cell_at_eq (ms : List Int) (hb : ∀ c ∈ ms, Bt c) (k : Int) (h : 0 ≤ k) : ∃ v, Bt v ∧ d_law_cell_at [.lst (ms.map .int), .int k] = some (.int v) := by
  by_cases hk : k < ms.length
  · obtain ⟨v, hv, e⟩ := atI_mem (xs := ms) h hk
    refine ⟨v, hb v hv, ?_⟩
    simp [d_law_cell_at, fnF, b_law_cell_at, B_law_cell_at_0, B_law_cell_at_1, startB, sSeq, sIf, sRet, sNil, eB2, gLt, eLen, lenD, eIx, atD, eV, eC, getB, hk, atI_map, e, outD]
  · refine ⟨0, by unfold Bt; decide, ?_⟩
    simp [d_law_cell_at, fnF, b_law_cell_at, B_law_cell_at_0, B_law_cell_at_1, startB, sSeq, sIf, sRet, sNil, eB2, gLt, eLen, lenD, eIx, atD, eV, eC, getB, hk, outD]
theorem kept_eq (a : Ans) (x0 x1 x2 x3 x6 : B) : (sIf (tB1 (isTy isLst (eIx (eV 4) (eSub (eLen (eV 4)) (eC (.int 1)))))) (sSet 5 (eL (lDisp (aCons (eIx (eV 4) (eC (.int 0))) (aCons (eL (lListOf (eIx (eV 4) (eC (.int 1))))) aNil))))) sNil) [x0, x1, x2, x3, .fz a.enc, .fz (.lst a.its), x6] = some (.nx [x0, x1, x2, x3, .fz a.enc, .fz (.lst a.its), x6]) := by
  cases a <;> rfl
theorem law_turn (x0 : B) (ms : List Int) (hb : ∀ c ∈ ms, Bt c) (k : Int) (h0 : 0 ≤ k) (h1 : k < 1000) (x3 x4 x5 x6 : B) : ∃ y3 y4 y5 y6, L1_law_0 [x0, .fz (.lst (ms.map D.int)), .fz (.int k), x3, x4, x5, x6] = some (.nx [x0, .fz (.lst (ms.map D.int)), .fz (.int k), y3, y4, y5, y6]) := by
  obtain ⟨v, hv, ev⟩ := cell_at_eq ms hb (2 * k + 1) (by omega)
  obtain ⟨u, hu, eu⟩ := cell_at_eq ms hb (2 * k) (by omega)
  have m2 : cMul 2 k = true := cMul_l (by omega) (by omega)
  have mk : cMul k k = true := cMul_l (by omega) (by omega)
  have er := mix_eq (v + k * k) 48271 (by decide) (by decide)
  have hr := mixI_nn (v + k * k) 48271
  generalize mixI (v + k * k) 48271 = r at er hr
  obtain ⟨a, ga, ea⟩ := answer_eq u r hu hr
  have e6 := row_eq a ga
  have e7 := due_eq a ga
  refine ⟨.fz (.int r), .fz a.enc, .fz (.lst a.its), .fz (.str a.row), ?_⟩
  unfold L1_law_0
  rw [setnx ((call2 (eI_eq ((call2 rfl (eI_eq (eI_eq rfl rfl m2) rfl rfl)).trans ev) (eI_eq rfl rfl mk) rfl) rfl).trans er)]
  unfold L1_law_1
  rw [setnx ((call2 ((call2 rfl (eI_eq rfl rfl m2)).trans eu) rfl).trans ea)]
  unfold L1_law_2
  rw [setnx (d := .lst a.its) rfl]
  unfold L1_law_3
  dsimp only [List.set]
  rw [sSeq_nx (kept_eq a _ _ _ _ _)]
  unfold L1_law_4
  rw [setnx ((call1 rfl).trans e6)]
  unfold L1_law_5
  refine (if_of (b := false) ?_).trans rfl
  unfold tOrF
  have t1 : tNotF (tB1 (isTy isStr (eV 6))) ([x0, .fz (.lst (ms.map D.int)), .fz (.int k), .fz (.int r), .fz a.enc, .fz (.lst a.its), .fz (.str a.row)]) = some false := rfl
  have t2 : eB2 gNeD (eV 6) (eCall 1 d_law_due (aCons (eV 4) aNil)) ([x0, .fz (.lst (ms.map D.int)), .fz (.int k), .fz (.int r), .fz a.enc, .fz (.lst a.its), .fz (.str a.row)]) = some false := by
    unfold eB2
    rw [(call1 rfl).trans e7]
    show gNeD (.str a.row) (.str a.row) = _
    unfold gNeD
    rw [eq_str]; rfl
  have t3 : eB2 gNeD (eL (lListOf (eV 4))) (eV 5) ([x0, .fz (.lst (ms.map D.int)), .fz (.int k), .fz (.int r), .fz a.enc, .fz (.lst a.its), .fz (.str a.row)]) = some false := its_eq a
  show (tNotF (tB1 (isTy isStr (eV 6))) [x0, .fz (.lst (ms.map D.int)), .fz (.int k), .fz (.int r), .fz a.enc, .fz (.lst a.its), .fz (.str a.row)]).bind _ = _
  rw [t1, Option.bind_some, if_neg (by decide), ]
  show (eB2 gNeD (eV 6) (eCall 1 d_law_due (aCons (eV 4) aNil)) [x0, .fz (.lst (ms.map D.int)), .fz (.int k), .fz (.int r), .fz a.enc, .fz (.lst a.its), .fz (.str a.row)]).bind _ = _
  rw [t2, Option.bind_some, if_neg (by decide)]
  exact t3
theorem law_true (ns : List Int) (h : ns.length ≤ 63) (hb : ∀ n ∈ ns, Builtin.Int.intBits n ≤ 1048576) : d_law [.lst (ns.map .int)] = some (.bl true) := by
  have hc : cutD (ns.map .int) (some 0) (some 60) = (ns.take 60).map .int := by
    unfold cutD
    have z1 : ∀ m : Nat, HT.sIx m 0 (some (0 : Int)) = 0 := fun m => (HT.sIx_nat m 0 0).trans (by omega)
    have z2 : ∀ m : Nat, HT.sIx m m (some (60 : Int)) = min 60 m := fun m => HT.sIx_nat m m 60
    rw [z1, z2, List.drop_zero, Nat.sub_zero, List.length_map, List.map_take]
    rw [List.take_eq_take_iff, List.length_map]
    omega
  have hms : ∀ c ∈ ns.take 60, Bt c := fun c hc => hb c (List.mem_of_mem_take hc)
  have hl : (ns.take 60).length ≤ 60 := by rw [List.length_take]; omega
  generalize ns.take 60 = ms at hc hms hl
  obtain ⟨ρ', e, y2, y3, y4, y5, y6, rfl⟩ := forF_all (g := gN 2) (body := L1_law_0) (P := fun ρ => ∃ y2 y3 y4 y5 y6, ρ = [.fz (.lst (ns.map .int)), .fz (.lst (ms.map D.int)), y2, y3, y4, y5, y6]) (upto 0 (1 + ms.length / 2)) (fun d hd ρ hρ => by
      obtain ⟨i, hi, rfl⟩ := mem_upto hd
      obtain ⟨y2, y3, y4, y5, y6, rfl⟩ := hρ
      obtain ⟨z3, z4, z5, z6, e⟩ := law_turn (.fz (.lst (ns.map .int))) ms hms (0 + (i : Nat)) (by omega) (by omega) y3 y4 y5 y6
      exact ⟨_, _, rfl, e, _, _, _, _, _, rfl⟩) [.fz (.lst (ns.map .int)), .fz (.lst (ms.map D.int)), .no, .no, .no, .no, .no] ⟨_, _, _, _, _, rfl⟩
  show (B_law_0 [.fz (.lst (ns.map .int)), .no, .no, .no, .no, .no, .no]).bind outD = _
  unfold B_law_0
  refine seqset (d := .lst (ms.map D.int)) (eL_eq (by
    show some (cutD (ns.map .int) (some 0) (some 60)) = _
    rw [hc])) ?_
  unfold B_law_1
  refine seq_out (g := B_law_2) (ρ' := [.fz (.lst (ns.map .int)), .fz (.lst (ms.map D.int)), y2, y3, y4, y5, y6]) ?_ rfl
  show sFor _ (gN 2) L1_law_0 [.fz (.lst (ns.map .int)), .fz (.lst (ms.map D.int)), .no, .no, .no, .no, .no] = _
  unfold sFor
  have hlen : eLen (eV 1) [.fz (.lst (ns.map .int)), .fz (.lst (ms.map D.int)), .no, .no, .no, .no, .no] = some (.int (ms.length : Nat)) := by
    show lenD (.lst (ms.map D.int)) = _
    show some (D.int ((ms.map D.int).length : Nat)) = _
    rw [List.length_map]
  have hdiv : ((ms.length / 2 : Nat) : Int) = (ms.length : Int) / 2 := by omega
  rw [iR_n (f := eAdd (eC (.int 1)) (eDiv (eLen (eV 1)) (eC (.int 2)))) (n := 1 + ms.length / 2) (by
    have e2 := eI_eq (C := cDiv) (g := fun i j => i / j) hlen (rfl : eC (.int 2) _ = some (.int 2)) rfl
    have e3 := eI_eq (C := fun _ _ => true) (g := fun i j => i + j) (rfl : eC (.int 1) [.fz (.lst (ns.map .int)), .fz (.lst (ms.map D.int)), .no, .no, .no, .no, .no] = some (.int 1)) e2 rfl
    rw [Int.natCast_add, hdiv]
    exact e3) (by omega), Option.bind_some]
  exact e
end My

open PySem PySem.W PyProof.Rows
set_option maxRecDepth 100000 in
set_option maxHeartbeats 0 in
theorem PySem.Challenge.cw_curveyard_k42_answers_shown_holds : PySem.Challenge.rw_curveyard_k42_answers_shown.Holds := by
  w_on; o_law; k_head; (case hw => w_witness2)
  k_fill
  refine L2.walk_bits (l := PySem.Challenge.rw_curveyard_k42_answers_shown) (n := 63) (k := 4) (x := "_law_script") (CX := fun _ => L2.CX0) (sp := fun w => L2.spF _ 1 My.d_law) rfl (by decide) rfl ⟨rfl, by decide, by decide⟩ (fun w h Y => PySem.W.kIn_of Y) ?F (fun w H a ns hl hb hO hS => My.law_ok hS (My.law_true ns hl hb)) (fun _ _ _ _ _ z => z)
  case F =>
    intro w mg fa h KX G hmg
    refine' My.all_mk KX G hmg ?a0 ?l0 ?c0 ?k0 ?a1 ?l1 ?c1 ?k1 ?a2 ?l2 ?c2 ?k2 ?a3 ?l3 ?c3 ?k3 ?a4 ?l4 ?c4 ?k4 ?a5 ?l5 ?c5 ?k5 ?a6 ?l6 ?c6 ?k6 ?a7 ?l7 ?c7 ?k7 ?a8 ?l8 ?c8 ?k8 ?a9 ?l9 ?c9 ?k9 ?a10 ?l10 ?c10 ?k10 ?a11 ?l11 ?c11 ?k11 ?z_enumerate ?z_isinstance ?z_len ?z_list ?z_range ?z_str ?z_tuple
    (case a0 => k_is)
    (case l0 => k_is)
    (case c0 => k_is)
    (case k0 => k_is)
    (case a1 => k_is)
    (case l1 => k_is)
    (case c1 => k_is)
    (case k1 => k_is)
    (case a2 => k_is)
    (case l2 => k_is)
    (case c2 => k_is)
    (case k2 => k_is)
    (case a3 => k_is)
    (case l3 => k_is)
    (case c3 => k_is)
    (case k3 => k_is)
    (case a4 => k_is)
    (case l4 => k_is)
    (case c4 => k_is)
    (case k4 => k_is)
    (case a5 => k_is)
    (case l5 => k_is)
    (case c5 => k_is)
    (case k5 => k_is)
    (case a6 => k_is)
    (case l6 => k_is)
    (case c6 => k_is)
    (case k6 => k_is)
    (case a7 => k_is)
    (case l7 => k_is)
    (case c7 => k_is)
    (case k7 => k_is)
    (case a8 => k_is)
    (case l8 => k_is)
    (case c8 => k_is)
    (case k8 => k_is)
    (case a9 => k_is)
    (case l9 => k_is)
    (case c9 => k_is)
    (case k9 => k_is)
    (case a10 => k_is)
    (case l10 => k_is)
    (case c10 => k_is)
    (case k10 => k_is)
    (case a11 => k_is)
    (case l11 => k_is)
    (case c11 => k_is)
    (case k11 => k_is)
    (case z_enumerate => k_is)
    (case z_isinstance => k_is)
    (case z_len => k_is)
    (case z_list => k_is)
    (case z_range => k_is)
    (case z_str => k_is)
    (case z_tuple => k_is)



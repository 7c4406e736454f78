import PyProof.Rows.All
import OpenK.KLine
import KE.KItem
import OpenK.KTop
import Wide.Once
import Wide.FinOn
import Lean
import PyProof.EqAt
import PyProof.EqKinds
import PyProof.TupleCall
import PyProof.TupleKey
import PyProof.CodeObj
import KE.KIntText
import KE.IntTextLaws
import OpenK.KOwn
import KE.KIsAll
import PyProof.InstStoreFacts
import PyProof.RaisesMany
import PyProof.RulesAs
import KE.KTryMore
import PyProof.MaxThree
import PyProof.WalkInts
import KE.KRevIter
import PyProof.ListRange
import KE.RegMulBits
import PyProof.ReprRoads
import PyProof.ReprLen
import PyProof.Rows.SumAny
import PyProof.Rows.RuleN_abs
import Wide.Seal
import PyProof.FactsAll.bool_1
import PyProof.DictRoadsH
import PyProof.MinMaxWalk
import PyProof.Rows.CallKwBuiltin
import PyProof.ZipIter
import KE.KSortAsk
import KE.KSortTup
import KE.KLam
import PySem.Challenge.RW_curveyard_k24_stretches_covered
set_option Elab.async false
set_option Elab.async false
set_option linter.all false
set_option maxRecDepth 100000
set_option maxRecDepth 100000
namespace L2
open PySem PySem.Spec PyProof.Rows
noncomputable def defArgs (s : Stmt) : Arguments := match s with
  | .FunctionDef _ a _ _ _ _ _ _ _ _ => a
  | _ => { posonlyargs := [], args := [], vararg := none, kwonlyargs := [], kw_defaults := [], kwarg := none, defaults := [] }
noncomputable def defBody (s : Stmt) : List Stmt := match s with
  | .FunctionDef _ _ b _ _ _ _ _ _ _ => b
  | _ => []
noncomputable def defScope (s : Stmt) : Scope := match s with
  | .FunctionDef _ _ _ _ _ _ sc _ _ _ => sc
  | _ => { kind := .function, names := [], isGenerator := false, isCoroutine := false }
end L2
namespace My
open PySem L2
noncomputable def top (i : Nat) : Stmt := PySem.Challenge.pw_curveyard_k24_stretches_covered.main.body.getD i (.Pass ⟨0, 0, 0, 0⟩)
end My
namespace My
open PySem PySem.W L2 PyData
noncomputable def behind : Params → Frag := fun P =>
  (nat_lit 3, ⟨.type "dict", none, .dict #[⟨keyHash P "__name__", .str "__name__" 165, .str "law_curveyard_k24_stretches_covered" 213⟩, ⟨keyHash P "__doc__", .str "__doc__" 166, .none⟩, ⟨keyHash P "__package__", .str "__package__" 167, .none⟩, ⟨keyHash P "__loader__", .str "__loader__" 168, .builtin "__main__.__loader__#opaque"⟩, ⟨keyHash P "__spec__", .str "__spec__" 169, .none⟩, ⟨keyHash P "__annotations__", .str "__annotations__" 170, .ref 6⟩, ⟨keyHash P "__builtins__", .str "__builtins__" 171, .ref 4⟩, ⟨keyHash P "__file__", .str "__file__" 173, .str "/claim/cut.py" 172⟩, ⟨keyHash P "__cached__", .str "__cached__" 174, .none⟩, ⟨keyHash P "cover", .str "cover" 198, .ref 21⟩, ⟨keyHash P "space_ahead", .str "space_ahead" 206, .ref 28⟩, ⟨keyHash P "joined_from", .str "joined_from" 212, .ref 33⟩, ⟨keyHash P "_law_cell", .str "_law_cell" 222, .ref 40⟩, ⟨keyHash P "_law_mix", .str "_law_mix" 232, .ref 47⟩, ⟨keyHash P "_law_whole", .str "_law_whole" 239, .ref 54⟩, ⟨keyHash P "_law_row", .str "_law_row" 249, .ref 61⟩, ⟨keyHash P "_law_list", .str "_law_list" 263, .ref 68⟩, ⟨keyHash P "_law_pairs", .str "_law_pairs" 271, .ref 75⟩, ⟨keyHash P "_law_walked", .str "_law_walked" 283, .ref 82⟩, ⟨keyHash P "_law_good", .str "_law_good" 295, .ref 89⟩, ⟨keyHash P "law", .str "law" 306, .ref 96⟩] 21, #[]⟩) ::
  (nat_lit 4, ⟨.type "module", some builtinsNs, .plain, #[]⟩) ::
  (nat_lit 6, ⟨.type "dict", none, .dict #[] 0, #[]⟩) ::
  (nat_lit 20, ⟨.type "code", none, .fields #[.str "cover" 189, .str "cover" 190, .str "/claim/cut.py" 191, .int 2 0, .int 2 0, .int 0 0, .int 0 0, .int 3 0, .ref 15, .bool true, .int 181 0, .ref 16, .none, .ref 17, .ref 18, .ref 19, .int 196 0, .int 2 0, .str "/claim/cut.py" 197], #[]⟩) ::
  (nat_lit 21, ⟨.type "function", none, .func (fnOf "cover" "cover" (defArgs (top 1)) (defBody (top 1)) (defScope (top 1)) (.none) (.none) (.none) (.str "curveyard.stretches" 187) none (.ref 20) (.none)), #[]⟩) ::
  (nat_lit 27, ⟨.type "code", none, .fields #[.str "space_ahead" 199, .str "space_ahead" 200, .str "/claim/cut.py" 201, .int 5 0, .int 2 0, .int 0 0, .int 0 0, .int 3 0, .ref 22, .bool true, .int 181 0, .ref 23, .none, .ref 24, .ref 25, .ref 26, .int 204 0, .int 5 0, .str "/claim/cut.py" 205], #[]⟩) ::
  (nat_lit 28, ⟨.type "function", none, .func (fnOf "space_ahead" "space_ahead" (defArgs (top 2)) (defBody (top 2)) (defScope (top 2)) (.none) (.none) (.none) (.str "curveyard.stretches" 187) none (.ref 27) (.none)), #[]⟩) ::
  (nat_lit 32, ⟨.type "code", none, .fields #[.str "joined_from" 207, .str "joined_from" 208, .str "/claim/cut.py" 209, .int 7 0, .int 2 0, .int 0 0, .int 0 0, .int 3 0, .ref 29, .bool true, .int 181 0, .ref 30, .none, .none, .none, .ref 31, .int 210 0, .int 7 0, .str "/claim/cut.py" 211], #[]⟩) ::
  (nat_lit 33, ⟨.type "function", none, .func (fnOf "joined_from" "joined_from" (defArgs (top 3)) (defBody (top 3)) (defScope (top 3)) (.none) (.none) (.none) (.str "curveyard.stretches" 187) none (.ref 32) (.none)), #[]⟩) ::
  (nat_lit 39, ⟨.type "code", none, .fields #[.str "_law_cell" 215, .str "_law_cell" 216, .str "/claim/cut.py" 217, .int 13 0, .int 2 0, .int 0 0, .int 0 0, .int 3 0, .ref 34, .bool true, .int 181 0, .ref 35, .none, .ref 36, .ref 37, .ref 38, .int 220 0, .int 13 0, .str "/claim/cut.py" 221], #[]⟩) ::
  (nat_lit 40, ⟨.type "function", none, .func (fnOf "_law_cell" "_law_cell" (defArgs (top 5)) (defBody (top 5)) (defScope (top 5)) (.none) (.none) (.none) (.str "law_curveyard_k24_stretches_covered" 213) none (.ref 39) (.none)), #[]⟩) ::
  (nat_lit 46, ⟨.type "code", none, .fields #[.str "_law_mix" 223, .str "_law_mix" 224, .str "/claim/cut.py" 225, .int 17 0, .int 3 0, .int 0 0, .int 0 0, .int 3 0, .ref 41, .bool true, .int 181 0, .ref 42, .none, .ref 43, .ref 44, .ref 45, .int 230 0, .int 17 0, .str "/claim/cut.py" 231], #[]⟩) ::
  (nat_lit 47, ⟨.type "function", none, .func (fnOf "_law_mix" "_law_mix" (defArgs (top 6)) (defBody (top 6)) (defScope (top 6)) (.none) (.none) (.none) (.str "law_curveyard_k24_stretches_covered" 213) none (.ref 46) (.none)), #[]⟩) ::
  (nat_lit 53, ⟨.type "code", none, .fields #[.str "_law_whole" 233, .str "_law_whole" 234, .str "/claim/cut.py" 235, .int 20 0, .int 1 0, .int 0 0, .int 0 0, .int 3 0, .ref 48, .bool true, .int 181 0, .ref 49, .none, .ref 50, .ref 51, .ref 52, .int 237 0, .int 20 0, .str "/claim/cut.py" 238], #[]⟩) ::
  (nat_lit 54, ⟨.type "function", none, .func (fnOf "_law_whole" "_law_whole" (defArgs (top 7)) (defBody (top 7)) (defScope (top 7)) (.none) (.none) (.none) (.str "law_curveyard_k24_stretches_covered" 213) none (.ref 53) (.none)), #[]⟩) ::
  (nat_lit 60, ⟨.type "code", none, .fields #[.str "_law_row" 240, .str "_law_row" 241, .str "/claim/cut.py" 242, .int 22 0, .int 2 0, .int 0 0, .int 0 0, .int 3 0, .ref 55, .bool true, .int 181 0, .ref 56, .none, .ref 57, .ref 58, .ref 59, .int 247 0, .int 22 0, .str "/claim/cut.py" 248], #[]⟩) ::
  (nat_lit 61, ⟨.type "function", none, .func (fnOf "_law_row" "_law_row" (defArgs (top 8)) (defBody (top 8)) (defScope (top 8)) (.none) (.none) (.none) (.str "law_curveyard_k24_stretches_covered" 213) none (.ref 60) (.none)), #[]⟩) ::
  (nat_lit 67, ⟨.type "code", none, .fields #[.str "_law_list" 250, .str "_law_list" 251, .str "/claim/cut.py" 252, .int 26 0, .int 2 0, .int 0 0, .int 0 0, .int 3 0, .ref 62, .bool true, .int 181 0, .ref 63, .none, .ref 64, .ref 65, .ref 66, .int 261 0, .int 26 0, .str "/claim/cut.py" 262], #[]⟩) ::
  (nat_lit 68, ⟨.type "function", none, .func (fnOf "_law_list" "_law_list" (defArgs (top 9)) (defBody (top 9)) (defScope (top 9)) (.none) (.none) (.none) (.str "law_curveyard_k24_stretches_covered" 213) none (.ref 67) (.none)), #[]⟩) ::
  (nat_lit 74, ⟨.type "code", none, .fields #[.str "_law_pairs" 264, .str "_law_pairs" 265, .str "/claim/cut.py" 266, .int 36 0, .int 1 0, .int 0 0, .int 0 0, .int 3 0, .ref 69, .bool true, .int 181 0, .ref 70, .none, .ref 71, .ref 72, .ref 73, .int 269 0, .int 36 0, .str "/claim/cut.py" 270], #[]⟩) ::
  (nat_lit 75, ⟨.type "function", none, .func (fnOf "_law_pairs" "_law_pairs" (defArgs (top 10)) (defBody (top 10)) (defScope (top 10)) (.none) (.none) (.none) (.str "law_curveyard_k24_stretches_covered" 213) none (.ref 74) (.none)), #[]⟩) ::
  (nat_lit 81, ⟨.type "code", none, .fields #[.str "_law_walked" 272, .str "_law_walked" 273, .str "/claim/cut.py" 274, .int 43 0, .int 2 0, .int 0 0, .int 0 0, .int 3 0, .ref 76, .bool true, .int 181 0, .ref 77, .none, .ref 78, .ref 79, .ref 80, .int 281 0, .int 43 0, .str "/claim/cut.py" 282], #[]⟩) ::
  (nat_lit 82, ⟨.type "function", none, .func (fnOf "_law_walked" "_law_walked" (defArgs (top 11)) (defBody (top 11)) (defScope (top 11)) (.none) (.none) (.none) (.str "law_curveyard_k24_stretches_covered" 213) none (.ref 81) (.none)), #[]⟩) ::
  (nat_lit 88, ⟨.type "code", none, .fields #[.str "_law_good" 284, .str "_law_good" 285, .str "/claim/cut.py" 286, .int 61 0, .int 2 0, .int 0 0, .int 0 0, .int 3 0, .ref 83, .bool true, .int 181 0, .ref 84, .none, .ref 85, .ref 86, .ref 87, .int 293 0, .int 61 0, .str "/claim/cut.py" 294], #[]⟩) ::
  (nat_lit 89, ⟨.type "function", none, .func (fnOf "_law_good" "_law_good" (defArgs (top 12)) (defBody (top 12)) (defScope (top 12)) (.none) (.none) (.none) (.str "law_curveyard_k24_stretches_covered" 213) none (.ref 88) (.none)), #[]⟩) ::
  (nat_lit 95, ⟨.type "code", none, .fields #[.str "law" 296, .str "law" 297, .str "/claim/cut.py" 298, .int 80 0, .int 1 0, .int 0 0, .int 0 0, .int 3 0, .ref 90, .bool true, .int 181 0, .ref 91, .none, .ref 92, .ref 93, .ref 94, .int 304 0, .int 80 0, .str "/claim/cut.py" 305], #[]⟩) ::
  (nat_lit 96, ⟨.type "function", none, .func (fnOf "law" "law" (defArgs (top 13)) (defBody (top 13)) (defScope (top 13)) (.none) (.none) (.none) (.str "law_curveyard_k24_stretches_covered" 213) none (.ref 95) (.none)), #[]⟩) :: []
noncomputable abbrev behindT : Params → Frag := fun P => (nat_lit 16, tabObj #[]) :: behind P
theorem no_tab (P : Params) : (behind P).lookup (nat_lit 16) = Option.none := rfl
noncomputable def seenTop : Program := view PySem.Challenge.pw_curveyard_k24_stretches_covered [13]
noncomputable def loose : List Str := "cover" :: "space_ahead" :: "joined_from" :: "_law_cell" :: "_law_mix" :: "_law_whole" :: "_law_row" :: "_law_list" :: "_law_pairs" :: "_law_walked" :: "_law_good" :: []
noncomputable def spots : List Addr := nat_lit 16 :: nat_lit 3 :: nat_lit 4 :: nat_lit 6 :: nat_lit 20 :: nat_lit 21 :: nat_lit 27 :: nat_lit 28 :: nat_lit 32 :: nat_lit 33 :: nat_lit 39 :: nat_lit 40 :: nat_lit 46 :: nat_lit 47 :: nat_lit 53 :: nat_lit 54 :: nat_lit 60 :: nat_lit 61 :: nat_lit 67 :: nat_lit 68 :: nat_lit 74 :: nat_lit 75 :: nat_lit 81 :: nat_lit 82 :: nat_lit 88 :: nat_lit 89 :: nat_lit 95 :: nat_lit 96 :: []
theorem spots_ok (P : Params) : spots = (behindT P).map (fun x => x.1) := by kernel_rfl
noncomputable abbrev hook : Hook := kHook behindT spots spots_ok
noncomputable abbrev topOk (s : Shared) : Bool := xlAt seenTop [] s && recOk (RowW.records PySem.Challenge.rw_curveyard_k24_stretches_covered.row.toRowW) s
theorem top_seen (w : World) : (openEnds treeTable PySem.Challenge.rw_curveyard_k24_stretches_covered.row.prog w 918).map (fun s => openSeen seenTop loose (importedModules PySem.Challenge.rw_curveyard_k24_stretches_covered.row.prog.main.body) topOk true s) = some (openGood seenTop loose) := by kernel_rfl
theorem top_objs (w : World) : (openEnds treeTable PySem.Challenge.rw_curveyard_k24_stretches_covered.row.prog w 918).map hook.obs = some (hook.val w) := by kernel_rfl
theorem both_of {α β γ : Type} {x : Option α} {f : α → β} {g : α → γ} {a : β} {b : γ} (h1 : x.map f = some a) (h2 : x.map g = some b) : x.map (fun s => (f s, g s)) = some (a, b) := by
  cases x with
  | none => cases h1
  | some s => cases h1; cases h2; rfl
theorem top_run : LeftO PySem.Challenge.rw_curveyard_k24_stretches_covered.row.prog seenTop loose topOk hook.obs hook.val 918 := fun w => both_of (top_seen w) (top_objs w)
theorem said_row : PySem.Challenge.rw_curveyard_k24_stretches_covered.row.wellSaid = true := by kernel_rfl
theorem said_ok : PySem.W.OpenLaw.wellSaid PySem.Challenge.rw_curveyard_k24_stretches_covered = true := by
  unfold PySem.W.OpenLaw.wellSaid
  rw [said_row]
  kernel_rfl
end My
namespace L2
open PySem PySem.Spec PyProof.Rows

noncomputable abbrev Key := Sum Int Str
noncomputable def keyIs : Key → Value → Bool
  | .inl k, v => Value.isInt k v
  | .inr x, v => Value.isStrOf x v
noncomputable def keyH (w : World) : Key → Int
  | .inl k => hashInt k
  | .inr x => hashStr w x
theorem keyIs_shape : ∀ {k : Key} {v : Value}, keyIs k v = true → (∃ i t, k = Sum.inl i ∧ v = Value.int i t) ∨ (∃ x t, k = Sum.inr x ∧ v = Value.str x t)
  | .inl i, v, h => by
    obtain ⟨t, e⟩ := Value.isInt_shape (k := i) (v := v) h
    exact .inl ⟨i, t, rfl, e⟩
  | .inr x, v, h => by
    obtain ⟨t, e⟩ := Value.isStrOf_shape (x := x) (v := v) h
    exact .inr ⟨x, t, rfl, e⟩
theorem key_ll (a b : Int) : decide ((Sum.inl a : Key) = Sum.inl b) = (a == b) := by
  by_cases e : a = b
  · subst e; simp
  · have h : ¬ (Sum.inl a : Key) = Sum.inl b := fun q => e (Sum.inl.inj q)
    rw [decide_eq_false h]
    exact (beq_eq_false_iff_ne.mpr e).symm
theorem key_rr (a b : Str) : decide ((Sum.inr a : Key) = Sum.inr b) = decide (a = b) := by
  by_cases e : a = b
  · subst e; simp
  · have h : ¬ (Sum.inr a : Key) = Sum.inr b := fun q => e (Sum.inr.inj q)
    rw [decide_eq_false h, decide_eq_false e]
theorem key_lr (a : Int) (b : Str) : decide ((Sum.inl a : Key) = Sum.inr b) = false := decide_eq_false (fun q => nomatch q)
theorem key_rl (a : Str) (b : Int) : decide ((Sum.inr a : Key) = Sum.inl b) = false := decide_eq_false (fun q => nomatch q)

noncomputable def mixKind (prog : Program) (w : World) : PySem.KeyKind prog w Key where
  is := keyIs
  hash := keyH w
  inj := fun v a b ha hb => by
    rcases keyIs_shape ha with ⟨i, t, rfl, rfl⟩ | ⟨x, t, rfl, rfl⟩
    · rcases keyIs_shape hb with ⟨j, u, rfl, e⟩ | ⟨y, u, rfl, e⟩
      · injection e with e1 _; rw [e1]
      · exact nomatch e
    · rcases keyIs_shape hb with ⟨j, u, rfl, e⟩ | ⟨y, u, rfl, e⟩
      · exact nomatch e
      · injection e with e1 _; rw [e1]
  byValue := fun k v h => by
    rcases keyIs_shape h with ⟨i, t, rfl, rfl⟩ | ⟨x, t, rfl, rfl⟩ <;> rfl
  pyHash := fun hv h => by
    rcases keyIs_shape hv with ⟨i, t, rfl, rfl⟩ | ⟨x, t, rfl, rfl⟩
    · exact wpAny_pyHash_int h
    · exact wpAny_pyHash_str h
  eqBool := fun hu hv h => by
    rcases keyIs_shape hu with ⟨i, t, rfl, rfl⟩ | ⟨x, t, rfl, rfl⟩
    · rcases keyIs_shape hv with ⟨j, u, rfl, rfl⟩ | ⟨y, u, rfl, rfl⟩
      · rw [key_ll] at h; exact wpAny_eqBool_int h
      · rw [key_lr] at h; exact SeqAt.EqAt.int_str i t y u _ _ _ _ h
    · rcases keyIs_shape hv with ⟨j, u, rfl, rfl⟩ | ⟨y, u, rfl, rfl⟩
      · rw [key_rl] at h; exact SeqAt.EqAt.str_int x t j u _ _ _ _ h
      · rw [key_rr] at h; exact wpAny_eqBool_str h
  «strs» := fun k x t v h => by
    rcases keyIs_shape h with ⟨i, u, rfl, e⟩ | ⟨y, u, rfl, e⟩
    · exact nomatch e
    · injection e with e1 _
      subst e1
      cases v <;> rfl

end L2

namespace L2
open PySem PySem.Spec PyProof.Rows

inductive V where
  | non | bl (b : Bool) | int (i : Int) | str (x : Str) | byt (b : Array UInt8) | flt (b : UInt64) | ref (a : Addr) | ty (n : String)
  deriving DecidableEq

noncomputable def RelV : V → Value → Prop
  | .non, u => u = Value.none
  | .bl b, u => u = Value.bool b
  | .int i, u => ∃ t, u = Value.int i t
  | .str x, u => ∃ t, u = Value.str x t
  | .byt b, u => ∃ t, u = Value.bytes b t
  | .flt b, u => ∃ t, u = Value.float b t
  | .ref a, u => u = Value.ref a
  | .ty n, u => u = Value.type n

noncomputable abbrev Vals : List V → List Value → Prop := Paired RelV
theorem Vals.length {xs : List V} {us : List Value} (r : Vals xs us) : xs.length = us.length := Paired.length r
theorem Vals.get : ∀ {xs : List V} {us : List Value} {i : Nat} {x : V}, Vals xs us → xs[i]? = some x → ∃ u, us[i]? = some u ∧ RelV x u
  | _, _, _, _, .nil, e => by simp at e
  | _, _, 0, _, .cons r _, e => by simp at e; subst e; exact ⟨_, rfl, r⟩
  | _, _, i + 1, x, .cons _ t, e => by
    obtain ⟨u, h1, h2⟩ := Vals.get (i := i) (x := x) t (by simpa using e)
    exact ⟨u, by simpa using h1, h2⟩
theorem Vals.append : ∀ {xs ys : List V} {us ws : List Value}, Vals xs us → Vals ys ws → Vals (xs ++ ys) (us ++ ws)
  | _, _, _, _, .nil, s => s
  | _, _, _, _, .cons r t, s => .cons r (Vals.append t s)
theorem Vals.take : ∀ {xs : List V} {us : List Value} (n : Nat), Vals xs us → Vals (xs.take n) (us.take n)
  | _, _, 0, _ => .nil
  | _, _, _ + 1, .nil => .nil
  | _, _, n + 1, .cons r t => .cons r (Vals.take n t)
theorem Vals.drop : ∀ {xs : List V} {us : List Value} (n : Nat), Vals xs us → Vals (xs.drop n) (us.drop n)
  | _, _, 0, r => r
  | _, _, _ + 1, .nil => .nil
  | _, _, n + 1, .cons _ t => Vals.drop n t
noncomputable def RelO : Option V → Option Value → Prop
  | some v, some u => RelV v u
  | none, none => True
  | _, _ => False
noncomputable def KV {κ : Type} : List (κ × V) → List (κ × Value) → Prop := Paired fun (p : κ × V) (q : κ × Value) => p.1 = q.1 ∧ RelV p.2 q.2

noncomputable def kV : Key → V
  | .inl i => .int i
  | .inr x => .str x

inductive HO where
  /-- a list -/
  | lst (xs : List V)
  /-- a tuple (never changes) -/
  | tup (xs : List V)
  /-- a dict whose keys are ints and texts; one whose keys are tuples of ints and texts (the empty one is both) -/
  | dK (kvs : List (Key × V)) | dT (kvs : List (List Key × V))
  /-- a set of ints: its members, its size -/
  | set (S : Int → Bool) (n : Nat)
  /-- an instance of the class at C, its dict at dx, its attributes -/
  | ins (C dx : Addr) (fs : List (Str × V))
  /-- the dict of the instance at x -/
  | own (x : Addr)
  /-- the dict of an exception -/
  | xd (fs : List (Str × V))
  /-- a bound method, f of x -/
  | met (f x : Addr)
  /-- a range object lo, lo + 1, .. below hi -/
  | rng (lo hi : Int)
  /-- a thing that is known to the object (the script; a dict while a loop walks it): read, never written while it is so -/
  | frz (o : Obj) (u : HO)
  /-- a code object's table -/
  | tbl (ps : Array Value)
  /-- any other thing, by what is true of its one object (a def of one's own: SetO a S n := HO.ext fun h => ..) -/
  | ext (φ : Heap → Prop)

noncomputable abbrev Hp := Addr → Option HO
noncomputable def upd (H : Hp) (a : Addr) (o : HO) : Hp := fun b => if b = a then some o else H b
theorem upd_same {H : Hp} {a : Addr} {o : HO} : upd H a o a = some o := by unfold upd; rw [if_pos rfl]
theorem upd_ne {H : Hp} {a b : Addr} {o : HO} (h : b ≠ a) : upd H a o b = H b := by unfold upd; rw [if_neg h]
theorem ne_of_none {H : Hp} {a b : Addr} {o : HO} (h : H a = some o) (h' : H b = none) : a ≠ b := by
  intro e; subst e; rw [h] at h'; cases h'

section
variable (P : Program) (w : World)
noncomputable def ObjOk (H : Hp) (h : Heap) (a : Addr) : HO → Prop
  | .lst xs => xs.length ≤ sizeLine ∧ ∃ (its : List Value) (n : Nat), Vals xs its ∧ h.get? a = some { cls := .type "list", data := .seq its.toArray n }
  | .tup xs => xs.length ≤ sizeLine ∧ ∃ its : List Value, Vals xs its ∧ IsTup h a its.toArray
  | .dK kvs => kvs.length ≤ sizeLine ∧ (a == sysModules) = false ∧ ∃ vs, KV kvs vs ∧ h.DictOf (mixKind P w) a vs
  | .dT kvs => kvs.length ≤ sizeLine ∧ (a == sysModules) = false ∧ ∃ xs : List (List Key × Addr × Value),
      Paired (fun (p : List Key × V) (q : List Key × Addr × Value) => p.1 = q.1 ∧ H q.2.1 = some (.tup (p.1.map kV)) ∧ RelV p.2 q.2.2) kvs xs ∧
      ∃ o es ep, h.get? a = some o ∧ o.ExactDict ∧ o.data = .dict es ep ∧ es.toList = xs.map (entryOfKey (tupleKind (mixKind P w))) ∧ (xs.map (·.1)).Nodup
  | .set S n => h.SetOf (intKind P w) a S n
  | .ins C dx fs => H dx = some (.own a) ∧ fs.length ≤ 1000 ∧ dx ≠ a ∧ h.get? a = some (PySem.W.instObj C dx) ∧
      ∃ mA, h.Ns1 dx mA ∧ (∀ f, RelO (fs.lookup f) (mA f)) ∧ PySem.Within mA (fs.map (·.1))
  | .own _ => ∃ o, h.get? a = some o
  | .xd fs => ∃ mA, h.Ns1 a mA ∧ ∀ f, RelO (fs.lookup f) (mA f)
  | .rng lo hi => ∃ t u v, h.get? a = some { cls := .type "range", data := .fields #[.int lo t, .int hi u, .int 1 v] }
  | .frz o u => h.get? a = some o ∧ ObjOk H h a u
  | .tbl ps => h.get? a = some { cls := .none, data := .fields ps }
  | .met f x => h.get? a = some (PySem.W.methodObj (.ref f) (.ref x))
  | .ext φ => φ h ∧ (∃ o, h.get? a = some o) ∧ ∀ h1 h2 : Heap, φ h1 → (∀ o, h1.get? a = some o → h2.get? a = some o) → φ h2
noncomputable def HOk (H : Hp) (h : Heap) : Prop := ∀ a o, H a = some o → ObjOk P w H h a o
end

section
variable {P : Program} {w : World} {H H' : Hp} {h h' : Heap} {a : Addr} {o : HO}
theorem ObjOk.lt (x : ObjOk P w H h a o) : a < h.objs.size := by
  cases o with
  | lst xs => obtain ⟨_, _, _, _, e⟩ := x; exact Heap.lt_size e
  | tup xs => obtain ⟨_, _, _, p⟩ := x; exact p.lt
  | dK kvs => obtain ⟨_, _, _, _, o, _, _, e, _⟩ := x; exact Heap.lt_size e
  | dT kvs => obtain ⟨_, _, _, _, o, _, _, e, _⟩ := x; exact Heap.lt_size e
  | set S n => obtain ⟨o, _, _, _, e, _⟩ := x; exact Heap.lt_size e
  | ins C dx fs => obtain ⟨_, _, _, e, _⟩ := x; exact Heap.lt_size e
  | own y => obtain ⟨_, e⟩ := x; exact Heap.lt_size e
  | xd fs => obtain ⟨_, ⟨_, _, _, e, _⟩, _⟩ := x; exact Heap.lt_size e
  | rng lo hi => obtain ⟨_, _, _, e⟩ := x; exact Heap.lt_size e
  | frz ob u => obtain ⟨e, _⟩ := x; exact Heap.lt_size e
  | tbl ps => exact Heap.lt_size (show h.get? a = some _ from x)
  | met f y => exact Heap.lt_size (show h.get? a = some _ from x)
  | ext φ => obtain ⟨_, ⟨_, e⟩, _⟩ := x; exact Heap.lt_size e
theorem Paired.mapP {α β : Type} {F G : α → β → Prop} : ∀ {l₁ : List α} {l₂ : List β}, Paired F l₁ l₂ → (∀ a b, F a b → G a b) → Paired G l₁ l₂
  | _, _, .nil, _ => .nil
  | _, _, .cons r t, f => .cons (f _ _ r) (Paired.mapP t f)
theorem ObjOk.stay (x : ObjOk P w H h a o) (k : ∀ b u, (b = a ∨ H b = some (.own a)) → h.get? b = some u → h'.get? b = some u)
    (ho : ∀ b, H b = some (.own a) → H' b = some (.own a)) (ht : ∀ b xs, H b = some (.tup xs) → H' b = some (.tup xs)) : ObjOk P w H' h' a o := by
  induction o with
  | lst xs => obtain ⟨z, its, n, r, e⟩ := x; exact ⟨z, its, n, r, k _ _ (.inl rfl) e⟩
  | tup xs => obtain ⟨z, its, r, ob, e, c⟩ := x; exact ⟨z, its, r, ob, k _ _ (.inl rfl) e, c⟩
  | dK kvs => obtain ⟨z, y, vs, r, ob, es, ep, e, c⟩ := x; exact ⟨z, y, vs, r, ob, es, ep, k _ _ (.inl rfl) e, c⟩
  | dT kvs =>
    obtain ⟨z, y, xs, r, ob, es, ep, e, c⟩ := x
    exact ⟨z, y, xs, Paired.mapP r fun p q z => ⟨z.1, ht _ _ z.2.1, z.2.2⟩, ob, es, ep, k _ _ (.inl rfl) e, c⟩
  | set S n => obtain ⟨ob, es, ep, t, e, c⟩ := x; exact ⟨ob, es, ep, t, k _ _ (.inl rfl) e, c⟩
  | ins C dx fs =>
    obtain ⟨d, z, ne, e, mA, ⟨od, es, ep, e2, c⟩, r⟩ := x
    exact ⟨ho _ d, z, ne, k _ _ (.inl rfl) e, mA, ⟨od, es, ep, k _ _ (.inr d) e2, c⟩, r⟩
  | own y => obtain ⟨ob, e⟩ := x; exact ⟨ob, k _ _ (.inl rfl) e⟩
  | xd fs => obtain ⟨mA, ⟨od, es, ep, e, c⟩, r⟩ := x; exact ⟨mA, ⟨od, es, ep, k _ _ (.inl rfl) e, c⟩, r⟩
  | rng lo hi => obtain ⟨t, u, v, e⟩ := x; exact ⟨t, u, v, k _ _ (.inl rfl) e⟩
  | frz ob u ih => obtain ⟨e, q⟩ := x; exact ⟨k _ _ (.inl rfl) e, ih q⟩
  | tbl ps =>
    have e : h.get? a = some { cls := .none, data := .fields ps } := x
    show h'.get? a = some { cls := .none, data := .fields ps }
    exact k a _ (.inl rfl) e
  | met f y =>
    have e : h.get? a = some (PySem.W.methodObj (.ref f) (.ref y)) := x
    show h'.get? a = some (PySem.W.methodObj (.ref f) (.ref y))
    exact k a _ (.inl rfl) e
  | ext φ => obtain ⟨p, ⟨o, e⟩, st⟩ := x; exact ⟨st _ _ p fun o q => k _ _ (.inl rfl) q, ⟨o, k _ _ (.inl rfl) e⟩, st⟩
theorem HOk.lt (x : HOk P w H h) (e : H a = some o) : a < h.objs.size := (x a o e).lt
theorem HOk.fresh (x : HOk P w H h) (e : h.objs.size ≤ a) : H a = none := by
  cases q : H a with
  | none => rfl
  | some u => exact absurd (Nat.lt_of_lt_of_le (x.lt q) e) (Nat.lt_irrefl _)
theorem HOk.kept (x : HOk P w H h) (k : ∀ b u, h.get? b = some u → h'.get? b = some u) : HOk P w H h' := fun a o e =>
  (x a o e).stay (fun b u _ q => k b u q) (fun _ q => q) fun _ _ q => q
theorem HOk.laid (x : HOk P w H h) (k : ∀ b u, h.get? b = some u → h'.get? b = some u) (hp : h.objs.size ≤ a) (new : ObjOk P w (upd H a o) h' a o) : HOk P w (upd H a o) h' := fun b u e => by
  have hn := x.fresh hp
  by_cases hb : b = a
  · subst hb; rw [upd_same] at e; cases e; exact new
  · rw [upd_ne hb] at e
    exact (x b u e).stay (fun c v _ q => k c v q) (fun c q => by rw [upd_ne (ne_of_none q hn)]; exact q) fun c xs q => by rw [upd_ne (ne_of_none q hn)]; exact q
end

noncomputable def Rd (H : Hp) (a : Addr) (u : HO) : Prop := H a = some u ∨ ∃ o, H a = some (.frz o u)
theorem Rd.ok {P : Program} {w : World} {H : Hp} {h : Heap} {a : Addr} {u : HO} (r : Rd H a u) (x : HOk P w H h) : ObjOk P w H h a u := by
  rcases r with r | ⟨o, r⟩
  · exact x a u r
  · obtain ⟨_, q⟩ := x a _ r
    exact q
noncomputable def Mut : Option HO → Prop
  | some (.lst _) => True
  | some (.dK _) => True
  | some (.dT _) => True
  | some (.set _ _) => True
  | some (.ins _ _ _) => True
  | some (.ext _) => True
  | _ => False
section
variable {P : Program} {w : World} {H : Hp} {h h' : Heap} {x e : Addr} {o' : HO}
theorem HOk.write (ok : HOk P w H h) (mu : Mut (H x)) (he : e = x ∨ H e = some (.own x)) (k : ∀ b u, b ≠ e → h.get? b = some u → h'.get? b = some u) (heo : ∃ u, h'.get? e = some u)
    (new : ObjOk P w (upd H x o') h' x o') : HOk P w (upd H x o') h' := fun b u q => by
  have nown : ∀ c y, H c = some (.own y) → c ≠ x := fun c y r z => by subst z; rw [r] at mu; exact mu
  have ntup : ∀ c xs, H c = some (.tup xs) → c ≠ x := fun c xs r z => by subst z; rw [r] at mu; exact mu
  by_cases hb : b = x
  · subst hb; rw [upd_same] at q; cases q; exact new
  · rw [upd_ne hb] at q
    by_cases hbe : b = e
    · have q' : H b = some (.own x) := by
        rcases he with z | z
        · exact absurd (hbe.trans z) hb
        · rw [hbe]; exact z
      rw [q] at q'; cases q'
      obtain ⟨v, hv⟩ := heo
      exact ⟨v, by rw [hbe]; exact hv⟩
    · refine (ok b u q).stay (fun c v hc r => k c v ?_ r) (fun c r => by rw [upd_ne (nown c b r)]; exact r) fun c xs r => by rw [upd_ne (ntup c xs r)]; exact r
      rcases hc with rfl | hc
      · exact hbe
      · rintro rfl
        rcases he with z | z
        · exact nown c b hc z
        · rw [hc] at z; cases z; exact hb rfl
end

structure Un (fs ex : List Addr) (H H' : Hp) (h h' : Heap) : Prop where
  keep : ∀ b o, h.get? b = some o → H b = none → b ∉ fs → b ∉ ex → h'.get? b = some o
  slot : ∀ b o, h.get? b = some o → H b = none → b ∈ fs → b ∉ ex → ∃ sl, h'.get? b = some { o with slots := sl }
  free : ∀ b o, h.get? b = some o → H b = none → b ∉ ex → H' b = none
  there : ∀ b o, h.get? b = some o → b ∉ ex → ∃ o', h'.get? b = some o'
  tups : ∀ b xs, H b = some (.tup xs) → H' b = some (.tup xs)
  frzs : ∀ b o u, H b = some (.frz o u) → H' b = some (.frz o u)
  tbls : ∀ b ps, H b = some (.tbl ps) → ∃ more, H' b = some (.tbl (ps ++ more))
section
variable {fs fs' ex ex' : List Addr} {H H1 H2 : Hp} {h h1 h2 h' : Heap} {a x e : Addr} {o : HO}
theorem Un.any (u : Un fs ex H H1 h h1) {b : Addr} {ob : Obj} (q : h.get? b = some ob) (n : H b = none) (hx : b ∉ ex) : ∃ sl, h1.get? b = some { ob with slots := sl } := by
  by_cases hb : b ∈ fs
  · exact u.slot b ob q n hb hx
  · exact ⟨ob.slots, u.keep b ob q n hb hx⟩
theorem Un.trans (a : Un fs ex H H1 h h1) (b : Un fs ex H1 H2 h1 h2) : Un fs ex H H2 h h2 where
  keep := fun c ob q n hc hx => b.keep c ob (a.keep c ob q n hc hx) (a.free c ob q n hx) hc hx
  slot := fun c ob q n hc hx => by
    obtain ⟨sl, e1⟩ := a.slot c ob q n hc hx
    obtain ⟨sl', e2⟩ := b.slot c _ e1 (a.free c ob q n hx) hc hx
    exact ⟨sl', e2⟩
  free := fun c ob q n hx => by
    obtain ⟨o', e1⟩ := a.there c ob q hx
    exact b.free c o' e1 (a.free c ob q n hx) hx
  there := fun c ob q hx => by
    obtain ⟨o', e1⟩ := a.there c ob q hx
    exact b.there c o' e1 hx
  tups := fun c xs q => b.tups c xs (a.tups c xs q)
  frzs := fun c ob xs q => b.frzs c ob xs (a.frzs c ob xs q)
  tbls := fun c ps q => by
    obtain ⟨m1, e1⟩ := a.tbls c ps q
    obtain ⟨m2, e2⟩ := b.tbls c _ e1
    exact ⟨m1 ++ m2, by rw [e2, Array.append_assoc]⟩
theorem Un.kept (k : ∀ b u, h.get? b = some u → h'.get? b = some u) : Un fs ex H H h h' :=
  ⟨fun b ob q _ _ _ => k b ob q, fun b ob q _ _ _ => ⟨ob.slots, k b ob q⟩, fun _ _ _ n _ => n, fun b ob q _ => ⟨ob, k b ob q⟩, fun _ _ q => q, fun _ _ _ q => q, fun _ ps q => ⟨#[], by rw [q]; simp⟩⟩
theorem Un.refl : Un fs ex H H h h := Un.kept fun _ _ q => q
theorem Un.laid (k : ∀ b u, h.get? b = some u → h'.get? b = some u) (hp : h.objs.size ≤ a) (hn : H a = none) : Un fs ex H (upd H a o) h h' where
  keep := fun b u q _ _ _ => k b u q
  slot := fun b u q _ _ _ => ⟨u.slots, k b u q⟩
  free := fun b u q n _ => by rw [upd_ne (Nat.ne_of_lt (Nat.lt_of_lt_of_le (Heap.lt_size q) hp))]; exact n
  there := fun b u q _ => ⟨u, k b u q⟩
  tups := fun b xs q => by rw [upd_ne (ne_of_none q hn)]; exact q
  frzs := fun b u xs q => by rw [upd_ne (ne_of_none q hn)]; exact q
  tbls := fun b ps q => ⟨#[], by rw [upd_ne (ne_of_none q hn), q]; simp⟩
theorem Un.write (mu : Mut (H x)) (he : e = x ∨ H e = some (.own x)) (k : ∀ b u, b ≠ e → h.get? b = some u → h'.get? b = some u) (heo : ∃ u, h'.get? e = some u) : Un fs ex H (upd H x o) h h' := by
  have hx : ∀ b, H b = none → b ≠ x := fun b n z => by subst z; rw [n] at mu; exact mu
  have hb : ∀ b, H b = none → b ≠ e := fun b n z => by
    subst z
    rcases he with r | r
    · exact hx b n r
    · rw [n] at r; cases r
  have hm : ∀ b u, H b = some u → ¬ Mut (some u) → b ≠ x := fun b u q nm z => by subst z; rw [q] at mu; exact nm mu
  refine ⟨fun b u q n _ _ => k b u (hb b n) q, fun b u q n _ _ => ⟨u.slots, k b u (hb b n) q⟩, fun b u q n _ => by rw [upd_ne (hx b n)]; exact n, fun b u q _ => ?_,
    fun b xs q => by rw [upd_ne (hm b _ q fun z => z)]; exact q, fun b u xs q => by rw [upd_ne (hm b _ q fun z => z)]; exact q, fun b ps q => ⟨#[], by rw [upd_ne (hm b _ q fun z => z), q]; simp⟩⟩
  by_cases hbe : b = e
  · subst hbe; exact heo
  · exact ⟨u, k b u hbe q⟩
end

noncomputable def trk (h : Heap) (H : Hp) : List Addr := (List.range h.objs.size).filter fun a => (H a).isSome
noncomputable def hidT (h : Heap) (H : Hp) : Heap := PySem.W.hideAll h (trk h H)
theorem hidT_size (h : Heap) (H : Hp) : (hidT h H).objs.size = h.objs.size := PySem.W.hideAll_size _ _
theorem hidT_get {h : Heap} {H : Hp} {b : Addr} {o : Obj} (e : h.get? b = some o) (n : H b = none) : (hidT h H).get? b = some o :=
  PySem.W.hideAll_get _ e fun hm => by
    have q : (H b).isSome = true := (List.mem_filter.mp hm).2
    rw [n] at q; simp at q
theorem of_hidT {h : Heap} {H : Hp} {b : Addr} {o : Obj} (e : (hidT h H).get? b = some o) : h.get? b = some o ∧ H b = none := by
  have e' : h.get? b = some o := PySem.W.of_hideAll (trk h H) e
  refine ⟨e', ?_⟩
  cases q : H b with
  | none => rfl
  | some x =>
    have hm : b ∈ trk h H := List.mem_filter.mpr ⟨List.mem_range.mpr (Heap.lt_size e'), by simp [q]⟩
    have z : (hidT h H).get? b = none := PySem.W.hideAll_none (trk h H) hm
    rw [z] at e; cases e

noncomputable def allNews (g h : Heap) (L : Addr) : List (Addr × Obj) := (List.range h.objs.size).filterMap fun a => if a = L ∨ (g.get? a).isSome = true then none else (h.get? a).map fun o => (a, o)
noncomputable def rest (g h : Heap) (L d : Addr) : List (Addr × Obj) := (allNews g h L).filter fun p => decide (p.1 ≠ d)
end L2

namespace L2
open PySem PySem.Spec PyProof.Rows

structure Mod (K : PySem.W.Frag) (mg : Str → Option Value) (base : Heap) : Prop where
  kin : K.In base
  glob : base.Ns mainGlobals mg
  blt : ∃ mb, base.Ns builtinsNs mb ∧ ∀ x : Str, x ≠ "__name__" → mb x = bootBuiltins x
  nolimit : base.NoLimit

/-- the context: a def's body (or a comprehension's block) running. base: fixed through the whole law; s₀, H₀: the entry; outer: the frames whose slots others may change (a def's callers); stack: all frames that run;
   ex: iterators that were made ahead of the entry and are walked here (a comprehension's); fn: the names whose cells were made at the entry (a def: all; a comprehension's block: its own); calm: not within an except suite; pn: pins that every state bears; xe: what is wanted of an exception that leaves the code -/
structure Cx where
  prog : Program
  w : World
  K : PySem.W.Frag
  mg : Str → Option Value
  base : Heap
  A : Around
  N : List Str
  s₀ : Shared
  H₀ : Hp
  env : Env
  outer : List Env
  stack : List Env
  ex : List Addr
  fn : Str → Bool
  calm : Bool
  pn : List (Addr × Obj)
  xe : Value → Shared → Prop
noncomputable def frs (l : List Env) : List Addr := l.filterMap (·.frame)
noncomputable abbrev Cx.fs (X : Cx) : List Addr := frs X.outer

noncomputable def Vis (sc : Scope) (x : Str) : Prop := sc.names.lookup x = some .local ∨ sc.names.lookup x = some .cell ∨ sc.names.lookup x = some .free
noncomputable def Loc (sc : Scope) (x : Str) : Prop := sc.names.lookup x = some .local ∨ sc.names.lookup x = some .cell
noncomputable def Look (env : Env) (h : Heap) (m : Str → Option Value) (x : Str) (u : Value) : Prop :=
  (env.kindOf x = some .local ∧ m x = some u) ∨ ((env.kindOf x = some .cell ∨ env.kindOf x = some .free) ∧ ∃ c, env.cells.lookup x = some c ∧ h.IsCell c (some u))

structure Cx.Ok (X : Cx) : Prop where
  mod : Mod X.K X.mg X.base
  kind : X.env.scope.kind = .function
  glob : X.env.globals = mainGlobals
  blt : X.env.builtins = builtinsNs
  above : X.s₀.heap.objs.size ≤ X.env.locals
  inj : ∀ x y c, X.env.cells.lookup x = some c → X.env.cells.lookup y = some c → x = y
  has : ∀ x, (X.env.kindOf x = some .cell ∨ X.env.kindOf x = some .free) → ∃ c, X.env.cells.lookup x = some c
  cab : ∀ x c, X.fn x = true → X.env.cells.lookup x = some c → X.s₀.heap.objs.size ≤ c
  hd : X.calm = true → X.A.handled = none
  frames : X.A.frames = some X.stack
  stk : X.stack = X.outer ∨ (X.stack = X.env :: X.outer ∧ X.env.frame = some X.env.locals)
  exf : ∀ b ∈ X.ex, b ≠ X.env.locals ∧ ∀ x c, X.env.cells.lookup x = some c → c ≠ b
  bs : ∀ b o, X.base.get? b = some o → X.s₀.heap.get? b = some o ∧ X.H₀ b = none
  bsz : X.base.objs.size ≤ X.s₀.heap.objs.size
  noex : ∀ b o, X.base.get? b = some o → b ∉ X.ex
  exfs : ∀ b ∈ X.ex, b ∉ X.fs
  funs : X.s₀.heap.FunFrames X.base X.outer
  frf : ∀ b ∈ X.fs, X.H₀ b = none

structure Inv (X : Cx) (pins : List (Addr × Obj)) (σ : List (Option V)) (H : Hp) (s : Shared) : Prop where
  ok : X.Ok
  os : s.os = X.s₀.os
  bare : AllBare s.gens
  base : Un X.fs X.ex X.H₀ H X.s₀.heap s.heap
  loc : ∃ m, s.heap.Ns X.env.locals m ∧ ∀ (i : Nat) (x : Str) (v : V), X.N[i]? = some x → σ[i]? = some (some v) → Vis X.env.scope x → ∃ u, RelV v u ∧ Look X.env s.heap m x u
  cell : ∀ x c, X.env.cells.lookup x = some c → ∃ v, s.heap.IsCell c v
  free : H X.env.locals = none
  freeC : ∀ x c, X.env.cells.lookup x = some c → H c = none
  pin : ∀ p ∈ X.pn ++ pins, s.heap.get? p.1 = some p.2 ∧ H p.1 = none ∧ p.1 ≠ X.env.locals ∧ p.1 ∉ X.fs ∧ ∀ v, p.2.data ≠ .cell v
  hok : HOk X.prog X.w H s.heap
  len : σ.length = X.N.length

section
variable {X : Cx} {pins : List (Addr × Obj)} {σ : List (Option V)} {H H' : Hp} {s : Shared} {h' : Heap}

theorem Cx.Ok.nofr (ok : X.Ok) {b : Addr} {o : Obj} (e : X.base.get? b = some o) : b ∉ X.fs := fun hb => by
  have := (ok.funs.mem hb).1
  rw [e] at this; cases this
theorem Inv.bs (I : Inv X pins σ H s) : ∀ b o, X.base.get? b = some o → s.heap.get? b = some o ∧ H b = none := fun b o e =>
  ⟨I.base.keep b o (I.ok.bs b o e).1 (I.ok.bs b o e).2 (I.ok.nofr e) (I.ok.noex b o e), I.base.free b o (I.ok.bs b o e).1 (I.ok.bs b o e).2 (I.ok.noex b o e)⟩
theorem Inv.bk (I : Inv X pins σ H s) : ∀ b o, X.base.get? b = some o → s.heap.get? b = some o := fun b o e => (I.bs b o e).1
theorem Inv.mod (I : Inv X pins σ H s) : Mod X.K X.mg X.base := I.ok.mod
theorem Inv.kIn (I : Inv X pins σ H s) : X.K.In s.heap := I.ok.mod.kin.keeps I.bk
theorem Inv.lt (I : Inv X pins σ H s) : X.env.locals < s.heap.objs.size := let ⟨_, hn, _⟩ := I.loc; hn.lt
theorem Inv.sz (I : Inv X pins σ H s) : X.s₀.heap.objs.size ≤ s.heap.objs.size := Nat.le_trans I.ok.above (Nat.le_of_lt I.lt)
theorem Inv.nofs (I : Inv X pins σ H s) {a : Addr} (h : s.heap.objs.size ≤ a) : a ∉ X.fs := fun hb => by
  obtain ⟨_, o, ho, _⟩ := I.ok.funs.mem hb
  exact absurd (Nat.lt_of_lt_of_le (Heap.lt_size ho) (Nat.le_trans I.sz h)) (Nat.lt_irrefl _)
theorem Inv.cne (I : Inv X pins σ H s) : ∀ x c, X.env.cells.lookup x = some c → c ≠ X.env.locals := fun x c e z => by
  obtain ⟨v, o, ho, hd⟩ := I.cell x c e
  obtain ⟨m, ⟨o', es, ep, ho', hd', _⟩, _⟩ := I.loc
  rw [z, ho'] at ho; cases ho; rw [hd'] at hd; cases hd
theorem Inv.funs (I : Inv X pins σ H s) : s.heap.FunFrames X.base X.outer := by
  have all : ∀ (l : List Env), (∀ b ∈ frs l, b ∈ X.fs) → X.s₀.heap.FunFrames X.base l → s.heap.FunFrames X.base l := by
    intro l
    induction l with
    | nil => intro _ _; trivial
    | cons env r ih =>
      intro hs hl
      obtain ⟨hk, ⟨L, o, hf, hn, ho, hd⟩, hr⟩ := hl
      have hL : L ∈ X.fs := hs L (by unfold frs; rw [List.filterMap_cons, hf]; exact List.mem_cons_self)
      obtain ⟨sl, e⟩ := I.base.slot L o ho (I.ok.frf L hL) hL fun z => I.ok.exfs L z hL
      exact ⟨hk, ⟨L, _, hf, hn, e, hd⟩, ih (fun b hb => hs b (by unfold frs; rw [List.filterMap_cons, hf]; exact List.mem_cons_of_mem _ hb)) hr⟩
  exact all X.outer (fun _ hb => hb) I.ok.funs

theorem Inv.stack (I : Inv X pins σ H s) : s.heap.FunFrames X.base X.stack := by
  rcases I.ok.stk with e | ⟨e, hf⟩
  · rw [e]; exact I.funs
  · rw [e]
    obtain ⟨m, hn, _⟩ := I.loc
    refine .cons (by rw [I.ok.kind]; decide) hf hn ?_ I.funs
    exact Heap.get?_none_of_le (Nat.le_trans I.ok.bsz I.ok.above)
theorem Inv.stkSub (I : Inv X pins σ H s) : ∀ b ∈ frs X.stack, b ∈ X.env.locals :: X.fs := fun b hb => by
  rcases I.ok.stk with e | ⟨e, hf⟩
  · rw [e] at hb; exact List.mem_cons_of_mem _ hb
  · rw [e] at hb
    unfold frs at hb
    rw [List.filterMap_cons, hf] at hb
    exact hb
theorem Inv.stkFree (I : Inv X pins σ H s) : ∀ b ∈ frs X.stack, H b = none := fun b hb => by
  rcases List.mem_cons.mp (I.stkSub b hb) with e | hb
  · rw [e]; exact I.free
  · obtain ⟨_, o, ho, _⟩ := I.ok.funs.mem hb
    exact I.base.free b o ho (I.ok.frf b hb) fun z => I.ok.exfs b z hb

theorem Inv.step {g' : Array GenState} {t' : Nat} {d' : Drawn} {ch : List Addr} (I : Inv X pins σ H s)
    (hch : ∀ b ∈ ch, (b ∈ X.ex ∨ X.s₀.heap.objs.size ≤ b) ∧ b ≠ X.env.locals ∧ (∀ x c, X.env.cells.lookup x = some c → c ≠ b) ∧ ∀ p ∈ X.pn ++ pins, p.1 ≠ b)
    (keep : ∀ b o, b ≠ X.env.locals → b ∉ X.fs → b ∉ ch → s.heap.get? b = some o → H b = none → h'.get? b = some o)
    (slot : ∀ b o, b ≠ X.env.locals → b ∈ X.fs → b ∉ ch → s.heap.get? b = some o → H b = none → ∃ sl, h'.get? b = some { o with slots := sl }) (free : ∀ b o, b ∉ ch → s.heap.get? b = some o → H b = none → H' b = none)
    (there : ∀ b o, b ∉ ch → s.heap.get? b = some o → ∃ o', h'.get? b = some o')
    (tups : ∀ b xs, H b = some (.tup xs) → H' b = some (.tup xs)) (frzs : ∀ b o u, H b = some (.frz o u) → H' b = some (.frz o u)) (tbls : ∀ b ps, H b = some (.tbl ps) → ∃ more, H' b = some (.tbl (ps ++ more)))
    (ns : ∀ m, s.heap.Ns X.env.locals m → h'.Ns X.env.locals m) (hok : HOk X.prog X.w H' h') (hg : AllBare g') :
    Inv X pins σ H' { s with heap := h', gens := g', drawn := d', toks := t' } := by
  have neL : ∀ b o, X.s₀.heap.get? b = some o → b ≠ X.env.locals := fun b o e => Nat.ne_of_lt (Nat.lt_of_lt_of_le (Heap.lt_size e) I.ok.above)
  have neC : ∀ b o, X.s₀.heap.get? b = some o → b ∉ X.ex → b ∉ ch := fun b o e hx hb => by
    rcases (hch b hb).1 with z | z
    · exact hx z
    · exact absurd (Nat.lt_of_lt_of_le (Heap.lt_size e) z) (Nat.lt_irrefl _)
  have cellK : ∀ x c, X.env.cells.lookup x = some c → ∀ v, s.heap.IsCell c v → h'.IsCell c v := fun x c e v ⟨o, ho, hd⟩ => by
    have nch : c ∉ ch := fun z => (hch c z).2.2.1 x c e rfl
    by_cases hc : c ∈ X.fs
    · obtain ⟨sl, q⟩ := slot c o (I.cne x c e) hc nch ho (I.freeC x c e)
      exact ⟨_, q, hd⟩
    · exact ⟨o, keep c o (I.cne x c e) hc nch ho (I.freeC x c e), hd⟩
  refine ⟨I.ok, I.os, hg, ⟨fun b o e n hb hx => ?_, fun b o e n hb hx => ?_, fun b o e n hx => ?_, fun b o e hx => ?_, fun b xs e => tups b xs (I.base.tups b xs e), fun b o xs e => frzs b o xs (I.base.frzs b o xs e), fun b ps e => ?_⟩, ?_, fun x c e => ?_, ?_, fun x c e => ?_, fun p hp => ?_, hok, I.len⟩
  · exact keep b o (neL b o e) hb (neC b o e hx) (I.base.keep b o e n hb hx) (I.base.free b o e n hx)
  · obtain ⟨sl, e1⟩ := I.base.slot b o e n hb hx
    obtain ⟨sl', e2⟩ := slot b _ (neL b o e) hb (neC b o e hx) e1 (I.base.free b o e n hx)
    exact ⟨sl', e2⟩
  · obtain ⟨o', e1⟩ := I.base.there b o e hx
    exact free b o' (neC b o e hx) e1 (I.base.free b o e n hx)
  · obtain ⟨o', e1⟩ := I.base.there b o e hx
    exact there b o' (neC b o e hx) e1
  · obtain ⟨m1, e1⟩ := I.base.tbls b ps e
    obtain ⟨m2, e2⟩ := tbls b _ e1
    exact ⟨m1 ++ m2, by rw [e2, Array.append_assoc]⟩
  · obtain ⟨m, hn, hl⟩ := I.loc
    refine ⟨m, ns m hn, fun i x v e1 e2 e3 => ?_⟩
    obtain ⟨u, r, l⟩ := hl i x v e1 e2 e3
    refine ⟨u, r, ?_⟩
    rcases l with l | ⟨k, c, e, z⟩
    · exact .inl l
    · exact .inr ⟨k, c, e, cellK x c e _ z⟩
  · obtain ⟨v, z⟩ := I.cell x c e
    exact ⟨v, cellK x c e v z⟩
  · obtain ⟨m, ⟨o, _, _, ho, _⟩, _⟩ := I.loc
    exact free _ o (fun z => (hch _ z).2.1 rfl) ho I.free
  · obtain ⟨v, o, ho, hd⟩ := I.cell x c e
    exact free c o (fun z => (hch c z).2.2.1 x c e rfl) ho (I.freeC x c e)
  · obtain ⟨e, n, ne, nf, d⟩ := I.pin p hp
    have nch : p.1 ∉ ch := fun z => (hch p.1 z).2.2.2 p hp rfl
    exact ⟨keep p.1 p.2 ne nf nch e n, free p.1 p.2 nch e n, ne, nf, d⟩
theorem Inv.un {t' : Nat} (I : Inv X pins σ H s) (u : Un X.fs [] H H' s.heap h') (hok : HOk X.prog X.w H' h') : Inv X pins σ H' { s with heap := h', toks := t' } := by
  obtain ⟨m, ⟨o, es, ep, ho, r⟩, _⟩ := id I.loc
  obtain ⟨sl, hL⟩ := u.any ho I.free (by simp)
  exact I.step (g' := s.gens) (d' := s.drawn) (ch := []) (fun _ z => nomatch z) (fun b o _ hb _ e n => u.keep b o e n hb (by simp)) (fun b o _ hb _ e n => u.slot b o e n hb (by simp)) (fun b o _ e n => u.free b o e n (by simp)) (fun b o _ e => u.there b o e (by simp)) u.tups u.frzs u.tbls (fun m' hm => by
    obtain ⟨o', es', ep', ho', r'⟩ := hm
    rw [ho] at ho'; cases ho'
    exact ⟨_, es', ep', hL, r'⟩) hok I.bare
theorem Inv.call {g' : Array GenState} {t' : Nat} {d' : Drawn} {ch : List Addr} (I : Inv X pins σ H s) (u : Un (frs X.stack) ch H H' s.heap h') (hok : HOk X.prog X.w H' h') (hg : AllBare g')
    (hch : ∀ b ∈ ch, (b ∈ X.ex ∨ X.s₀.heap.objs.size ≤ b) ∧ b ≠ X.env.locals ∧ (∀ x c, X.env.cells.lookup x = some c → c ≠ b) ∧ ∀ p ∈ X.pn ++ pins, p.1 ≠ b) :
    Inv X pins σ H' { s with heap := h', gens := g', drawn := d', toks := t' } := by
  obtain ⟨m, ⟨o, es, ep, ho, r⟩, _⟩ := id I.loc
  obtain ⟨sl, hL⟩ := u.any ho I.free fun z => (hch _ z).2.1 rfl
  exact I.step (ch := ch) hch (fun b o hL hb hc e n => u.keep b o e n (fun z => (List.mem_cons.mp (I.stkSub b z)).elim hL hb) hc) (fun b o _ _ hc e n => u.any e n hc) (fun b o hc e n => u.free b o e n hc) (fun b o hc e => u.there b o e hc) u.tups u.frzs u.tbls (fun m' hm => by
    obtain ⟨o', es', ep', ho', r'⟩ := hm
    rw [ho] at ho'; cases ho'
    exact ⟨_, es', ep', hL, r'⟩) hok hg
theorem Inv.turned {t' : Nat} {it : Addr} (I : Inv X pins σ H s) (k : ∀ b o, b ≠ it → s.heap.get? b = some o → h'.get? b = some o) (hn : H it = none) (hL : it ≠ X.env.locals)
    (h1 : it ∈ X.ex ∨ X.s₀.heap.objs.size ≤ it) (h2 : ∀ x c, X.env.cells.lookup x = some c → c ≠ it) (h3 : ∀ p ∈ X.pn ++ pins, p.1 ≠ it) : Inv X pins σ H { s with heap := h', toks := t' } := by
  have nit : ∀ b u, H b = some u → b ≠ it := fun b u e z => by rw [z, hn] at e; cases e
  refine I.step (g' := s.gens) (d' := s.drawn) (ch := [it]) (fun b hb => ?_) (fun b o _ _ hc e _ => k b o (fun z => hc (by simp [z])) e) (fun b o _ _ hc e _ => ⟨o.slots, k b o (fun z => hc (by simp [z])) e⟩) (fun _ _ _ _ n => n)
    (fun b o hc e => ⟨o, k b o (fun z => hc (by simp [z])) e⟩) (fun _ _ e => e) (fun _ _ _ e => e) (fun b ps e => ⟨#[], by rw [e]; simp⟩) (fun m hm => ?_) (fun b u e => ?_) I.bare
  · have e : b = it := by simpa using hb
    subst e
    exact ⟨h1, hL, h2, h3⟩
  · obtain ⟨o, es, ep, ho, r⟩ := hm
    exact ⟨o, es, ep, k _ o (Ne.symm hL) ho, r⟩
  · refine (I.hok b u e).stay (fun c v hc q => k c v ?_ q) (fun _ q => q) fun _ _ q => q
    rcases hc with z | z
    · rw [z]; exact nit b u e
    · exact nit c _ z
theorem Inv.tok (I : Inv X pins σ H s) (t : Nat) : Inv X pins σ H { s with toks := t } := I.un (h' := s.heap) (t' := t) Un.refl I.hok
theorem Inv.kept {t' : Nat} (I : Inv X pins σ H s) (k : ∀ b u, s.heap.get? b = some u → h'.get? b = some u) : Inv X pins σ H { s with heap := h', toks := t' } := I.un (Un.kept k) (I.hok.kept k)
theorem Inv.laid {a : Addr} {o : HO} {t' : Nat} (I : Inv X pins σ H s) (k : ∀ b u, s.heap.get? b = some u → h'.get? b = some u) (hp : s.heap.objs.size ≤ a) (new : ObjOk X.prog X.w (upd H a o) h' a o) :
    Inv X pins σ (upd H a o) { s with heap := h', toks := t' } := I.un (Un.laid k hp (I.hok.fresh hp)) (I.hok.laid k hp new)
theorem Inv.write {x e : Addr} {o : HO} {t' : Nat} (I : Inv X pins σ H s) (mu : Mut (H x)) (he : e = x ∨ H e = some (.own x)) (k : ∀ b u, b ≠ e → s.heap.get? b = some u → h'.get? b = some u) (heo : ∃ u, h'.get? e = some u)
    (new : ObjOk X.prog X.w (upd H x o) h' x o) : Inv X pins σ (upd H x o) { s with heap := h', toks := t' } := I.un (Un.write mu he k heo) (I.hok.write mu he k heo new)
theorem Inv.pins_of {pins' : List (Addr × Obj)} (I : Inv X pins σ H s) (h : ∀ p ∈ pins', s.heap.get? p.1 = some p.2 ∧ H p.1 = none ∧ p.1 ≠ X.env.locals ∧ p.1 ∉ X.fs ∧ ∀ v, p.2.data ≠ .cell v) : Inv X pins' σ H s :=
  ⟨I.ok, I.os, I.bare, I.base, I.loc, I.cell, I.free, I.freeC, fun p hp => (List.mem_append.mp hp).elim (fun z => I.pin p (List.mem_append_left _ z)) (h p), I.hok, I.len⟩

theorem nodup_ix {N : List Str} (hN : N.Nodup) {i j : Nat} {x : Str} (a : N[i]? = some x) (b : N[j]? = some x) : i = j := by
  obtain ⟨h1, e1⟩ := List.getElem?_eq_some_iff.mp a
  obtain ⟨h2, e2⟩ := List.getElem?_eq_some_iff.mp b
  exact (List.getElem_inj hN).mp (e1.trans e2.symm)

theorem store_ok2 {M : Model} {A : Around} {E : Value → Shared → Prop} {i : Nat} {x : Str} {v : V} {u : Value} {Q : Unit → Shared → Prop} (I : Inv X pins σ H s) (hN : X.N.Nodup) (hi : X.N[i]? = some x) (hx : Loc X.env.scope x) (r : RelV v u)
    (h : ∀ s', Inv X pins (σ.set i (some v)) H s' → (∃ a, Heap.SameBut a s.heap s'.heap ∧ (a = X.env.locals ∨ X.env.cells.lookup x = some a)) → Q () s') (hf : X.fn x = true ∨ X.env.scope.names.lookup x = some .local := by first | exact .inl rfl | exact .inr rfl | assumption) : wpAny M A (storeName X.env x u) Q E s := by
  obtain ⟨m, hn, hl⟩ := id I.loc
  have hcls : (X.env.scope.kind == .class || (X.env.scope.kind == .module && X.env.locals != X.env.globals)) = false := by rw [I.ok.kind]; rfl
  have hiσ : i < σ.length := by rw [I.len]; exact (List.getElem?_eq_some_iff.mp hi).1
  have cne := I.cne
  have tracked : ∀ {a : Addr} {h' : Heap}, (∃ o, s.heap.get? a = some o ∧ H a = none) → Heap.SameBut a s.heap h' → HOk X.prog X.w H h' := fun {a h'} ha hs b ob e => by
    obtain ⟨_, _, hfree⟩ := ha
    refine (I.hok b ob e).stay (fun c w' hc q => (hs.2 c ?_).trans q) (fun _ q => q) fun _ _ q => q
    rintro rfl
    rcases hc with rfl | hc
    · rw [hfree] at e; cases e
    · rw [hfree] at hc; cases hc
  rcases hx with hk | hk
  · refine wpAny_storeName_local hk hn (fun h' hn' hs => ?_) hcls
    obtain ⟨oL, _, _, hoL, _⟩ := id hn
    refine h _ ⟨I.ok, I.os, I.bare, ⟨fun b o e n hb hx => ?_, fun b o e n hb hx => ?_, I.base.free, fun b o e hx => ?_, I.base.tups, I.base.frzs, I.base.tbls⟩, ⟨_, hn', fun j y v' e1 e2 e3 => ?_⟩, fun y c e => ?_, I.free, I.freeC, fun p hp => ?_, tracked ⟨oL, hoL, I.free⟩ hs, by simpa using I.len⟩ ⟨_, hs, .inl rfl⟩
    · exact (hs.2 b (Nat.ne_of_lt (Nat.lt_of_lt_of_le (Heap.lt_size e) I.ok.above))).trans (I.base.keep b o e n hb hx)
    · obtain ⟨sl, e1⟩ := I.base.slot b o e n hb hx
      exact ⟨sl, (hs.2 b (Nat.ne_of_lt (Nat.lt_of_lt_of_le (Heap.lt_size e) I.ok.above))).trans e1⟩
    · obtain ⟨o', e1⟩ := I.base.there b o e hx
      exact ⟨o', (hs.2 b (Nat.ne_of_lt (Nat.lt_of_lt_of_le (Heap.lt_size e) I.ok.above))).trans e1⟩
    · by_cases hj : j = i
      · subst hj
        rw [hi] at e1; cases e1
        rw [List.getElem?_set_self hiσ] at e2
        cases e2
        exact ⟨u, r, .inl ⟨hk, by simp⟩⟩
      · rw [List.getElem?_set_ne (Ne.symm hj)] at e2
        obtain ⟨u', r', q⟩ := hl j y v' e1 e2 e3
        refine ⟨u', r', ?_⟩
        rcases q with ⟨k, e⟩ | ⟨k, c, e, z⟩
        · refine .inl ⟨k, ?_⟩
          have : y ≠ x := fun e => hj (nodup_ix hN e1 (e ▸ hi))
          simp [this, e]
        · exact .inr ⟨k, c, e, z.sameBut hs (cne y c e)⟩
    · obtain ⟨w', z⟩ := I.cell y c e
      exact ⟨w', z.sameBut hs (cne y c e)⟩
    · obtain ⟨e, n, ne, nf, d⟩ := I.pin p hp
      exact ⟨(hs.2 p.1 ne).trans e, n, ne, nf, d⟩
  · have hfn : X.fn x = true := by
      rcases hf with z | z
      · exact z
      · rw [z] at hk; cases hk
    obtain ⟨c, hc⟩ := I.ok.has x (.inl hk)
    obtain ⟨w', z⟩ := I.cell x c hc
    refine wpAny_storeName_cell I.ok.kind hk hc z (fun h' hc' hs => ?_)
    obtain ⟨oc, hoc, hocd⟩ := id z
    refine h { s with heap := h' } ⟨I.ok, I.os, I.bare, ⟨fun b o e n hb hx => ?_, fun b o e n hb hx => ?_, I.base.free, fun b o e hx => ?_, I.base.tups, I.base.frzs, I.base.tbls⟩, ⟨m, hn.sameBut hs (Ne.symm (cne x c hc)), fun j y v' e1 e2 e3 => ?_⟩, fun y c' e => ?_, I.free, I.freeC, fun p hp => ?_, tracked ⟨oc, hoc, I.freeC x c hc⟩ hs, by simpa using I.len⟩ ⟨c, hs, .inr hc⟩
    · exact (hs.2 b (Nat.ne_of_lt (Nat.lt_of_lt_of_le (Heap.lt_size e) (I.ok.cab x c hfn hc)))).trans (I.base.keep b o e n hb hx)
    · obtain ⟨sl, e1⟩ := I.base.slot b o e n hb hx
      exact ⟨sl, (hs.2 b (Nat.ne_of_lt (Nat.lt_of_lt_of_le (Heap.lt_size e) (I.ok.cab x c hfn hc)))).trans e1⟩
    · obtain ⟨o', e1⟩ := I.base.there b o e hx
      exact ⟨o', (hs.2 b (Nat.ne_of_lt (Nat.lt_of_lt_of_le (Heap.lt_size e) (I.ok.cab x c hfn hc)))).trans e1⟩
    · by_cases hj : j = i
      · subst hj
        rw [hi] at e1; cases e1
        rw [List.getElem?_set_self hiσ] at e2
        cases e2
        exact ⟨u, r, .inr ⟨.inl hk, c, hc, hc'⟩⟩
      · rw [List.getElem?_set_ne (Ne.symm hj)] at e2
        obtain ⟨u', r', q⟩ := hl j y v' e1 e2 e3
        refine ⟨u', r', ?_⟩
        rcases q with q | ⟨k, c', e, z'⟩
        · exact .inl q
        · refine .inr ⟨k, c', e, z'.sameBut hs ?_⟩
          rintro rfl
          exact hj (nodup_ix hN e1 (I.ok.inj _ _ _ e hc ▸ hi))
    · by_cases hcc : c' = c
      · subst hcc; exact ⟨_, hc'⟩
      · obtain ⟨w2, z2⟩ := I.cell y c' e
        exact ⟨w2, z2.sameBut hs hcc⟩
    · obtain ⟨e, n, ne, nf, d⟩ := I.pin p hp
      refine ⟨(hs.2 p.1 ?_).trans e, n, ne, nf, d⟩
      intro q
      rw [q, hoc] at e
      have q' : oc = p.2 := Option.some.inj e
      exact d w' (by rw [← q']; exact hocd)
theorem store_ok {M : Model} {A : Around} {E : Value → Shared → Prop} {i : Nat} {x : Str} {v : V} {u : Value} {Q : Unit → Shared → Prop} (I : Inv X pins σ H s) (hN : X.N.Nodup) (hi : X.N[i]? = some x) (hx : Loc X.env.scope x) (r : RelV v u)
    (h : ∀ s', Inv X pins (σ.set i (some v)) H s' → Q () s') (hf : X.fn x = true ∨ X.env.scope.names.lookup x = some .local := by first | exact .inl rfl | exact .inr rfl | assumption) : wpAny M A (storeName X.env x u) Q E s :=
  store_ok2 I hN hi hx r (fun s' I' _ => h s' I') hf
theorem Inv.call' {s' : Shared} {ch : List Addr} (I : Inv X pins σ H s) (ho : s'.os = s.os) (u : Un (frs X.stack) ch H H' s.heap s'.heap) (hok : HOk X.prog X.w H' s'.heap) (hg : AllBare s'.gens)
    (hch : ∀ b ∈ ch, (b ∈ X.ex ∨ X.s₀.heap.objs.size ≤ b) ∧ b ≠ X.env.locals ∧ (∀ x c, X.env.cells.lookup x = some c → c ≠ b) ∧ ∀ p ∈ X.pn ++ pins, p.1 ≠ b) : Inv X pins σ H' s' := by
  obtain ⟨h', g', d', t', o'⟩ := s'
  have e : o' = s.os := ho
  subst e
  exact I.call (g' := g') (t' := t') (d' := d') u hok hg hch
end

noncomputable abbrev XK := Value → Option Addr → Hp → Prop
noncomputable abbrev St := List (Option V)
noncomputable abbrev VK := V → Hp → Prop
noncomputable abbrev TE := St → Hp → VK → Prop
noncomputable abbrev TT := St → Hp → (Bool → Hp → Prop) → Prop
noncomputable abbrev TA := St → Hp → (List V → Hp → Prop) → Prop
structure Ends where
  nx : St → Hp → Prop
  rt : VK
  bk : St → Hp → Prop := fun _ _ => False
  ct : St → Hp → Prop := fun _ _ => False
noncomputable abbrev TS := Ends → St → Hp → Prop

noncomputable def EP (X : Cx) (pins : List (Addr × Obj)) (σ : St) (Q : VK) (u : Value) (s' : Shared) : Prop := ∃ v H', Inv X pins σ H' s' ∧ RelV v u ∧ Q v H'
noncomputable def TP (X : Cx) (pins : List (Addr × Obj)) (σ : St) (Q : Bool → Hp → Prop) (b : Bool) (s' : Shared) : Prop := ∃ H', Inv X pins σ H' s' ∧ Q b H'
noncomputable def AP (X : Cx) (pins : List (Addr × Obj)) (σ : St) (Q : List V → Hp → Prop) (us : List Value) (s' : Shared) : Prop := ∃ vs H', Inv X pins σ H' s' ∧ Vals vs us ∧ Q vs H'
noncomputable def SP (X : Cx) (pins : List (Addr × Obj)) (D : Ends) (f : Flow) (s' : Shared) : Prop :=
  match f with
  | .next => ∃ σ' H', Inv X pins σ' H' s' ∧ D.nx σ' H'
  | .brk => ∃ σ' H', Inv X pins σ' H' s' ∧ D.bk σ' H'
  | .cont => ∃ σ' H', Inv X pins σ' H' s' ∧ D.ct σ' H'
  | .ret u => ∃ v σ' H', Inv X pins σ' H' s' ∧ RelV v u ∧ D.rt v H'

noncomputable def PE (X : Cx) (e : Expr) (t : TE) : Prop :=
  ∀ (pins : List (Addr × Obj)) (s : Shared) (σ : St) (H : Hp) (Q : VK), Inv X pins σ H s → t σ H Q → wpAny (model X.prog X.w) X.A (eval e X.env) (EP X pins σ Q) X.xe s
noncomputable def PT (X : Cx) (e : Expr) (t : TT) : Prop :=
  ∀ (pins : List (Addr × Obj)) (s : Shared) (σ : St) (H : Hp) (Q : Bool → Hp → Prop), Inv X pins σ H s → t σ H Q → wpAny (model X.prog X.w) X.A (isTrue e X.env (eval e X.env)) (TP X pins σ Q) X.xe s
noncomputable def PW (X : Cx) (e : Expr) (t : TT) : Prop :=
  ∀ (whole : Sem Value) (pins : List (Addr × Obj)) (s : Shared) (σ : St) (H : Hp) (Q : Bool → Hp → Prop), Inv X pins σ H s → t σ H Q → wpAny (model X.prog X.w) X.A (isTrue e X.env whole) (TP X pins σ Q) X.xe s
theorem PW.pt {X : Cx} {e : Expr} {t : TT} (h : PW X e t) : PT X e t := h _
noncomputable def PA (X : Cx) (es : List Expr) (t : TA) : Prop :=
  ∀ (pos : Pos) (pins : List (Addr × Obj)) (s : Shared) (σ : St) (H : Hp) (Q : List V → Hp → Prop), Inv X pins σ H s → t σ H Q → wpAny (model X.prog X.w) X.A (spliced (backTo pos (starEach es X.env))) (AP X pins σ Q) X.xe s
noncomputable def PS (X : Cx) (st : Stmt) (t : TS) : Prop :=
  ∀ (pins : List (Addr × Obj)) (s : Shared) (σ : St) (H : Hp) (D : Ends), Inv X pins σ H s → t D σ H → wpAny (model X.prog X.w) X.A (exec st X.env) (SP X pins D) X.xe s
noncomputable def PSs (X : Cx) (st : List Stmt) (t : TS) : Prop :=
  ∀ (pins : List (Addr × Obj)) (s : Shared) (σ : St) (H : Hp) (D : Ends), Inv X pins σ H s → t D σ H → wpAny (model X.prog X.w) X.A (execs st X.env) (SP X pins D) X.xe s
theorem thn {α : Type} {t : Sem α} {Q Q' : α → Shared → Prop} {M : Model} {A : Around} {E : Value → Shared → Prop} {s : Shared} (h : wpAny M A t Q E s) (hQ : ∀ a s, Q a s → Q' a s) : wpAny M A t Q' E s := wpAny_mono h hQ fun _ _ x => x
end L2

namespace L2
open PySem PySem.Spec PyProof.Rows
section
variable {X : Cx}

noncomputable def tVar (i : Nat) : TE := fun σ H Q => ∃ v, σ[i]? = some (some v) ∧ Q v H
noncomputable def tC (v : V) : TE := fun _ H Q => Q v H
theorem pe_var {i : Nat} {x : Str} {pos : Pos} (hN : X.N[i]? = some x) (hv : Vis X.env.scope x) (hd : (x == ("__debug__" : Str)) = false := by decide) (hcd : (x == ("__classdict__" : Str)) = false := by decide) : PE X (.Name x pos) (tVar i) := by
  intro pins s σ H Q I h
  obtain ⟨v, e, h⟩ := h
  obtain ⟨m, hn, hl⟩ := I.loc
  obtain ⟨u, r, l⟩ := hl i x v hN e hv
  have fin : EP X pins σ Q u s := ⟨v, H, I, r, h⟩
  rcases l with ⟨hk, hm⟩ | ⟨hk, c, hc, hcell⟩
  · exact wpAny_Name (wpAny_loadName_local I.ok.kind hk hn hm fin) hd
  · rcases hk with hk | hk
    · exact wpAny_Name (wpAny_loadName_cell I.ok.kind hk hc hcell fin) hd
    · exact wpAny_Name (wpAny_loadName_free I.ok.kind hk hc hcell fin hcd) hd
theorem pe_int {i j pos} : PE X (.Constant (.int i) j pos) (tC (.int i)) := fun _ _ _ H _ I h => wpAny_Constant_int ⟨.int i, H, I.tok _, ⟨_, rfl⟩, h⟩
theorem pe_bl {b j pos} : PE X (.Constant (.bool b) j pos) (tC (.bl b)) := fun _ _ _ H _ I h => Constant_bool ⟨.bl b, H, I, rfl, h⟩
theorem pe_non {j pos} : PE X (.Constant .none j pos) (tC .non) := fun _ _ _ H _ I h => Constant_none ⟨.non, H, I, rfl, h⟩
noncomputable def Gl (X : Cx) (x : Str) : Prop := X.env.kindOf x = some .globalImplicit
theorem ld_glob {E : Value → Shared → Prop} {pins : List (Addr × Obj)} {s : Shared} {σ : St} {H : Hp} {x : Str} {u : Value} {pos : Pos} {Q : Value → Shared → Prop} (I : Inv X pins σ H s) (hg : Gl X x) (hm : X.mg x = some u) (h : Q u s)
    (hd : (x == ("__debug__" : Str)) = false := by decide) : wpAny (model X.prog X.w) X.A (eval (.Name x pos) X.env) Q E s :=
  Calls.Name_function_global I.ok.kind hg (Calls.loadGlobal_global (by rw [I.ok.glob]; exact I.mod.glob.keeps I.bk) hm h) hd
theorem ld_blt {E : Value → Shared → Prop} {pins : List (Addr × Obj)} {s : Shared} {σ : St} {H : Hp} {x : Str} {u : Value} {pos : Pos} {Q : Value → Shared → Prop} (I : Inv X pins σ H s) (hg : Gl X x) (hm : X.mg x = none) (hv : bootBuiltins x = some u) (h : Q u s)
    (hn : x ≠ "__name__" := by decide) (hd : (x == ("__debug__" : Str)) = false := by decide) : wpAny (model X.prog X.w) X.A (eval (.Name x pos) X.env) Q E s := by
  obtain ⟨mb, h1, h2⟩ := I.mod.blt
  exact Calls.Name_function_global I.ok.kind hg (Calls.loadGlobal_builtin (by rw [I.ok.glob]; exact I.mod.glob.keeps I.bk) hm (by rw [I.ok.blt]; exact h1.keeps I.bk) ((h2 x hn).trans hv) h) hd
theorem pe_bltn {x : Str} {v : V} {u : Value} {pos : Pos} (hg : Gl X x) (hm : X.mg x = none) (hv : bootBuiltins x = some u) (r : RelV v u) (hn : x ≠ "__name__" := by decide) (hd : (x == ("__debug__" : Str)) = false := by decide) : PE X (.Name x pos) (tC v) :=
  fun _ _ _ H _ I h => ld_blt I hg hm hv ⟨v, H, I, r, h⟩ hn hd

variable {a b : Expr} {ta tb : TE} {pos : Pos}
noncomputable def tB (t : TE) : TT := fun σ H Q => t σ H fun x H1 => ∃ c, x = .bl c ∧ Q c H1
theorem pt_val {e : Expr} {t : TE} (h : PE X e t) (he : ∀ whole, isTrue e X.env whole = (do let v ← whole; standAt e.pos; holding [v] (truthy v)) := by intro _; rfl) : PT X e (tB t) := by
  intro pins s σ H Q I hw
  refine isTrue_plain (thn (h pins s σ H _ I hw) fun v s1 ⟨x, H1, I1, r1, q1⟩ => ?_) (he _)
  obtain ⟨d, rfl, q⟩ := q1
  cases r1
  exact wpAny_truthy_bool ⟨H1, I1, q⟩

variable {tA tB' : TT} {rest : List Expr}
noncomputable def tOr (t u : TT) : TT := fun σ H Q => t σ H fun c H1 => if c = true then Q true H1 else u σ H1 Q
noncomputable def tNot (t : TT) : TT := fun σ H Q => t σ H fun c H1 => Q (!c) H1
theorem pw_or1 (ha : PT X a tA) : PW X (.BoolOp .Or [a] pos) tA := by
  intro wh pins s σ H Q I h
  refine isTrue_or (thn (ha pins s σ H Q I h) fun c s1 e => ?_)
  cases c with
  | false => exact isTrue_or_nil e
  | true => exact e
theorem pw_or (ha : PT X a tA) (hb : PW X (.BoolOp .Or (b :: rest) pos) tB') : PW X (.BoolOp .Or (a :: b :: rest) pos) (tOr tA tB') := by
  intro wh pins s σ H Q I h
  refine isTrue_or (thn (ha pins s σ H _ I h) fun c s1 ⟨H1, I1, q1⟩ => ?_)
  cases c with
  | true => exact ⟨H1, I1, q1⟩
  | false => exact hb wh pins s1 σ H1 Q I1 q1
theorem pt_not (ha : PT X a tA) : PT X (.UnaryOp .Not a pos) (tNot tA) := by
  intro pins s σ H Q I h
  exact isTrue_not (ha pins s σ H (fun c H1 => Q (!c) H1) I h)
noncomputable def tAndV (ta tb : TE) : TE := fun σ H Q => ta σ H fun x H1 => ∃ c, x = .bl c ∧ if c = true then tb σ H1 Q else Q (.bl false) H1
noncomputable def tOrV (ta tb : TE) : TE := fun σ H Q => ta σ H fun x H1 => ∃ c, x = .bl c ∧ if c = true then Q (.bl true) H1 else tb σ H1 Q
noncomputable def tNotV (ta : TE) : TE := fun σ H Q => ta σ H fun x H1 => ∃ c, x = .bl c ∧ Q (.bl (!c)) H1
theorem pe_one {op} {t : TE} (h : PE X a t) : PE X (.BoolOp op [a] pos) t := fun pins s σ H Q I hw => BoolOp_one (h pins s σ H Q I hw)
theorem pe_and (ha : PE X a ta) (hb : PE X (.BoolOp .And (b :: rest) pos) tb) : PE X (.BoolOp .And (a :: b :: rest) pos) (tAndV ta tb) := by
  intro pins s σ H Q I h
  refine BoolOp_and (thn (ha pins s σ H _ I h) fun v s1 ⟨x, H1, I1, r1, q1⟩ => ?_)
  obtain ⟨c, rfl, q1⟩ := q1
  cases r1
  refine wpAny_truthy_bool ?_
  cases c with
  | true => exact hb pins s1 σ H1 Q I1 q1
  | false => exact ⟨.bl false, H1, I1, rfl, q1⟩
theorem pe_or (ha : PE X a ta) (hb : PE X (.BoolOp .Or (b :: rest) pos) tb) : PE X (.BoolOp .Or (a :: b :: rest) pos) (tOrV ta tb) := by
  intro pins s σ H Q I h
  refine BoolOp_or (thn (ha pins s σ H _ I h) fun v s1 ⟨x, H1, I1, r1, q1⟩ => ?_)
  obtain ⟨c, rfl, q1⟩ := q1
  cases r1
  refine wpAny_truthy_bool ?_
  cases c with
  | false => exact hb pins s1 σ H1 Q I1 q1
  | true => exact ⟨.bl true, H1, I1, rfl, q1⟩
theorem pe_not (ha : PE X a ta) : PE X (.UnaryOp .Not a pos) (tNotV ta) := by
  intro pins s σ H Q I h
  refine UnaryOp_ (thn (ha pins s σ H _ I h) fun v s1 ⟨x, H1, I1, r1, q1⟩ => ?_)
  obtain ⟨c, rfl, q1⟩ := q1
  cases r1
  exact not_of (wpAny_truthy_bool ⟨.bl (!c), H1, I1, rfl, q1⟩)
end
end L2

namespace L2
open PySem PySem.Spec PyProof.Rows

noncomputable def SqL (K : PySem.W.Frag) (H : Hp) (a : Addr) (xs : List V) : Prop :=
  Rd H a (.lst xs) ∨
    ∃ (o : Obj) (its : Array Value) (n : Nat), K.lookup a = some o ∧ o.cls = .type "list" ∧ o.dict = none ∧ o.data = .seq its n ∧ its.size ≤ sizeLine ∧ Vals xs its.toList
noncomputable def SqT (K : PySem.W.Frag) (H : Hp) (a : Addr) (xs : List V) : Prop :=
  Rd H a (.tup xs) ∨
    ∃ (o : Obj) (its : Array Value) (n : Nat), K.lookup a = some o ∧ o.cls = .type "tuple" ∧ o.data = .seq its n ∧ its.size ≤ sizeLine ∧ Vals xs its.toList
noncomputable def absV : Value → Option V
  | .none => some .non
  | .bool b => some (.bl b)
  | .int i _ => some (.int i)
  | .str x _ => some (.str x)
  | .bytes b _ => some (.byt b)
  | .float b _ => some (.flt b)
  | .ref a => some (.ref a)
  | .type n => some (.ty n)
  | _ => none
theorem RelV.abs {x : V} {u : Value} (r : RelV x u) : absV u = some x := by
  cases x with
  | non => cases r; rfl
  | bl _ => cases r; rfl
  | int _ => obtain ⟨t, rfl⟩ := r; rfl
  | str _ => obtain ⟨t, rfl⟩ := r; rfl
  | byt _ => obtain ⟨t, rfl⟩ := r; rfl
  | flt _ => obtain ⟨t, rfl⟩ := r; rfl
  | ref _ => cases r; rfl
  | ty _ => cases r; rfl
theorem RelV.inj {x y : V} {u : Value} (r : RelV x u) (q : RelV y u) : x = y := Option.some.inj (r.abs.symm.trans q.abs)
theorem Vals.inj : ∀ {xs ys : List V} {us : List Value}, Vals xs us → Vals ys us → xs = ys
  | _, _, _, .nil, .nil => rfl
  | _, _, _, .cons r t, .cons r' t' => by rw [r.inj r', Vals.inj t t']
section
variable {X : Cx} {pins : List (Addr × Obj)} {σ : St} {H : Hp} {s : Shared} {a : Addr} {xs ys : List V}
theorem SqL.of {K : PySem.W.Frag} (h : H a = some (.lst xs)) : SqL K H a xs := .inl (.inl h)
theorem SqT.of {K : PySem.W.Frag} (h : H a = some (.tup xs)) : SqT K H a xs := .inl (.inl h)
theorem Inv.list (I : Inv X pins σ H s) (h : SqL X.K H a xs) : ∃ its : List Value, Vals xs its ∧ PlainL s.heap a its.toArray ∧ xs.length ≤ sizeLine := by
  rcases h with h | ⟨o, its, n, hk, hc, hd, hs, hz, r⟩
  · obtain ⟨z, its, n, r, e⟩ := h.ok I.hok
    exact ⟨its, r, ⟨_, n, e, rfl, rfl, rfl⟩, z⟩
  · refine ⟨its.toList, r, ⟨o, n, I.kIn a o hk, hc, hd, by simpa using hs⟩, ?_⟩
    have e := r.length
    simp only [Array.length_toList] at e
    omega
theorem Inv.tuple (I : Inv X pins σ H s) (h : SqT X.K H a xs) : ∃ its : List Value, Vals xs its ∧ IsTup s.heap a its.toArray ∧ xs.length ≤ sizeLine := by
  rcases h with h | ⟨o, its, n, hk, hc, hs, hz, r⟩
  · obtain ⟨z, its, r, p⟩ := h.ok I.hok
    exact ⟨its, r, p, z⟩
  · refine ⟨its.toList, r, ⟨o, I.kIn a o hk, hc, n, by simpa using hs⟩, ?_⟩
    have e := r.length
    simp only [Array.length_toList] at e
    omega
theorem Inv.list_inj (I : Inv X pins σ H s) (h : SqL X.K H a xs) (h' : SqL X.K H a ys) : xs = ys := by
  obtain ⟨its, r, ⟨o, n, e, _, _, d⟩, _⟩ := I.list h
  obtain ⟨its', r', ⟨o', n', e', _, _, d'⟩, _⟩ := I.list h'
  rw [e] at e'; cases e'
  rw [d] at d'
  injection d' with d1 _
  have : its = its' := by simpa using congrArg Array.toList d1
  subst this
  exact r.inj r'
theorem Inv.tuple_inj (I : Inv X pins σ H s) (h : SqT X.K H a xs) (h' : SqT X.K H a ys) : xs = ys := by
  obtain ⟨its, r, ⟨o, e, _, n, d⟩, _⟩ := I.tuple h
  obtain ⟨its', r', ⟨o', e', _, n', d'⟩, _⟩ := I.tuple h'
  rw [e] at e'; cases e'
  rw [d] at d'
  injection d' with d1 _
  have : its = its' := by simpa using congrArg Array.toList d1
  subst this
  exact r.inj r'
end

noncomputable abbrev Cx.wish (X : Cx) (E : Value → Shared → Prop) : Cx := { X with xe := E }
noncomputable abbrev Cx.nox (X : Cx) : Cx := X.wish fun _ _ => False
theorem Cx.Ok.wish {X : Cx} (ok : X.Ok) (E : Value → Shared → Prop) : (X.wish E).Ok :=
  ⟨ok.mod, ok.kind, ok.glob, ok.blt, ok.above, ok.inj, ok.has, ok.cab, ok.hd, ok.frames, ok.stk, ok.exf, ok.bs, ok.bsz, ok.noex, ok.exfs, ok.funs, ok.frf⟩
theorem Cx.Ok.unwish {X : Cx} {E : Value → Shared → Prop} (ok : (X.wish E).Ok) : X.Ok :=
  ⟨ok.mod, ok.kind, ok.glob, ok.blt, ok.above, ok.inj, ok.has, ok.cab, ok.hd, ok.frames, ok.stk, ok.exf, ok.bs, ok.bsz, ok.noex, ok.exfs, ok.funs, ok.frf⟩
section
variable {X : Cx} {pins : List (Addr × Obj)} {σ : St} {H : Hp} {s : Shared} {E : Value → Shared → Prop}
theorem Inv.wish (I : Inv X pins σ H s) (E : Value → Shared → Prop) : Inv (X.wish E) pins σ H s := ⟨I.ok.wish E, I.os, I.bare, I.base, I.loc, I.cell, I.free, I.freeC, I.pin, I.hok, I.len⟩
theorem Inv.unwish (I : Inv (X.wish E) pins σ H s) : Inv X pins σ H s := ⟨I.ok.unwish, I.os, I.bare, I.base, I.loc, I.cell, I.free, I.freeC, I.pin, I.hok, I.len⟩
theorem SP.unwish {D : Ends} {f : Flow} {s' : Shared} (h : SP (X.wish E) pins D f s') : SP X pins D f s' := by
  cases f with
  | next => obtain ⟨σ', H', I, q⟩ := h; exact ⟨σ', H', I.unwish, q⟩
  | brk => obtain ⟨σ', H', I, q⟩ := h; exact ⟨σ', H', I.unwish, q⟩
  | cont => obtain ⟨σ', H', I, q⟩ := h; exact ⟨σ', H', I.unwish, q⟩
  | ret u => obtain ⟨v, σ', H', I, r, q⟩ := h; exact ⟨v, σ', H', I.unwish, r, q⟩
theorem PSs.nox {st : List Stmt} {t : TS} (h : PSs X.nox st t) : PSs X st t := fun pins s σ H D I hw =>
  wpAny_mono (h pins s σ H D (I.wish _) hw) (fun _ _ q => q.unwish) fun _ _ z => False.elim z
end

section
variable {X : Cx} {st : Stmt} {rest : List Stmt} {t u : TS} {e : Expr} {te : TE} {pos : Pos}
noncomputable def tNext : TS := fun D σ H => D.nx σ H
noncomputable def tSeq (t u : TS) : TS := fun D σ H => t { D with nx := u D } σ H
theorem pss_nil : PSs X [] tNext := fun _ _ σ H _ I h => wpAny_execs_nil ⟨σ, H, I, h⟩
theorem pss_cons (h1 : PS X st t) (h2 : PSs X rest u) : PSs X (st :: rest) (tSeq t u) := by
  intro pins s σ H D I h
  refine wpAny_execs_cons (thn (h1 pins s σ H { D with nx := u D } I h) fun f s1 q => ?_)
  cases f with
  | next =>
    obtain ⟨σ', H', I', q⟩ := q
    exact h2 pins s1 σ' H' D I' q
  | ret v => exact q
  | brk => exact q
  | cont => exact q
theorem pss_one (h1 : PS X st t) : PSs X [st] t := by
  intro pins s σ H D I h
  refine wpAny_execs_cons (thn (h1 pins s σ H D I h) fun f s1 q => ?_)
  cases f with
  | next => exact wpAny_execs_nil q
  | ret v => exact q
  | brk => exact q
  | cont => exact q
theorem Inv.quiet {pins : List (Addr × Obj)} {σ : St} {H : Hp} {s : Shared} (I : Inv X pins σ H s) : interactive X.env = false := by simp [interactive, I.ok.kind]
noncomputable def tDrop (te : TE) : TS := fun D σ H => te σ H fun _ H1 => D.nx σ H1
theorem ps_expr (he : PE X e te) (hs : swapsWith e none pos.line X.env = pure false := by rfl) : PS X (.Expr e pos) (tDrop te) := by
  intro pins s σ H D I h
  exact wpAny_Expr_any (thn (he pins s σ H _ I h) fun v s1 ⟨x, H1, I1, r1, q1⟩ => ⟨σ, H1, I1, q1⟩) I.quiet hs
noncomputable def tRet (te : TE) : TS := fun D σ H => te σ H D.rt
theorem ps_ret (he : PE X e te) : PS X (.Return (some e) pos) (tRet te) := by
  intro pins s σ H D I h
  exact wpAny_Return_some (thn (he pins s σ H _ I h) fun v s1 ⟨x, H1, I1, r1, q1⟩ => ⟨x, σ, H1, I1, r1, q1⟩)
noncomputable def tIfS (c : TT) (t u : TS) : TS := fun D σ H => c σ H fun b H1 => if b = true then t D σ H1 else u D σ H1
theorem ps_if {c : Expr} {a b : List Stmt} {tc : TT} (hc : PT X c tc) (ha : PSs X a t) (hb : PSs X b u) : PS X (.If c a b pos) (tIfS tc t u) := by
  intro pins s σ H D I h
  refine wpAny_If (thn (hc pins s σ H _ I h) fun d s1 ⟨H1, I1, q1⟩ => ?_)
  cases d with
  | true => exact ha pins s1 σ H1 D I1 q1
  | false => exact hb pins s1 σ H1 D I1 q1
end

noncomputable abbrev TG := V → St → Hp → (St → Hp → Prop) → Prop
noncomputable abbrev TGs := List V → St → Hp → (St → Hp → Prop) → Prop
noncomputable def PG (X : Cx) (target : Expr) (t : TG) : Prop :=
  ∀ (pins : List (Addr × Obj)) (s : Shared) (σ : St) (H : Hp) (v : V) (u : Value) (Q : St → Hp → Prop), Inv X pins σ H s → RelV v u → t v σ H Q →
    wpAny (model X.prog X.w) X.A (assign target X.env u) (fun _ s' => ∃ σ' H', Inv X pins σ' H' s' ∧ Q σ' H') X.xe s
noncomputable def PGs (X : Cx) (ts : List Expr) (t : TGs) : Prop :=
  ∀ (pins : List (Addr × Obj)) (s : Shared) (σ : St) (H : Hp) (vs : List V) (us : List Value) (Q : St → Hp → Prop), Inv X pins σ H s → Vals vs us → t vs σ H Q →
    wpAny (model X.prog X.w) X.A (assignInOrder ((assignEach ts X.env).map (·.2)) us) (fun _ s' => ∃ σ' H', Inv X pins σ' H' s' ∧ Q σ' H') X.xe s
section
variable {X : Cx} {pos : Pos}
noncomputable def gName (i : Nat) : TG := fun v σ H Q => Q (σ.set i (some v)) H
theorem pg_name {i : Nat} {x : Str} (hN : X.N.Nodup) (hi : X.N[i]? = some x) (hx : Loc X.env.scope x) (hf : X.fn x = true ∨ X.env.scope.names.lookup x = some .local := by first | exact .inl rfl | exact .inr rfl | assumption) : PG X (.Name x pos) (gName i) := by
  intro pins s σ H v u Q I r h
  exact wpAny_assign_Name (store_ok I hN hi hx r (fun s' I' => ⟨_, H, I', h⟩) hf)
noncomputable def gNil : TGs := fun vs σ H Q => vs = [] ∧ Q σ H
noncomputable def gCons (t : TG) (u : TGs) : TGs := fun vs σ H Q => ∃ v r, vs = v :: r ∧ t v σ H fun σ' H' => u r σ' H' Q
theorem pgs_nil : PGs X [] gNil := by
  intro pins s σ H vs us Q I r h
  obtain ⟨e, h⟩ := h
  subst e
  cases r
  exact assignInOrder_nil ⟨σ, H, I, h⟩
theorem pgs_cons {e : Expr} {es : List Expr} {t : TG} {u : TGs} (h1 : PG X e t) (h2 : PGs X es u)
    (hs : (assignEach (e :: es) X.env).map (·.2) = assign e X.env :: (assignEach es X.env).map (·.2) := by rfl) : PGs X (e :: es) (gCons t u) := by
  intro pins s σ H vs us Q I r h
  obtain ⟨v, vr, e1, h⟩ := h
  subst e1
  cases r with
  | cons r rr =>
    rw [hs]
    refine assignInOrder_cons (thn (h1 pins s σ H _ _ _ I r h) fun _ s1 ⟨σ1, H1, I1, q1⟩ => ?_)
    exact h2 pins s1 σ1 H1 _ _ Q I1 rr q1
noncomputable def gTup (K : PySem.W.Frag) (n : Nat) (t : TGs) : TG := fun v σ H Q => ∃ a xs, v = .ref a ∧ SqT K H a xs ∧ xs.length = n ∧ t xs σ H Q
theorem pg_tup {es : List Expr} {k : Nat} {t : TGs} {n : Nat} (hc : X.calm = true) (h : PGs X es t)
    (hn : (assignEach es X.env).length = n := by rfl) (hst : (assignEach es X.env).findIdx? (·.1) = none := by rfl) : PG X (.Tuple es k pos) (gTup X.K n t) := by
  intro pins s σ H v u Q I r hw
  obtain ⟨a, xs, e1, hq, hl, hw⟩ := hw
  subst e1
  cases r
  obtain ⟨its, rv, ht, hz⟩ := I.tuple hq
  refine assign_Tuple_tuple (I.ok.hd hc) ht (by simp [hn, ← hl, rv.length]) hst fun h' hx => ?_
  have I1 : Inv X pins σ H { s with heap := h' } := I.kept (t' := s.toks) fun b o e => hx b o (Nat.ne_of_lt (Heap.lt_size e)) e
  exact h pins _ σ H xs _ Q I1 (by simpa using rv) hw
noncomputable def tAsg (te : TE) (g : TG) : TS := fun D σ H => te σ H fun x H1 => g x σ H1 D.nx
theorem ps_asg {tg e : Expr} {te : TE} {g : TG} (he : PE X e te) (hg : PG X tg g) (hs : swapsWithSole [tg] e pos.line X.env = pure false := by rfl) (hw : swappedStores [tg] e X.env = pure none := by rfl)
    (h1 : (assignEach [tg] X.env).map (·.2) = [assign tg X.env] := by rfl) : PS X (.Assign [tg] e pos) (tAsg te g) := by
  intro pins s σ H D I h
  refine wpAny_Assign_stores (thn (he pins s σ H _ I h) fun v s1 ⟨x, H1, I1, r1, q1⟩ => ?_) hs hw
  rw [h1]
  exact thn (hg pins s1 σ H1 x v _ I1 r1 q1) fun _ s2 q => q
theorem ps_set {i : Nat} {x : Str} {e : Expr} {te : TE} {pos' : Pos} (hN : X.N.Nodup) (hi : X.N[i]? = some x) (hx : Loc X.env.scope x) (he : PE X e te) (hs : swapsWith e (some (.Name x pos')) pos.line X.env = pure false := by rfl) (hf : X.fn x = true ∨ X.env.scope.names.lookup x = some .local := by first | exact .inl rfl | exact .inr rfl | assumption) :
    PS X (.Assign [.Name x pos'] e pos) (tAsg te (gName i)) := by
  intro pins s σ H D I h
  refine wpAny_Assign_Name (thn (he pins s σ H _ I h) fun v s1 ⟨y, H1, I1, r1, q1⟩ => ?_) hs
  exact store_ok I1 hN hi hx r1 (fun s2 I2 => ⟨_, H1, I2, q1⟩) hf
end

section
variable {X : Cx} {pos : Pos}
noncomputable def tWhile (c : TT) (tb : TS) : TS := fun D σ H => ∃ W : Nat → St → Hp → Prop, (∃ m, W m σ H) ∧ ∀ m σ H, W m σ H →
  c σ H fun b H1 => if b = true then ∃ N : St → Hp → Prop, (∀ σ' H', N σ' H' → ∃ m', m' < m ∧ W m' σ' H') ∧ tb { D with nx := N, ct := N, bk := D.nx } σ H1 else D.nx σ H1
theorem ps_while {c : Expr} {body : List Stmt} {tc : TT} {tb : TS} (hp : PassesOwn (model X.prog X.w) X.A X.env X.xe) (hc : PT X c tc) (hb : PSs X body tb) : PS X (.While c body [] pos) (tWhile tc tb) := by
  intro pins s σ H D I h
  obtain ⟨W, ⟨m0, w0⟩, turn⟩ := h
  refine wpAny_While (codeAny_whileLoop (fun n s' => ∃ σ' H', Inv X pins σ' H' s' ∧ W n σ' H') ?_ m0 ⟨σ, H, I, w0⟩)
  rintro n s1 ⟨σ1, H1, I1, w1⟩
  refine wpAny_passesOwn hp (thn (hc pins s1 σ1 H1 _ I1 (turn n σ1 H1 w1)) fun b s2 ⟨H2, I2, q2⟩ => ?_)
  cases b with
  | true =>
    obtain ⟨N, hN, q2⟩ := q2
    rw [if_pos rfl]
    refine wpAny_passesOwn hp (thn (hb pins s2 σ1 H2 _ I2 q2) fun f s3 q3 => ?_)
    cases f with
    | next =>
      obtain ⟨σ3, H3, I3, n3⟩ := q3
      obtain ⟨m', hm, w3⟩ := hN σ3 H3 n3
      exact ⟨m', hm, σ3, H3, I3, w3⟩
    | cont =>
      obtain ⟨σ3, H3, I3, n3⟩ := q3
      obtain ⟨m', hm, w3⟩ := hN σ3 H3 n3
      exact ⟨m', hm, σ3, H3, I3, w3⟩
    | brk => exact q3
    | ret v => exact q3
  | false =>
    rw [if_neg Bool.false_ne_true]
    exact wpAny_execs_nil ⟨σ1, H2, I2, q2⟩
end

structure It where
  go : Nat → Hp → Prop
  yld : Nat → Hp → V → Hp → Prop
  stop : Nat → Hp → Prop
noncomputable def FpOk (X : Cx) (pins : List (Addr × Obj)) (H : Hp) (b : Addr) : Prop :=
  H b = none ∧ b ≠ X.env.locals ∧ b ∉ X.fs ∧ (b ∈ X.ex ∨ X.s₀.heap.objs.size ≤ b) ∧ (∀ x c, X.env.cells.lookup x = some c → c ≠ b) ∧ ∀ p ∈ X.pn ++ pins, p.1 ≠ b
theorem Inv.fpOk {X : Cx} {pins : List (Addr × Obj)} {σ : St} {H H' : Hp} {s : Shared} {b : Addr} (I : Inv X pins σ H s) (hb : s.heap.objs.size ≤ b) (hn : H' b = none) : FpOk X pins H' b := by
  refine ⟨hn, Nat.ne_of_gt (Nat.lt_of_lt_of_le I.lt hb), I.nofs hb, .inr (Nat.le_trans I.sz hb), fun x c e z => ?_, fun p hp z => ?_⟩
  · obtain ⟨v, q⟩ := I.cell x c e
    exact absurd (Nat.lt_of_lt_of_le q.lt (by rw [z]; exact hb)) (Nat.lt_irrefl _)
  · exact absurd (Nat.lt_of_lt_of_le (Heap.lt_size (I.pin p hp).1) (by rw [z]; exact hb)) (Nat.lt_irrefl _)
structure Turn (P : Program) (w : World) (K : PySem.W.Frag) (tg : Expr) (J : It) (fp : List Addr) (it : Addr) (tn : Nat → Heap → Prop) : Prop where
  mem : it ∈ fp
  obj : ∀ i h, tn i h → ∀ b ∈ fp, ∃ o, h.get? b = some o ∧ ∀ v, o.data ≠ .cell v
  keep : ∀ i h h', tn i h → (∀ b ∈ fp, ∀ o, h.get? b = some o → h'.get? b = some o) → tn i h'
  item : ∀ (X : Cx), X.prog = P → X.w = w → X.K = K → X.calm = true → ∀ (i : Nat) (pins : List (Addr × Obj)) (s : Shared) (σ : St) (H : Hp) (E : Value → Shared → Prop), Inv X pins σ H s → (∀ b ∈ fp, FpOk X pins H b) → tn i s.heap → J.go i H →
    wpAny (model P w) X.A (pyNext (.ref it)) (fun r s1 => ∃ u, r = some u ∧
      wpAny (model P w) X.A (letOwnedTupleGo tg (.ref it) u) (fun _ s2 => ∃ x H', Inv X pins σ H' s2 ∧ RelV x u ∧ J.yld i H x H' ∧ tn (i + 1) s2.heap ∧ ∀ b ∈ fp, H' b = none) E s1) E s
  done : ∀ (X : Cx), X.prog = P → X.w = w → X.K = K → X.calm = true → ∀ (i : Nat) (pins : List (Addr × Obj)) (s : Shared) (σ : St) (H : Hp) (E : Value → Shared → Prop), Inv X pins σ H s → (∀ b ∈ fp, FpOk X pins H b) → tn i s.heap → J.stop i H →
    wpAny (model P w) X.A (pyNext (.ref it)) (fun r s1 => r = none ∧ Inv X pins σ H s1) E s
  self : ∀ (A : Around) (i : Nat) (s : Shared) (Q : Value → Shared → Prop) (E : Value → Shared → Prop), tn i s.heap → Q (.ref it) s → wpAny (model P w) A (pyIter (.ref it)) Q E s
noncomputable abbrev TI := St → Hp → (It → Hp → Prop) → Prop
noncomputable def PIE (X : Cx) (pins : List (Addr × Obj)) (σ : St) (tg : Expr) (R : It → Hp → Prop) (itv : Value) (s2 : Shared) : Prop :=
  ∃ (it : Addr) (fp : List Addr) (tn : Nat → Heap → Prop) (J : It) (H' : Hp), itv = .ref it ∧ Inv X pins σ H' s2 ∧ Turn X.prog X.w X.K tg J fp it tn ∧ tn 0 s2.heap ∧ (∀ b ∈ fp, FpOk X pins H' b) ∧ R J H'
noncomputable def PI (X : Cx) (tg iter : Expr) (wi : TI) : Prop :=
  ∀ (pins : List (Addr × Obj)) (s : Shared) (σ : St) (H : Hp) (R : It → Hp → Prop), Inv X pins σ H s → wi σ H R →
    wpAny (model X.prog X.w) X.A (eval iter X.env) (fun v s1 => wpAny (model X.prog X.w) X.A (pyIter v) (PIE X pins σ tg R) X.xe s1) X.xe s

theorem go_of {M : Model} {A : Around} {E : Value → Shared → Prop} {s : Shared} {tg : Expr} {it : Addr} {u : Value} {o : Obj} {n : String} {vs : Array Value} {Q : Unit → Shared → Prop} (ho : s.heap.get? it = some o) (hc : o.cls = .type n) (hd : o.data = .fields vs)
    (hn : ["enumerate", "zip", "dict_itemiterator", "dict_reverseitemiterator", "odict_iterator", "itertools.zip_longest", "itertools.pairwise"].contains n = false) (hQ : Q () s) : wpAny M A (letOwnedTupleGo tg (.ref it) u) Q E s := by
  unfold letOwnedTupleGo
  cases tg <;> first
    | exact wpAny_pure hQ
    | (cases u <;> first
        | exact wpAny_pure hQ
        | (refine wpAny_bind (wpAny_load ho ?_)
           rw [hc, hd]
           show wpAny M A (if (["enumerate", "zip", "dict_itemiterator", "dict_reverseitemiterator", "odict_iterator", "itertools.zip_longest", "itertools.pairwise"].contains n && vs[0]? == some (rawInt _)) = true then _ else _) Q E s
           rw [if_neg (by intro h; rw [hn, Bool.false_and] at h; cases h)]
           exact wpAny_pure hQ))

noncomputable def Itl (K : PySem.W.Frag) (a : Addr) : It :=
  ⟨fun i H => ∃ xs x, SqL K H a xs ∧ xs[i]? = some x, fun i H x H' => H' = H ∧ ∀ xs, SqL K H a xs → xs[i]? = some x, fun i H => ∃ xs, SqL K H a xs ∧ xs.length ≤ i⟩
theorem turn_list {P : Program} {w : World} {K : PySem.W.Frag} {tg : Expr} (a it : Addr) : Turn P w K tg (Itl K a) [it] it (fun i h => h.IsListIter it a i) where
  mem := by simp
  obj := fun i h st b hb => by
    have e : b = it := by simpa using hb
    subst e
    obtain ⟨o, e, c, d⟩ := st
    exact ⟨o, e, fun v z => by rw [d] at z; cases z⟩
  keep := fun i h h' st k => st.at fun o e => k it (by simp) o e
  item := by
    intro X hP hw hK hc i pins s σ H E I hf st hg
    subst hP hw hK
    obtain ⟨xs, x, hq, hx⟩ := hg
    obtain ⟨its, rv, p, hz⟩ := I.list hq
    obtain ⟨u, hu, ru⟩ := rv.get hx
    obtain ⟨f0, f1, f2, f3, f4, f5⟩ := hf it (by simp)
    refine wpAny_pyNext_list_item st p.isList (x := u) (by simpa using hu) fun h' st' sb => ?_
    have I1 : Inv X pins σ H { s with heap := h' } := I.turned (t' := s.toks) (fun b o hb e => (sb.2 b hb).trans e) f0 f1 f3 f4 f5
    obtain ⟨o, e, c, d⟩ := id st'
    exact ⟨u, rfl, go_of (s := { s with heap := h' }) e c d (by decide) ⟨x, H, I1, ru, ⟨rfl, fun ys hy => by rw [I.list_inj hy hq]; exact hx⟩, st', fun b hb => (hf b hb).1⟩⟩
  done := by
    intro X hP hw hK hc i pins s σ H E I hf st hg
    subst hP hw hK
    obtain ⟨xs, hq, hx⟩ := hg
    obtain ⟨its, rv, p, hz⟩ := I.list hq
    obtain ⟨f0, f1, f2, f3, f4, f5⟩ := hf it (by simp)
    have hl := rv.length
    exact wpAny_pyNext_list_end (I.ok.hd hc) st p.isList (by simp; omega) fun h' eb => ⟨rfl, I.turned (t' := s.toks) (fun b o hb e => eb b o hb e) f0 f1 f3 f4 f5⟩
  self := fun _ _ _ _ _ st h => wpAny_pyIter_listiter st h
end L2

namespace L2
open PySem PySem.Spec PyProof.Rows
section
variable {X : Cx} {tg : Expr}
noncomputable def iList (K : PySem.W.Frag) (tl : TE) : TI := fun σ H R => tl σ H fun x H1 => ∃ a, x = .ref a ∧ (∃ xs, SqL K H1 a xs) ∧ R (Itl K a) H1
theorem pi_list {l : Expr} {tl : TE} (hl : PE X l tl) : PI X tg l (iList X.K tl) := by
  intro pins s σ H R I h
  refine thn (hl pins s σ H _ I h) fun v s1 ⟨x, H1, I1, r1, q1⟩ => ?_
  obtain ⟨a, e, ⟨xs, hq⟩, q⟩ := q1
  subst e
  cases r1
  obtain ⟨its, rv, p, hz⟩ := I1.list hq
  refine wpAny_pyIter_list p.isList ?_
  refine ⟨s1.heap.objs.size, [s1.heap.objs.size], _, _, H1, rfl, I1.kept (t' := s1.toks) fun b o e => Heap.get?_push_of_some _ e, turn_list a _, ⟨_, Heap.get?_push_size _ rfl, rfl, rfl⟩, fun b hb => ?_, q⟩
  have e : b = s1.heap.objs.size := by simpa using hb
  subst e
  exact I1.fpOk (Nat.le_refl _) (I1.hok.fresh (Nat.le_refl _))
noncomputable def tFor (wi : TI) (g : TG) (tb : TS) : TS := fun D σ H => wi σ H fun J H1 => ∃ W : Nat → Nat → St → Hp → Prop, (∃ m, W 0 m σ H1) ∧ ∀ i m σ H, W i m σ H →
  (J.stop i H ∧ D.nx σ H) ∨ (J.go i H ∧ ∃ N : St → Hp → Prop, (∀ σ' H', N σ' H' → ∃ m', m' < m ∧ W (i + 1) m' σ' H') ∧ ∀ x H', J.yld i H x H' → g x σ H' fun σ2 H2 => tb { D with nx := N, ct := N, bk := D.nx } σ2 H2)
noncomputable def pinsAt (fp : List Addr) (h : Heap) : List (Addr × Obj) := fp.filterMap fun b => (h.get? b).map fun o => (b, o)
theorem mem_pinsAt {fp : List Addr} {h : Heap} {b : Addr} {o : Obj} (hb : b ∈ fp) (e : h.get? b = some o) : (b, o) ∈ pinsAt fp h := List.mem_filterMap.mpr ⟨b, hb, by rw [e]; rfl⟩
theorem of_pinsAt {fp : List Addr} {h : Heap} {p : Addr × Obj} (hp : p ∈ pinsAt fp h) : p.1 ∈ fp ∧ h.get? p.1 = some p.2 := by
  obtain ⟨b, hb, e⟩ := List.mem_filterMap.mp hp
  cases q : h.get? b with
  | none => rw [q] at e; cases e
  | some o =>
    rw [q] at e
    have e' : (b, o) = p := Option.some.inj e
    subst e'
    exact ⟨hb, q⟩
theorem Inv.pinned {pins : List (Addr × Obj)} {σ : St} {H : Hp} {s : Shared} {fp : List Addr} (I : Inv X pins σ H s) (hf : ∀ b ∈ fp, FpOk X pins H b) (ho : ∀ b ∈ fp, ∃ o, s.heap.get? b = some o ∧ ∀ v, o.data ≠ .cell v) : Inv X (pins ++ pinsAt fp s.heap) σ H s :=
  I.pins_of fun p hp => (List.mem_append.mp hp).elim (fun z => I.pin p (List.mem_append_right _ z)) fun z => by
    obtain ⟨hb, e⟩ := of_pinsAt z
    obtain ⟨f0, f1, f2, _⟩ := hf p.1 hb
    obtain ⟨o, e', d⟩ := ho p.1 hb
    rw [e] at e'; cases e'
    exact ⟨e, f0, f1, f2, d⟩
theorem Inv.unpinned {pins pl : List (Addr × Obj)} {σ : St} {H : Hp} {s : Shared} (I : Inv X (pins ++ pl) σ H s) : Inv X pins σ H s := I.pins_of fun p hp => I.pin p (List.mem_append_right _ (List.mem_append_left _ hp))
theorem ps_for {iter : Expr} {body : List Stmt} {wi : TI} {g : TG} {tb : TS} {pos : Pos} (hp : PassesOwn (model X.prog X.w) X.A X.env X.xe) (hc : X.calm = true) (hi : PI X tg iter wi) (hg : PG X tg g) (hb : PSs X body tb)
    (hs : ∀ x, foldedSetIterable iter X.env x = pure x := by intro _; rfl) : PS X (.For tg iter body [] pos) (tFor wi g tb) := by
  intro pins s σ H D I h
  refine wpAny_For (thn (hi pins s σ H _ I h) fun v s1 h1 => thn h1 fun itv s2 h2 => ?_) hs
  obtain ⟨it, fp, tn, J, H2, e, I2, T, st2, f2, W, ⟨m0, w0⟩, turn⟩ := h2
  subst e
  -- what stays true of the iterator's objects through the loop
  have stat : ∀ {H' : Hp}, (∀ b ∈ fp, H' b = none) → ∀ b ∈ fp, FpOk X pins H' b := fun hn b hb => ⟨hn b hb, (f2 b hb).2⟩
  refine codeAny_forLoop_any (fun n s' => ∃ i σ' H', Inv X pins σ' H' s' ∧ tn i s'.heap ∧ (∀ b ∈ fp, H' b = none) ∧ W i n σ' H') ?_ m0 ⟨0, σ, H2, I2, st2, fun b hb => (f2 b hb).1, w0⟩
  rintro n s3 ⟨i, σ3, H3, I3, st3, fr3, w3⟩
  rcases turn i n σ3 H3 w3 with ⟨stop, qn⟩ | ⟨go, N, hN, step⟩
  · refine wpAny_passesOwn hp (thn (T.done X rfl rfl rfl hc i pins s3 σ3 H3 X.xe I3 (stat fr3) st3 stop) fun r s4 ⟨hr, I4⟩ => ?_)
    subst hr
    exact wpAny_execs_nil ⟨σ3, H3, I4, qn⟩
  · refine wpAny_passesOwn hp (thn (T.item X rfl rfl rfl hc i pins s3 σ3 H3 X.xe I3 (stat fr3) st3 go) fun r s4 ⟨u, hr, h4⟩ => ?_)
    subst hr
    refine wpAny_passesOwn hp (thn h4 fun _ s5 ⟨x, H5, I5, r5, y5, st5, fr5⟩ => ?_)
    have I5' := I5.pinned (stat fr5) (T.obj _ _ st5)
    refine wpAny_passesOwn hp (thn (hg _ s5 σ3 H5 x u _ I5' r5 (step x H5 y5)) fun _ s6 ⟨σ6, H6, I6, q6⟩ => ?_)
    refine wpAny_passesOwn hp (thn (hb _ s6 σ6 H6 _ I6 q6) fun f s7 q7 => ?_)
    have again : ∀ {σ7 : St} {H7 : Hp}, Inv X (pins ++ pinsAt fp s5.heap) σ7 H7 s7 → N σ7 H7 → ∃ m, m < n ∧ ∃ i σ' H', Inv X pins σ' H' s7 ∧ tn i s7.heap ∧ (∀ b ∈ fp, H' b = none) ∧ W i m σ' H' := fun {σ7 H7} I7 n7 => by
      obtain ⟨m', hm, w7⟩ := hN σ7 H7 n7
      refine ⟨m', hm, i + 1, σ7, H7, I7.unpinned, T.keep _ _ _ st5 fun b hb o e => (I7.pin (b, o) (List.mem_append_right _ (List.mem_append_right _ (mem_pinsAt hb e)))).1, fun b hb => ?_, w7⟩
      obtain ⟨o, e, d⟩ := T.obj _ _ st5 b hb
      exact (I7.pin (b, o) (List.mem_append_right _ (List.mem_append_right _ (mem_pinsAt hb e)))).2.1
    cases f with
    | next => obtain ⟨σ7, H7, I7, n7⟩ := q7; exact again I7 n7
    | cont => obtain ⟨σ7, H7, I7, n7⟩ := q7; exact again I7 n7
    | brk => obtain ⟨σ7, H7, I7, q7⟩ := q7; exact ⟨σ7, H7, I7.unpinned, q7⟩
    | ret v => obtain ⟨x7, σ7, H7, I7, r7, q7⟩ := q7; exact ⟨x7, σ7, H7, I7.unpinned, r7, q7⟩
end

end L2

namespace L2
open PySem PySem.Spec PyProof.Rows

noncomputable abbrev R2 := V → V → Hp → VK → Prop
noncomputable def OpR (X : Cx) (f : Value → Value → Sem Value) (r : R2) : Prop :=
  ∀ (pins : List (Addr × Obj)) (s : Shared) (σ : St) (H : Hp) (x y : V) (v u : Value) (Q : VK), Inv X pins σ H s → RelV x v → RelV y u → r x y H Q →
    wpAny (model X.prog X.w) X.A (f v u) (EP X pins σ Q) X.xe s
noncomputable def UnR (X : Cx) (f : Value → Sem Value) (r : V → Hp → VK → Prop) : Prop :=
  ∀ (pins : List (Addr × Obj)) (s : Shared) (σ : St) (H : Hp) (x : V) (v : Value) (Q : VK), Inv X pins σ H s → RelV x v → r x H Q →
    wpAny (model X.prog X.w) X.A (f v) (EP X pins σ Q) X.xe s
noncomputable def CallR (X : Cx) (f : Value) (r : List V → Hp → VK → Prop) : Prop :=
  ∀ (pins : List (Addr × Obj)) (s : Shared) (σ : St) (H : Hp) (xs : List V) (us : List Value) (Q : VK), Inv X pins σ H s → Vals xs us → r xs H Q →
    wpAny (model X.prog X.w) X.A (call f us) (EP X pins σ Q) X.xe s
noncomputable def TruR (X : Cx) (r : V → Hp → (Bool → Hp → Prop) → Prop) : Prop :=
  ∀ (pins : List (Addr × Obj)) (s : Shared) (σ : St) (H : Hp) (x : V) (v : Value) (Q : Bool → Hp → Prop), Inv X pins σ H s → RelV x v → r x H Q →
    wpAny (model X.prog X.w) X.A (truthy v) (TP X pins σ Q) X.xe s

noncomputable def tOp (r : R2) (ta tb : TE) : TE := fun σ H Q => ta σ H fun x H1 => tb σ H1 fun y H2 => r x y H2 Q
noncomputable def tUn (r : V → Hp → VK → Prop) (ta : TE) : TE := fun σ H Q => ta σ H fun x H1 => r x H1 Q
noncomputable def rI (C : Int → Int → Prop) (g : Int → Int → V) : R2 := fun x y H Q => ∃ i j, x = .int i ∧ y = .int j ∧ C i j ∧ Q (g i j) H
noncomputable def rI0 (g : Int → Int → V) : R2 := fun x y H Q => ∃ i j, x = .int i ∧ y = .int j ∧ Q (g i j) H
noncomputable def rU (g : Int → V) : V → Hp → VK → Prop := fun x H Q => ∃ i, x = .int i ∧ Q (g i) H

section
variable {X : Cx} {a b c : Expr} {ta tb tc : TE} {pos : Pos}

theorem binT (ha : PE X a ta) (hb : PE X b tb) {pins : List (Addr × Obj)} {s : Shared} {σ : St} {H : Hp} {R : V → V → Hp → Prop} (I : Inv X pins σ H s)
    (h : ta σ H fun x H1 => tb σ H1 fun y H2 => R x y H2) {Q : Value → Shared → Prop} {f : Value → Value → Sem Value}
    (hf : ∀ v u s2 x y H2, Inv X pins σ H2 s2 → RelV x v → RelV y u → R x y H2 → wpAny (model X.prog X.w) X.A (f v u) Q X.xe s2) :
    wpAny (model X.prog X.w) X.A (eval a X.env) (fun v s₁ => wpAny (model X.prog X.w) X.A (eval b X.env) (fun u s₂ => wpAny (model X.prog X.w) X.A (f v u) Q X.xe s₂) X.xe s₁) X.xe s := by
  refine thn (ha pins s σ H _ I h) fun v s1 ⟨x, H1, I1, r1, q1⟩ => ?_
  refine thn (hb pins s1 σ H1 _ I1 q1) fun u s2 ⟨y, H2, I2, r2, q2⟩ => ?_
  exact hf v u s2 x y H2 I2 r1 r2 q2

theorem pe_op {op : Operator} {r : R2} (ho : OpR X (binaryOp op) r) (ha : PE X a ta) (hb : PE X b tb) : PE X (.BinOp a op b pos) (tOp r ta tb) := by
  intro pins s σ H Q I h
  exact wpAny_BinOp (binT ha hb I h fun v u s2 x y H2 I2 rx ry q => ho pins s2 σ H2 x y v u Q I2 rx ry q)
theorem pe_un {op : UnaryOp} {r : V → Hp → VK → Prop} (ho : UnR X (unaryOp op) r) (ha : PE X a ta) : PE X (.UnaryOp op a pos) (tUn r ta) := by
  intro pins s σ H Q I h
  exact UnaryOp_ (thn (ha pins s σ H _ I h) fun v s1 ⟨x, H1, I1, r1, q1⟩ => ho pins s1 σ H1 x v Q I1 r1 q1)
theorem opI {f : Value → Value → Sem Value} {C : Int → Int → Prop} {g : Int → Int → Int}
    (rule : ∀ (i j : Int) (t u : Tok) (s : Shared) (Q : Value → Shared → Prop) (E : Value → Shared → Prop), C i j → Q (.int (g i j) s.toks) { s with toks := s.toks + 1 } → wpAny (model X.prog X.w) X.A (f (.int i t) (.int j u)) Q E s) :
    OpR X f (rI C fun i j => .int (g i j)) := by
  intro pins s σ H x y v u Q I rx ry h
  obtain ⟨i, j, rfl, rfl, hc, q⟩ := h
  obtain ⟨t, rfl⟩ := rx
  obtain ⟨t', rfl⟩ := ry
  exact rule i j t t' s _ _ hc ⟨.int (g i j), H, I.tok _, ⟨_, rfl⟩, q⟩
theorem opI0 {f : Value → Value → Sem Value} {g : Int → Int → Int}
    (rule : ∀ (i j : Int) (t u : Tok) (s : Shared) (Q : Value → Shared → Prop) (E : Value → Shared → Prop), Q (.int (g i j) s.toks) { s with toks := s.toks + 1 } → wpAny (model X.prog X.w) X.A (f (.int i t) (.int j u)) Q E s) :
    OpR X f (rI0 fun i j => .int (g i j)) := by
  intro pins s σ H x y v u Q I rx ry h
  obtain ⟨i, j, rfl, rfl, q⟩ := h
  obtain ⟨t, rfl⟩ := rx
  obtain ⟨t', rfl⟩ := ry
  exact rule i j t t' s _ _ ⟨.int (g i j), H, I.tok _, ⟨_, rfl⟩, q⟩
theorem opB0 {f : Value → Value → Sem Value} {g : Int → Int → Bool}
    (rule : ∀ (i j : Int) (t u : Tok) (s : Shared) (Q : Value → Shared → Prop) (E : Value → Shared → Prop), Q (.bool (g i j)) s → wpAny (model X.prog X.w) X.A (f (.int i t) (.int j u)) Q E s) :
    OpR X f (rI0 fun i j => .bl (g i j)) := by
  intro pins s σ H x y v u Q I rx ry h
  obtain ⟨i, j, rfl, rfl, q⟩ := h
  obtain ⟨t, rfl⟩ := rx
  obtain ⟨t', rfl⟩ := ry
  exact rule i j t t' s _ _ ⟨.bl (g i j), H, I, rfl, q⟩

noncomputable def CDiv (i j : Int) : Prop := 0 < j ∧ j < 1073741824
noncomputable def CPow (i j : Int) : Prop := 0 ≤ j ∧ j ≤ 1000000 ∧ i.natAbs < 2 ^ 64
noncomputable def CMul (i j : Int) : Prop := (-(2 ^ 64) < i ∧ i < 2 ^ 64) ∨ (-(2 ^ 64) < j ∧ j < 2 ^ 64)
theorem CMul.ok {i j : Int} (h : CMul i j) : IntMulOk i j := by
  rcases h with ⟨h1, h2⟩ | ⟨h1, h2⟩
  · exact .of_left (intBits_le_64 h1 h2)
  · exact .of_right (intBits_le_64 h1 h2)
theorem op_add : OpR X (binaryOp .Add) (rI0 fun i j => .int (i + j)) := opI0 fun _ _ _ _ _ _ _ q => add_int q
theorem op_sub : OpR X (binaryOp .Sub) (rI0 fun i j => .int (i - j)) := opI0 fun _ _ _ _ _ _ _ q => sub_int q
theorem op_mul : OpR X (binaryOp .Mult) (rI CMul fun i j => .int (i * j)) := opI fun _ _ _ _ _ _ _ hc q => mul_int q hc.ok
theorem op_fdiv : OpR X (binaryOp .FloorDiv) (rI CDiv fun i j => .int (i / j)) := opI fun i j _ _ _ _ _ hc q => by
  have h1 : (0 : Int) < j := hc.1
  have h2 : j < 1073741824 := hc.2
  exact floordiv_int (by omega) (by rw [Int.fdiv_eq_ediv_of_nonneg i (by omega)]; exact q) (.inl (PyProof.noPylong_small (by omega)))
theorem op_mod : OpR X (binaryOp .Mod) (rI (fun _ j => 0 < j) fun i j => .int (i % j)) := opI fun i j _ _ _ _ _ hc q => by
  have h1 : (0 : Int) < j := hc
  exact mod_int' (by omega) (by rw [Int.fmod_eq_emod_of_nonneg i (by omega)]; exact q)
theorem op_pow : OpR X (binaryOp .Pow) (rI CPow fun i j => .int (i ^ j.toNat)) := opI fun _ _ _ _ _ _ _ hc q => pow_int_small hc.1 hc.2.1 hc.2.2 q
theorem unI {f : Value → Sem Value} {g : Int → Int}
    (rule : ∀ (i : Int) (t : Tok) (s : Shared) (Q : Value → Shared → Prop) (E : Value → Shared → Prop), Q (.int (g i) s.toks) { s with toks := s.toks + 1 } → wpAny (model X.prog X.w) X.A (f (.int i t)) Q E s) :
    UnR X f (rU fun i => .int (g i)) := by
  intro pins s σ H x v Q I rx h
  obtain ⟨i, rfl, q⟩ := h
  obtain ⟨t, rfl⟩ := rx
  exact rule i t s _ _ ⟨.int (g i), H, I.tok _, ⟨_, rfl⟩, q⟩
theorem un_neg : UnR X (unaryOp .USub) (rU fun i => .int (-i)) := unI fun _ _ _ _ _ q => neg_int q
end

noncomputable def scal : V → V → Bool
  | .non, .non => true | .non, .int _ => true | .int _, .non => true | .non, .bl _ => true | .bl _, .non => true | .non, .str _ => true | .str _, .non => true
  | .int _, .int _ => true | .bl _, .bl _ => true | .str _, .str _ => true | .byt _, .byt _ => true
  | .int _, .str _ => true | .str _, .int _ => true | .bl _, .str _ => true | .str _, .bl _ => true
  | _, _ => false
noncomputable def rEq : R2 := fun x y H Q => scal x y = true ∧ Q (.bl (decide (x = y))) H
noncomputable def rNe : R2 := fun x y H Q => scal x y = true ∧ Q (.bl (!decide (x = y))) H

theorem dec_int {i j : Int} : decide (V.int i = V.int j) = (i == j) := by
  rw [Bool.eq_iff_iff]
  simp
theorem dec_bl {i j : Bool} : decide (V.bl i = V.bl j) = (i == j) := by
  rw [Bool.eq_iff_iff]
  simp
theorem dec_str {i j : Str} : decide (V.str i = V.str j) = (i == j) := by
  rw [Bool.eq_iff_iff]
  simp
theorem dec_byt {i j : Array UInt8} : decide (V.byt i = V.byt j) = (i.toList == j.toList) := by
  rw [Bool.eq_iff_iff]
  cases i
  cases j
  simp

section
variable {X : Cx} {a b c : Expr} {ta tb tc : TE} {pos : Pos}
theorem fin_bl {pins : List (Addr × Obj)} {σ : St} {H : Hp} {s : Shared} {Q : VK} {k k' : Bool} (I : Inv X pins σ H s) (q : Q (.bl k) H) (e : k = k') : EP X pins σ Q (.bool k') s := by
  subst e
  exact ⟨.bl k, H, I, rfl, q⟩
theorem op_eq : OpR X (compareOp .Eq) rEq := by
  intro pins s σ H x y v u Q I rx ry h
  obtain ⟨hs, q⟩ := h
  cases x with
  | non =>
    cases rx
    cases y with
    | non => cases ry; exact PySem.EqNone.eq_none_none (fin_bl I q (by simp))
    | bl j => cases ry; exact PySem.EqNone.eq_none_bool (fin_bl I q (by simp))
    | int j => obtain ⟨t', rfl⟩ := ry; exact PySem.EqNone.eq_none_int (fin_bl I q (by simp))
    | str j => obtain ⟨t', rfl⟩ := ry; exact PySem.EqNone.eq_none_str (fin_bl I q (by simp))
    | _ => exact absurd (show false = true from hs) Bool.false_ne_true
  | bl i =>
    cases rx
    cases y with
    | non => cases ry; exact PySem.EqNone.eq_bool_none (fin_bl I q (by simp))
    | bl j => cases ry; exact eq_bool (fin_bl I q dec_bl)
    | str j => obtain ⟨t', rfl⟩ := ry; exact PySem.EqMixed.eq_bool_str (fin_bl I q (by simp))
    | _ => exact absurd (show false = true from hs) Bool.false_ne_true
  | int i =>
    obtain ⟨t, rfl⟩ := rx
    cases y with
    | non => cases ry; exact PySem.EqNone.eq_int_none (fin_bl I q (by simp))
    | int j => obtain ⟨t', rfl⟩ := ry; exact eq_int (fin_bl I q dec_int)
    | str j => obtain ⟨t', rfl⟩ := ry; exact PySem.EqMixed.eq_int_str (fin_bl I q (by simp))
    | _ => exact absurd (show false = true from hs) Bool.false_ne_true
  | str i =>
    obtain ⟨t, rfl⟩ := rx
    cases y with
    | non => cases ry; exact PySem.EqNone.eq_str_none (fin_bl I q (by simp))
    | bl j => cases ry; exact PySem.EqMixed.eq_str_bool (fin_bl I q (by simp))
    | int j => obtain ⟨t', rfl⟩ := ry; exact PySem.EqMixed.eq_str_int (fin_bl I q (by simp))
    | str j => obtain ⟨t', rfl⟩ := ry; exact eq_str (fin_bl I q dec_str)
    | _ => exact absurd (show false = true from hs) Bool.false_ne_true
  | byt i =>
    obtain ⟨t, rfl⟩ := rx
    cases y with
    | byt j => obtain ⟨t', rfl⟩ := ry; exact PySem.W.eq_bytes (fin_bl I q dec_byt)
    | _ => exact absurd (show false = true from hs) Bool.false_ne_true
  | _ => cases y <;> exact absurd (show false = true from hs) Bool.false_ne_true
theorem op_ne : OpR X (compareOp .NotEq) rNe := by
  intro pins s σ H x y v u Q I rx ry h
  obtain ⟨hs, q⟩ := h
  cases x with
  | non =>
    cases rx
    cases y with
    | non => cases ry; exact PySem.EqNone.ne_none_none (fin_bl I q (by simp))
    | bl j => cases ry; exact PySem.EqNone.ne_none_bool (fin_bl I q (by simp))
    | int j => obtain ⟨t', rfl⟩ := ry; exact PySem.EqNone.ne_none_int (fin_bl I q (by simp))
    | str j => obtain ⟨t', rfl⟩ := ry; exact PySem.EqNone.ne_none_str (fin_bl I q (by simp))
    | _ => exact absurd (show false = true from hs) Bool.false_ne_true
  | bl i =>
    cases rx
    cases y with
    | non => cases ry; exact PySem.EqNone.ne_bool_none (fin_bl I q (by simp))
    | bl j => cases ry; exact ne_bool (fin_bl I q (congrArg not dec_bl))
    | str j => obtain ⟨t', rfl⟩ := ry; exact PySem.EqMixed.ne_bool_str (fin_bl I q (by simp))
    | _ => exact absurd (show false = true from hs) Bool.false_ne_true
  | int i =>
    obtain ⟨t, rfl⟩ := rx
    cases y with
    | non => cases ry; exact PySem.EqNone.ne_int_none (fin_bl I q (by simp))
    | int j => obtain ⟨t', rfl⟩ := ry; exact ne_int (fin_bl I q (congrArg not dec_int))
    | str j => obtain ⟨t', rfl⟩ := ry; exact PySem.EqMixed.ne_int_str (fin_bl I q (by simp))
    | _ => exact absurd (show false = true from hs) Bool.false_ne_true
  | str i =>
    obtain ⟨t, rfl⟩ := rx
    cases y with
    | non => cases ry; exact PySem.EqNone.ne_str_none (fin_bl I q (by simp))
    | bl j => cases ry; exact PySem.EqMixed.ne_str_bool (fin_bl I q (by simp))
    | int j => obtain ⟨t', rfl⟩ := ry; exact PySem.EqMixed.ne_str_int (fin_bl I q (by simp))
    | str j => obtain ⟨t', rfl⟩ := ry; exact ne_str (fin_bl I q (congrArg not dec_str))
    | _ => exact absurd (show false = true from hs) Bool.false_ne_true
  | byt i =>
    obtain ⟨t, rfl⟩ := rx
    cases y with
    | byt j => obtain ⟨t', rfl⟩ := ry; exact PySem.W.ne_bytes (fin_bl I q (congrArg not dec_byt))
    | _ => exact absurd (show false = true from hs) Bool.false_ne_true
  | _ => cases y <;> exact absurd (show false = true from hs) Bool.false_ne_true

theorem op_lt : OpR X (compareOp .Lt) (rI0 fun i j => .bl (decide (i < j))) := opB0 fun _ _ _ _ _ _ _ q => lt_int q
theorem op_le : OpR X (compareOp .LtE) (rI0 fun i j => .bl (decide (i ≤ j))) := opB0 fun _ _ _ _ _ _ _ q => le_int q
theorem op_gt : OpR X (compareOp .Gt) (rI0 fun i j => .bl (decide (j < i))) := opB0 fun _ _ _ _ _ _ _ q => gt_int q
theorem op_isN : OpR X (compareOp .Is) (fun x y H Q => y = .non ∧ Q (.bl (decide (x = .non))) H) := by
  intro pins s σ H x y v u Q I rx ry h
  obtain ⟨rfl, q⟩ := h
  cases ry
  refine is_none_gen (fin_bl I q ?_)
  cases x <;> first
    | (cases rx; rfl)
    | (obtain ⟨t, rfl⟩ := rx; rfl)
theorem OpR.or {f : Value → Value → Sem Value} {r r' : R2} (h : OpR X f r) (h' : OpR X f r') : OpR X f (fun x y H Q => r x y H Q ∨ r' x y H Q) := by
  intro pins s σ H x y v u Q I rx ry q
  rcases q with q | q
  · exact h pins s σ H x y v u Q I rx ry q
  · exact h' pins s σ H x y v u Q I rx ry q

theorem nomark (b : Expr) {op : CmpOp} (h : op ≠ .In := by decide) (h2 : op ≠ .NotIn := by decide) : behindInMarks op b = false := by
  have e1 : (op == CmpOp.In) = false := by cases op <;> first | rfl | exact absurd rfl h
  have e2 : (op == CmpOp.NotIn) = false := by cases op <;> first | rfl | exact absurd rfl h2
  cases b <;> simp [behindInMarks, e1, e2]
theorem pe_cmpR {op : CmpOp} {r : R2} (ho : OpR X (compareOp op) r) (ha : PE X a ta) (hb : PE X b tb) (hm : behindInMarks op b = false) : PE X (.Compare a [op] [b] pos) (tOp r ta tb) := by
  intro pins s σ H Q I h
  exact wpAny_Compare1 (binT ha hb I h fun v u s2 x y H2 I2 rx ry q => ho pins s2 σ H2 x y v u Q I2 rx ry q) hm
noncomputable def tTest (t : TE) : TT := fun σ H Q => t σ H fun x H' => ∃ k, x = .bl k ∧ Q k H'
theorem pt_cmpR {op : CmpOp} {r : R2} (ho : OpR X (compareOp op) r) (ha : PE X a ta) (hb : PE X b tb) (hm : behindInMarks op b = false) : PT X (.Compare a [op] [b] pos) (tTest (tOp r ta tb)) := by
  intro pins s σ H Q I h
  refine wpAny_isTrue_Compare1 (thn (ha pins s σ H _ I h) fun v s1 ⟨x, H1, I1, r1, q1⟩ => thn (hb pins s1 σ H1 _ I1 q1) fun u s2 ⟨y, H2, I2, r2, q2⟩ =>
    thn (ho pins s2 σ H2 x y v u _ I2 r1 r2 q2) fun c s3 ⟨z, H3, I3, r3, k, e, q3⟩ => ?_) hm
  subst e
  cases r3
  exact wpAny_truthy_bool ⟨H3, I3, q3⟩
noncomputable def TruV (K : PySem.W.Frag) (x : V) (H : Hp) (k : Bool) : Prop :=
  match x with
  | .non => k = false
  | .bl b => k = b
  | .int i => k = (i != 0)
  | .str y => y.length ≤ sizeLine ∧ k = ((y.length : Int) != 0)
  | .byt y => y.size ≤ sizeLine ∧ k = ((y.size : Int) != 0)
  | .ref p => (∃ xs, SqL K H p xs ∧ k = !xs.isEmpty) ∨ (∃ xs, SqT K H p xs ∧ k = !xs.isEmpty) ∨ ∃ kvs, H p = some (.dK kvs) ∧ k = !kvs.isEmpty
  | _ => False
theorem isEmpty_kv {κ : Type} {kvs : List (κ × V)} {vs : List (κ × Value)} (r : KV kvs vs) : (!vs.isEmpty) = !kvs.isEmpty := by
  cases r <;> rfl
theorem isEmpty_of {xs : List V} {its : List Value} (r : Vals xs its) : (!its.toArray.isEmpty) = !xs.isEmpty := by
  cases r <;> simp
theorem line63 : (sizeLine : Nat) < 2 ^ 63 := by rw [sizeLine_eq]; decide
theorem tru_ok : TruR X (fun x H Q => ∃ k, TruV X.K x H k ∧ Q k H) := by
  intro pins s σ H x v Q I rx h
  obtain ⟨k, e, q⟩ := h
  have hl := line63
  have hs : sizeLine = 16777216 := sizeLine_eq
  cases x with
  | non =>
    cases rx
    have e' : k = false := e
    subst e'
    exact truthy_none ⟨H, I, q⟩
  | bl b =>
    cases rx
    have e' : k = b := e
    subst e'
    exact wpAny_truthy_bool ⟨H, I, q⟩
  | int i =>
    obtain ⟨t, rfl⟩ := rx
    have e' : k = (i != 0) := e
    subst e'
    exact PySem.P.truthy_int ⟨H, I, q⟩
  | str y =>
    obtain ⟨t, rfl⟩ := rx
    obtain ⟨hy, e'⟩ : y.length ≤ sizeLine ∧ k = ((y.length : Int) != 0) := e
    subst e'
    exact PySem.P.truthy_str (by omega) ⟨H, I.tok _, q⟩
  | byt y =>
    obtain ⟨t, rfl⟩ := rx
    obtain ⟨hy, e'⟩ : y.size ≤ sizeLine ∧ k = ((y.size : Int) != 0) := e
    subst e'
    exact PySem.W.truthy_bytes (by omega) ⟨H, I.tok _, q⟩
  | ref p =>
    cases rx
    have e' : (∃ xs, SqL X.K H p xs ∧ k = !xs.isEmpty) ∨ (∃ xs, SqT X.K H p xs ∧ k = !xs.isEmpty) ∨ ∃ kvs, H p = some (.dK kvs) ∧ k = !kvs.isEmpty := e
    rcases e' with ⟨xs, hx, e'⟩ | ⟨xs, hx, e'⟩ | ⟨kvs, hx, e'⟩
    · subst e'
      obtain ⟨its, r, pl, hz⟩ := I.list hx
      have hlen := r.length
      exact wpAny_truthy_list pl.isList (by simp only [List.size_toArray]; omega) ⟨H, I.tok _, by rw [isEmpty_of r]; exact q⟩
    · subst e'
      obtain ⟨its, r, pl, hz⟩ := I.tuple hx
      have hlen := r.length
      exact truthy_tuple pl (by simp only [List.size_toArray]; omega) ⟨H, I.tok _, by rw [isEmpty_of r]; exact q⟩
    · subst e'
      obtain ⟨hz, hS, vs, r, m⟩ : kvs.length ≤ sizeLine ∧ (p == sysModules) = false ∧ ∃ vs, KV kvs vs ∧ s.heap.DictOf (mixKind X.prog X.w) p vs := I.hok p _ hx
      have hlen : kvs.length = vs.length := Paired.length r
      exact wpAny_truthy_dict hS m (by omega) ⟨H, I.tok _, by rw [isEmpty_kv r]; exact q⟩
  | _ => exact (show False from e).elim
theorem pt_truth (ha : PE X a ta) (he : ∀ whole, isTrue a X.env whole = (do let v ← whole; standAt a.pos; holding [v] (truthy v))) :
    PT X a (fun σ H Q => ta σ H fun x H' => ∃ k, TruV X.K x H' k ∧ Q k H') := by
  intro pins s σ H Q I h
  exact isTrue_plain (thn (ha pins s σ H _ I h) fun v s1 ⟨x, H1, I1, r1, q1⟩ => tru_ok pins s1 σ H1 x v Q I1 r1 q1) (he _)

theorem vals1 {x : V} {us : List Value} (r : Vals [x] us) : ∃ u, us = [u] ∧ RelV x u := by
  cases r with
  | cons r1 r2 => cases r2; exact ⟨_, rfl, r1⟩
theorem vals2 {x y : V} {us : List Value} (r : Vals [x, y] us) : ∃ u w', us = [u, w'] ∧ RelV x u ∧ RelV y w' := by
  cases r with
  | cons r1 r2 =>
    cases r2 with
    | cons r3 r4 => cases r4; exact ⟨_, _, rfl, r1, r3⟩
theorem call_max2 (hc : X.calm = true) : CallR X (.builtin "max") (fun xs H Q => ∃ i j, xs = [.int i, .int j] ∧ Q (.int (if j > i then j else i)) H) := by
  intro pins s σ H xs us Q I r h
  obtain ⟨i, j, rfl, q⟩ := h
  obtain ⟨u, w', rfl, ⟨t, rfl⟩, ⟨t', rfl⟩⟩ := vals2 r
  refine max_two_ints (I.ok.hd hc) fun h' tk k => ⟨_, H, I.kept k, ?_, q⟩
  by_cases hj : j > i
  · rw [if_pos hj, if_pos hj]; exact ⟨_, rfl⟩
  · rw [if_neg hj, if_neg hj]; exact ⟨_, rfl⟩
end
end L2

namespace L2
open PySem PySem.Spec PyProof.Rows

structure ObjM (h : Heap) (x dx C : Addr) (mA : Str → Option Value) : Prop where
  obj : h.get? x = some (PySem.W.instObj C dx)
  ns : h.Ns1 dx mA
  ne : dx ≠ x

section
variable {prog : Program} {w : World} {A : Around} {E : Value → Shared → Prop} {s : Shared} {K : PySem.W.Frag} {x dx C f : Addr} {mA : Str → Option Value} {name : Str} {v : Value}

end

section
variable {P : Program} {w : World} {H H' : Hp} {h h' : Heap} {a C dx : Addr} {fs fs' : List (Str × V)}
end

structure Cls (K : PySem.W.Frag) (C : Addr) : Prop where
  pg : PySem.W.plainGet K C Str.empty = true
  hd : PySem.W.hasDictIn K C = true
  po : PySem.W.plainOver K C = true
  sa : PySem.W.findIn K (.ref C) "__setattr__" = some (some (.builtin "object.__setattr__"))
structure Con (K : PySem.W.Frag) (C : Addr) (f : Str) (v : V) (u : Value) : Prop where
  at_ : PySem.W.findIn K (.ref C) f = some (some u)
  rel : RelV v u
  get : PySem.W.specialIn K u "__get__" = some none
  cp : PySem.W.copiedNames.contains f = false
structure Meth (K : PySem.W.Frag) (C : Addr) (m : Str) (f : Addr) : Prop where
  at_ : PySem.W.findIn K (.ref C) m = some (some (.ref f))
  fn : PySem.W.isFn K (.ref f) = true
  kp : PySem.W.keepIn K (.ref f) = true

section
variable {X : Cx} {pins : List (Addr × Obj)} {σ : St} {H : Hp} {s : Shared} {a C dx : Addr} {fs : List (Str × V)} {f : Str} {v : V} {A : Around} {E : Value → Shared → Prop}

end

section
variable {X : Cx} {o e value : Expr} {f : Str} {pos pos' tpos : Pos} {ta tv : TE}
end

section
variable {X : Cx} {pins : List (Addr × Obj)} {σ : St} {H : Hp} {s : Shared} {A : Around} {E : Value → Shared → Prop} {Q : Value → Shared → Prop} {c : Value} {b : Bool}
inductive TyOf (K : PySem.W.Frag) (H : Hp) : V → Value → Prop where
  | non : TyOf K H .non (.type "NoneType")
  | bl (x : Bool) : TyOf K H (.bl x) (.type "bool")
  | int (i : Int) : TyOf K H (.int i) (.type "int")
  | str (x : Str) : TyOf K H (.str x) (.type "str")
  | flt (x : UInt64) : TyOf K H (.flt x) (.type "float")
  | lst {a : Addr} {xs : List V} (e : H a = some (.lst xs)) : TyOf K H (.ref a) (.type "list")
  | frz {a : Addr} {o : Obj} {xs : List V} (e : H a = some (.frz o (.lst xs))) : TyOf K H (.ref a) (.type "list")
  | tup {a : Addr} {xs : List V} (e : H a = some (.tup xs)) : TyOf K H (.ref a) (.type "tuple")
  | dK {a : Addr} {kvs : List (Key × V)} (e : H a = some (.dK kvs)) : TyOf K H (.ref a) (.type "dict")
  | dT {a : Addr} {kvs : List (List Key × V)} (e : H a = some (.dT kvs)) : TyOf K H (.ref a) (.type "dict")
  | ins {a C dx : Addr} {fs : List (Str × V)} (e : H a = some (.ins C dx fs)) (cl : Cls K C) (ha : PySem.W.findIn K (.ref C) "__class__" = some (some (.builtin "object.__class__")))
      (hn : PySem.W.specialIn K (.builtin "object.__class__") "__get__" = some (some (.builtin "getset_descriptor.__get__"))) (htk : PySem.W.takesIn K (.builtin "object.__class__") = some true)
      (hm : PySem.W.mroIn K C (.type "object") = some true) : TyOf K H (.ref a) (.ref C)
end
end L2

namespace L2
open PySem PySem.Spec PyProof.Rows

structure Room (k : Nat) (A : Around) : Prop where
  hd : A.handled = none
  dp : A.depth + 3 * k + 5 < recursionLimit
  un : A.units + 16 * k + 200 < cLine
theorem Room.mono {j k : Nat} {A : Around} (r : Room k A) (h : j ≤ k) : Room j A := ⟨r.hd, by have := r.dp; omega, by have := r.un; omega⟩
theorem Room.deeper {k : Nat} {A : Around} (r : Room (k + 1) A) (env : Env) : Room k (A.deeper env) :=
  ⟨r.hd, by have := r.dp; show A.depth + 1 + 3 * k + 5 < _; omega, by have := r.un; show A.units + 3 + 16 * k + 200 < _; omega⟩
theorem Room.in1 {k : Nat} {A : Around} (r : Room (k + 1) A) : Room k A.in1 :=
  ⟨r.hd, by have := r.dp; show A.depth + 3 * k + 5 < _; omega, by have := r.un; show A.units + 1 + 16 * k + 200 < _; omega⟩
theorem Room.depth {k : Nat} {A : Around} (r : Room k A) : A.depth < recursionLimit := by have := r.dp; omega
theorem Room.units {k : Nat} {A : Around} (r : Room k A) : A.units + 64 < cLine := by have := r.un; omega
theorem Room.units0 {k : Nat} {A : Around} (r : Room k A) : A.units < cLine := by have := r.un; omega

noncomputable def tNil : TA := fun _ H Q => Q [] H
noncomputable def tCons (ta : TE) (tr : TA) : TA := fun σ H Q => ta σ H fun x H1 => tr σ H1 fun xs H2 => Q (x :: xs) H2
section
variable {X : Cx} {e : Expr} {es : List Expr} {te : TE} {t : TA} {pos : Pos}
theorem pa_nil : PA X [] tNil := fun _ _ _ _ H Q I h => Calls.spliced_nil ⟨[], H, I, .nil, h⟩
theorem pa_cons (ha : PE X e te) (hr : PA X es t) (hs : starEach (e :: es) X.env = (false, eval e X.env) :: starEach es X.env := by rfl) : PA X (e :: es) (tCons te t) := by
  intro pos pins s σ H Q I h
  rw [hs]
  show wpAny _ _ (spliced ((false, eval e X.env) :: backTo pos (starEach es X.env))) _ _ s
  refine Calls.spliced_cons (thn (ha pins s σ H _ I h) fun u s1 ⟨x, H1, I1, r1, q1⟩ => ?_)
  exact thn (hr pos pins s1 σ H1 _ I1 q1) fun us s2 ⟨xs, H2, I2, r2, q2⟩ => ⟨x :: xs, H2, I2, .cons r1 r2, q2⟩

noncomputable def tTup (t : TA) : TE := fun σ H Q => t σ H fun xs H1 => xs.length ≤ sizeLine ∧ ∀ p, H1 p = none → Q (.ref p) (upd H1 p (.tup xs))
noncomputable def tLst (t : TA) : TE := fun σ H Q => t σ H fun xs H1 => xs.length ≤ sizeLine ∧ ∀ p, H1 p = none → Q (.ref p) (upd H1 p (.lst xs))
theorem pe_tup {x1} (h : PA X es t) : PE X (.Tuple es x1 pos) (tTup t) := by
  intro pins s σ H Q I hq
  refine wpAny_Tuple_spliced (thn (h pos pins s σ H _ I hq) fun us s1 ⟨xs, H1, I1, r, z, q⟩ => ⟨by rw [← r.length]; exact z, ?_⟩)
  have hf : H1 s1.heap.objs.size = none := I1.hok.fresh (Nat.le_refl _)
  refine ⟨.ref s1.heap.objs.size, upd H1 s1.heap.objs.size (.tup xs), I1.laid (t' := s1.toks) (fun b u e => Heap.get?_push_of_some _ e) (Nat.le_refl _) ?_, rfl, q _ hf⟩
  exact ⟨z, us, r, ⟨_, Heap.get?_push_size _ rfl, rfl, _, rfl⟩⟩
theorem pe_lst (h : PA X es t) : PE X (.List es pos) (tLst t) := by
  intro pins s σ H Q I hq
  refine wpAny_List_spliced (thn (h pos pins s σ H _ I hq) fun us s1 ⟨xs, H1, I1, r, z, q⟩ => ⟨by rw [← r.length]; exact z, ?_⟩)
  have hf : H1 s1.heap.objs.size = none := I1.hok.fresh (Nat.le_refl _)
  refine ⟨.ref s1.heap.objs.size, upd H1 s1.heap.objs.size (.lst xs), I1.laid (t' := s1.toks) (fun b u e => Heap.get?_push_of_some _ e) (Nat.le_refl _) ?_, rfl, q _ hf⟩
  exact ⟨z, us, 0, r, Heap.get?_push_size _ rfl⟩
end

noncomputable abbrev Sp := List V → Hp → VK → XK → Prop
noncomputable abbrev CXT := List Env → Hp → Shared → XK → Value → Shared → Prop

structure Env0 (P : Program) (w : World) (K : PySem.W.Frag) (mg : Str → Option Value) (base : Heap) (A : Around) (outer : List Env) (s : Shared) (H : Hp) : Prop where
  frames : A.frames = some outer
  mod : Mod K mg base
  bs : ∀ b o, base.get? b = some o → s.heap.get? b = some o ∧ H b = none
  bsz : base.objs.size ≤ s.heap.objs.size
  funs : s.heap.FunFrames base outer
  frf : ∀ b ∈ frs outer, H b = none
  hok : HOk P w H s.heap
  bare : AllBare s.gens
noncomputable def CE (outer : List Env) (P : Program) (w : World) (H : Hp) (s : Shared) (Q : VK) (u : Value) (s' : Shared) : Prop :=
  ∃ v H', s'.os = s.os ∧ AllBare s'.gens ∧ Un (frs outer) [] H H' s.heap s'.heap ∧ HOk P w H' s'.heap ∧ RelV v u ∧ Q v H'
noncomputable def CR (CX : CXT) (outer : List Env) (P : Program) (w : World) (H : Hp) (s : Shared) (Q : VK) (E : XK) (r : Result) (s' : Shared) : Prop :=
  match r with
  | .ok (.ret u) => CE outer P w H s Q u s'
  | .ok _ => False
  | .error e => CX outer H s E e s'
structure FnOk (P : Program) (w : World) (K : PySem.W.Frag) (mg : Str → Option Value) (base : Heap) (CX : CXT) (k : Nat) (f : Addr) (fd : FuncData) (ps : List Str) (sp : Sp) : Prop where
  len : ∀ vs H Q E, sp vs H Q E → vs.length = ps.length
  run : ∀ (A : Around) (outer : List Env) (s : Shared) (H : Hp) (args : Args) (us : List Value) (vs : List V) (Q : VK) (E : XK), Room k A → Env0 P w K mg base A outer s H → BindsTo s fd args (ps.zip us) → Vals vs us → sp vs H Q E →
    codeAny (model P w) A (.call (.ref f) args) (CR CX outer P w H s Q E) s
section
variable {X : Cx} {pins : List (Addr × Obj)} {σ : St} {H : Hp} {s s' : Shared}
theorem Inv.env0 (I : Inv X pins σ H s) : Env0 X.prog X.w X.K X.mg X.base X.A X.stack s H :=
  ⟨I.ok.frames, I.ok.mod, I.bs, Nat.le_trans I.ok.bsz I.sz, I.stack, I.stkFree, I.hok, I.bare⟩
theorem Inv.after {Q : VK} {u : Value} (I : Inv X pins σ H s) (h : CE X.stack X.prog X.w H s Q u s') : EP X pins σ Q u s' := by
  obtain ⟨v, H', os, bare, un, hok, r, q⟩ := h
  obtain ⟨hh, g, d, t, os'⟩ := s'
  obtain rfl : os' = s.os := os
  exact ⟨v, H', I.call (h' := hh) (g' := g) (d' := d) (t' := t) (ch := []) un hok bare (fun b z => absurd z (by simp)), r, q⟩
end

noncomputable def tCall (sp : Sp) (dvs : List V) (E : XK) (t : TA) : TE := fun σ H Q => t σ H fun vs H1 => sp (vs ++ dvs) H1 Q E
noncomputable def Binds (K : PySem.W.Frag) (fd : FuncData) (ps : List Str) (ds : List Value) : Prop :=
  ∀ (s : Shared) (us : List Value), K.In s.heap → (us ++ ds).length = ps.length → BindsTo s fd ⟨us, []⟩ (ps.zip (us ++ ds))
theorem Binds.all {K : PySem.W.Frag} {fd : FuncData} {ps : List Str} (h : ∀ us : List Value, us.length = ps.length → bindArgs fd ⟨us, []⟩ = pure (ps.zip us)) : Binds K fd ps [] := fun s us _ hl => by
  rw [List.append_nil] at hl ⊢
  exact .of_eq (h us hl)

noncomputable def Passes (CX : CXT) (X : Cx) (E : XK) : Prop := ∀ (pins : List (Addr × Obj)) (σ : St) (H : Hp) (s : Shared) (e : Value) (s' : Shared), Inv X pins σ H s → CX X.stack H s E e s' → X.xe e s'

section
variable {X : Cx} {CX : CXT} {k : Nat} {f C : Addr} {fd : FuncData} {ps : List Str} {sp : Sp} {dvs : List V} {ds : List Value} {E : XK} {x m : Str} {p pos apos : Pos} {e o : Expr} {es : List Expr} {ta : TE} {t : TA}

theorem run_fn {pins : List (Addr × Obj)} {σ : St} {H : Hp} {s : Shared} {Q : VK} {us : List Value} {vs : List V} (F : FnOk X.prog X.w X.K X.mg X.base CX k f fd ps sp) (hr : Room k X.A) (hb : Binds X.K fd ps ds) (hd : Vals dvs ds) (hx : Passes CX X E)
    (I : Inv X pins σ H s) (r : Vals vs us) (h : sp (vs ++ dvs) H Q E) : wpAny (model X.prog X.w) X.A (call (.ref f) us) (EP X pins σ Q) X.xe s := by
  have r2 : Vals (vs ++ dvs) (us ++ ds) := r.append hd
  have hl : (us ++ ds).length = ps.length := by rw [← r2.length]; exact F.len _ _ _ _ h
  refine wpAny_call (codeAny_mono (F.run X.A X.stack s H ⟨us, []⟩ (us ++ ds) (vs ++ dvs) Q E hr I.env0 (hb s us I.kIn hl) r2 h) fun r s' hq => ?_)
  cases r with
  | error e => exact hx pins σ H s e s' I hq
  | ok fl =>
    cases fl with
    | ret u => exact I.after hq
    | next => exact False.elim hq
    | brk => exact False.elim hq
    | cont => exact False.elim hq

theorem pe_call (F : FnOk X.prog X.w X.K X.mg X.base CX k f fd ps sp) (hr : Room k X.A) (hg : Gl X x) (hm : X.mg x = some (.ref f)) (hk : PySem.W.keepIn X.K (.ref f) = true) (hb : Binds X.K fd ps ds) (hd : Vals dvs ds) (hx : Passes CX X E)
    (ha : PA X (e :: es) t) (hdb : (x == ("__debug__" : Str)) = false := by decide) (he : starEach (e :: es) X.env = (false, eval e X.env) :: starEach es X.env := by rfl) (hpl : (backTo pos (starEach es X.env)).any (·.1) = false := by rfl) :
    PE X (.Call (.Name x p) (e :: es) [] pos) (tCall sp dvs E t) := by
  intro pins s σ H Q I h
  refine wpAny_Call_Name_kw (ld_glob I hg hm ?_ hdb)
  refine PySem.W.callWith_K (h₀ := X.base) I.ok.mod.kin hk (thn (ha pos pins s σ H _ I h) fun us s1 ⟨vs, H1, I1, r, q⟩ => ⟨I1.kIn, ?_⟩) he hpl
  exact run_fn F hr hb hd hx I1 r q
structure Mk (K : PySem.W.Frag) (C f : Addr) : Prop where
  makes : PySem.W.makesIn K C = true
  init : PySem.W.findIn K (.ref C) "__init__" = some (some (.ref f))
  fn : PySem.W.isFn K (.ref f) = true
  kp : PySem.W.keepIn K (.ref C) = true

end

section
variable {X : Cx} {CX : CXT} {k : Nat} {f C : Addr} {fd : FuncData} {ps ks : List Str} {sp : Sp} {E : XK} {x m : Str} {p pos apos kpos : Pos} {e o : Expr} {es : List Expr} {kws : List Keyword} {te ta : TE} {t tk : TA} {nm : Option Str}
structure KBinds (K : PySem.W.Frag) (fd : FuncData) (ps ks : List Str) (g : List Value → List Value → List Value) (gV : List V → List V → List V) : Prop where
  to : ∀ (s : Shared) (us ws : List Value), K.In s.heap → (g us ws).length = ps.length → BindsTo s fd ⟨us, ks.zip ws⟩ (ps.zip (g us ws))
  rel : ∀ {vs : List V} {us : List Value} {zs : List V} {ws : List Value}, Vals vs us → Vals zs ws → Vals (gV vs zs) (g us ws)
variable {g : List Value → List Value → List Value} {gV : List V → List V → List V}
end

structure FnScope (N P : List Str) (sc : Scope) : Prop where
  kind : sc.kind = .function
  co : sc.isCoroutine = false
  gen : sc.isGenerator = false
  nd : N.Nodup
  pre : N.take P.length = P
  par : ∀ x ∈ P, sc.names.lookup x = some .local ∨ sc.names.lookup x = some .cell
  nofree : ∀ y ∈ sc.names, y.2 ≠ .free

theorem bindL_out {kindOf : Str → Option NameKind} {x : Str} : ∀ {binds : List (Str × Value)} {m : Str → Option Value}, (∀ v, (x, v) ∉ binds) → bindL kindOf binds m x = m x
  | [], _, _ => rfl
  | (n, v) :: r, m, h => by
    unfold bindL
    rw [bindL_out fun w hw => h w (List.mem_cons_of_mem _ hw)]
    split
    · have : x ≠ n := by rintro rfl; exact h v List.mem_cons_self
      simp [this]
    · rfl
theorem bindC_out {kindOf : Str → Option NameKind} {x : Str} : ∀ {binds : List (Str × Value)} {m : Str → Option Value}, (∀ v, (x, v) ∉ binds) → bindC kindOf binds m x = m x
  | [], _, _ => rfl
  | (n, v) :: r, m, h => by
    unfold bindC
    rw [bindC_out fun w hw => h w (List.mem_cons_of_mem _ hw)]
    split
    · rfl
    · have : x ≠ n := by rintro rfl; exact h v List.mem_cons_self
      simp [this]
theorem bindL_get {kindOf : Str → Option NameKind} {x : Str} {v : Value} : ∀ {P : List Str} {vs : List Value} {i : Nat} {m : Str → Option Value}, P.Nodup → P[i]? = some x → vs[i]? = some v → kindOf x = some .local →
    bindL kindOf (P.zip vs) m x = some v
  | [], _, _, _, _, h, _, _ => by simp at h
  | _ :: _, [], _, _, _, _, h, _ => by simp at h
  | p :: P, w :: vs, 0, m, nd, h1, h2, hk => by
    simp at h1 h2; subst h1; subst h2
    show bindL kindOf ((p, w) :: P.zip vs) m p = _
    unfold bindL
    rw [bindL_out fun v hv => (List.nodup_cons.mp nd).1 (List.of_mem_zip hv).1, if_pos hk]
    simp
  | p :: P, w :: vs, i + 1, m, nd, h1, h2, hk => by
    show bindL kindOf ((p, w) :: P.zip vs) m x = _
    unfold bindL
    exact bindL_get (i := i) (List.nodup_cons.mp nd).2 (by simpa using h1) (by simpa using h2) hk
theorem bindC_get {kindOf : Str → Option NameKind} {x : Str} {v : Value} : ∀ {P : List Str} {vs : List Value} {i : Nat} {m : Str → Option Value}, P.Nodup → P[i]? = some x → vs[i]? = some v → kindOf x ≠ some .local →
    bindC kindOf (P.zip vs) m x = some v
  | [], _, _, _, _, h, _, _ => by simp at h
  | _ :: _, [], _, _, _, _, h, _ => by simp at h
  | p :: P, w :: vs, 0, m, nd, h1, h2, hk => by
    simp at h1 h2; subst h1; subst h2
    show bindC kindOf ((p, w) :: P.zip vs) m p = _
    unfold bindC
    rw [bindC_out fun v hv => (List.nodup_cons.mp nd).1 (List.of_mem_zip hv).1, if_neg hk]
    simp
  | p :: P, w :: vs, i + 1, m, nd, h1, h2, hk => by
    show bindC kindOf ((p, w) :: P.zip vs) m x = _
    unfold bindC
    exact bindC_get (i := i) (List.nodup_cons.mp nd).2 (by simpa using h1) (by simpa using h2) hk

noncomputable def start (N : List Str) (vs : List V) : St := vs.map some ++ List.replicate (N.length - vs.length) none

noncomputable def cxOf (CX : CXT) (P : Program) (w : World) (K : PySem.W.Frag) (mg : Str → Option Value) (base : Heap) (N : List Str) (qual : Str) (scope : Scope) (f : Addr) (cd : Value) (A : Around) (outer : List Env) (s : Shared) (H : Hp) (E : XK) : Cx where
  prog := P
  w := w
  K := K
  mg := mg
  base := base
  A := A.deeper (envOfC qual scope s.heap.objs.size f cd)
  N := N
  s₀ := s
  H₀ := H
  env := envOfC qual scope s.heap.objs.size f cd
  outer := outer
  stack := envOfC qual scope s.heap.objs.size f cd :: outer
  ex := []
  calm := true
  fn := fun _ => true
  pn := []
  xe := fun e s' => wpAny (model P w) (A.deeper (envOfC qual scope s.heap.objs.size f cd)) (leaving (envOfC qual scope s.heap.objs.size f cd) e) (fun _ s'' => CX outer H s E e s'') (fun e' s'' => CX outer H s E e' s'') s'

theorem cell_has {sc : Scope} {n : Nat} {x : Str} (h : sc.names.lookup x = some .cell) : ∃ c, (cellsFrom n sc.names []).lookup x = some c := by
  have q := PySem.W.cellsFrom_some sc.names n [] (.inl h)
  exact Option.isSome_iff_exists.mp q

theorem inv_start {CX : CXT} {P : Program} {w : World} {K : PySem.W.Frag} {mg : Str → Option Value} {base : Heap} {N ps : List Str} {qual : Str} {scope : Scope} {f : Addr} {cd : Value} {A : Around} {outer : List Env} {s s1 : Shared} {H : Hp} {E : XK} {us : List Value} {vs : List V}
    (S : FnScope N ps scope) (hd : A.handled = none) (e0 : Env0 P w K mg base A outer s H) (hl : vs.length = ps.length) (r : Vals vs us)
    (x : InCallC s s.heap.objs.size (bindL (envOfC qual scope s.heap.objs.size f cd).kindOf (ps.zip us) fun _ => none) (cellsFrom (s.heap.objs.size + 1) scope.names []) (bindC (envOfC qual scope s.heap.objs.size f cd).kindOf (ps.zip us) fun _ => none) s1) :
    Inv (cxOf CX P w K mg base N qual scope f cd A outer s H E) [] (start N vs) H s1 := by
  have hpl : ps.length ≤ N.length := by have := congrArg List.length S.pre; rw [List.length_take] at this; omega
  obtain ⟨h1, tk, rfl, hk⟩ := x.done
  have noA : ∀ b : Addr, b ∉ (cxOf CX P w K mg base N qual scope f cd A outer s H E).ex := fun b z => absurd (show b ∈ ([] : List Addr) from z) (by simp)
  refine ⟨⟨e0.mod, S.kind, rfl, rfl, Nat.le_refl _, fun y z c h1 h2 => ?_, fun y hy => ?_, fun y c _ h => ?_, fun _ => hd, Around.frames_deeper e0.frames, .inr ⟨rfl, rfl⟩, fun b z => absurd z (noA b), e0.bs, e0.bsz, fun b _ _ => noA b, fun b z => absurd z (noA b), e0.funs, e0.frf⟩,
    rfl, e0.bare, Un.kept hk, ⟨_, x.toInCall.ns, fun i y v h1 h2 h3 => ?_⟩, fun y c h => ⟨_, x.cell y c h⟩, e0.hok.fresh (Nat.le_refl _), fun y c h => ?_, fun p hp => absurd (show p ∈ ([] : List (Addr × Obj)) from hp) (by simp), e0.hok.kept hk, ?_⟩
  · exact name_of_addr x.apart (PySem.mem_of_lookup h1) (PySem.mem_of_lookup h2)
  · have hy : scope.names.lookup y = some .cell ∨ scope.names.lookup y = some .free := hy
    rcases hy with hy | hy
    · exact cell_has hy
    · exact absurd rfl (S.nofree _ (PySem.mem_of_lookup hy))
  · exact Nat.le_of_lt (x.above y c (PySem.mem_of_lookup h))
  · have hi : i < vs.length := by
      unfold start at h2
      by_cases hi : i < vs.length
      · exact hi
      · rw [List.getElem?_append_right (by simpa using hi)] at h2
        rw [List.getElem?_replicate] at h2
        split at h2 <;> cases h2
    have ha : vs[i]? = some v := by
      unfold start at h2
      rw [List.getElem?_append_left (by simpa using hi), List.getElem?_map] at h2
      cases e : vs[i]? with
      | none => rw [e] at h2; cases h2
      | some a => rw [e] at h2; cases h2; rfl
    obtain ⟨u, hu, rv⟩ := r.get ha
    have hp : ps[i]? = some y := by
      rw [← S.pre, List.getElem?_take_of_lt (by omega)]; exact h1
    have ndP : ps.Nodup := by rw [← S.pre]; exact S.nd.sublist (List.take_sublist _ _)
    refine ⟨u, rv, ?_⟩
    rcases S.par y (List.mem_of_getElem? hp) with k | k
    · exact .inl ⟨k, bindL_get ndP hp hu k⟩
    · obtain ⟨c, e⟩ := cell_has (n := s.heap.objs.size + 1) k
      refine .inr ⟨.inl k, c, e, ?_⟩
      have q := x.cell y c e
      rw [bindC_get ndP hp hu (by show scope.names.lookup y ≠ _; rw [k]; decide)] at q
      exact q
  · exact e0.hok.fresh (Nat.le_of_lt (x.above y c (PySem.mem_of_lookup h)))
  · unfold start
    show _ = N.length
    rw [List.length_append, List.length_map, List.length_replicate]
    omega

theorem fn_of {CX : CXT} {P : Program} {w : World} {K : PySem.W.Frag} {mg : Str → Option Value} {base : Heap} {k : Nat} {f : Addr} {name qual : Str} {params : Arguments} {body : List Stmt} {scope : Scope} {dV kV doc pm cdv ct oc : Value} {an od : Option Addr}
    {osl : Array (Option Value)} {N ps : List Str} {sp : Sp} (lk : K.lookup f = some ⟨oc, od, .func (PySem.W.fnOf name qual params body scope dV kV doc pm an cdv ct), osl⟩) (hcd : PySem.W.codeIn K cdv qual = true) (S : FnScope N ps scope)
    (len : ∀ vs H Q E, sp vs H Q E → vs.length = ps.length)
    (hbody : ∀ (A : Around) (outer : List Env) (s : Shared) (H : Hp) (vs : List V) (Q : VK) (E : XK), Room k (A.deeper (envOfC qual scope s.heap.objs.size f cdv)) → sp vs H Q E →
      ∃ t, PSs (cxOf CX P w K mg base N qual scope f cdv A outer s H E) body t ∧ t { nx := fun _ H' => Q .non H', rt := Q } (start N vs) H) :
    FnOk P w K mg base CX (k + 1) f (PySem.W.fnOf name qual params body scope dV kV doc pm an cdv ct) ps sp := by
  refine ⟨len, fun A outer s H args us vs Q E hr e0 hb r hsp => ?_⟩
  have hl := len _ _ _ _ hsp
  have KX : K.In s.heap := e0.mod.kin.keeps fun b o e => (e0.bs b o e).1
  have lim : s.heap.NoLimit := e0.mod.nolimit.keeps fun b o e => (e0.bs b o e).1
  have hkind : ∀ y ∈ ps.zip us, scope.names.lookup y.1 = some .local ∨ (scope.names.lookup y.1 = some .cell ∧ ((cellsFrom (s.heap.objs.size + 1) scope.names []).lookup y.1).isSome = true) := fun ⟨n, v⟩ hy => by
    rcases S.par n (List.of_mem_zip hy).1 with q | q
    · exact .inl q
    · exact .inr ⟨q, PySem.W.cellsFrom_some _ _ _ (.inl q)⟩
  refine codeAny_call_function hr.depth (KX _ _ lk) rfl S.co S.gen rfl (PySem.W.codeRec_of KX hcd) (hb _ _ _ _ ?_)
  refine wpAny_newFunctionEnv_cells S.kind hkind fun env he s1 x => ?_
  subst he
  refine ⟨lim.keeps x.toInCall.keep, codeAny_func ?_⟩
  obtain ⟨t, ht, hq⟩ := hbody A outer s H vs Q E (hr.deeper _) hsp
  have I : Inv (cxOf CX P w K mg base N qual scope f cdv A outer s H E) [] (start N vs) H s1 := inv_start S hr.hd e0 hl r x
  refine wpAny_mono (ht [] s1 (start N vs) H _ I hq) (fun fl s' hs => ?_) fun e s' hs => hs
  have fin : ∀ {σ' : St} {H' : Hp} {v : V} {u : Value}, Inv (cxOf CX P w K mg base N qual scope f cdv A outer s H E) [] σ' H' s' → RelV v u → Q v H' → CE outer P w H s Q u s' :=
    fun {σ' H' v u} J rv q => ⟨v, H', J.os, J.bare, J.base, J.hok, rv, q⟩
  cases fl with
  | ret u =>
    obtain ⟨v, σ', H', J, rv, q⟩ := hs
    exact fin J rv q
  | next =>
    obtain ⟨σ', H', J, q⟩ := hs
    exact fin (v := V.non) (u := Value.none) J rfl q
  | brk =>
    obtain ⟨_, _, _, q⟩ := hs
    exact False.elim q
  | cont =>
    obtain ⟨_, _, _, q⟩ := hs
    exact False.elim q
end L2

namespace L2
open PySem PySem.Spec PyProof.Rows
section
variable {X : Cx} {x : Str} {p pos : Pos} {e : Expr} {es : List Expr} {t : TA} {id T : String} {r : List V → Hp → VK → Prop}

noncomputable def tCB (r : List V → Hp → VK → Prop) (t : TA) : TE := fun σ H Q => t σ H fun vs H1 => r vs H1 Q
theorem pe_callB (hc : CallR X (.builtin id) r) (hg : Gl X x) (hm : X.mg x = none) (hv : bootBuiltins x = some (.builtin id)) (ha : PA X (e :: es) t) (hn : x ≠ "__name__" := by decide) (hdb : (x == ("__debug__" : Str)) = false := by decide)
    (he : starEach (e :: es) X.env = (false, eval e X.env) :: starEach es X.env := by rfl) (hpl : (backTo pos (starEach es X.env)).any (·.1) = false := by rfl) : PE X (.Call (.Name x p) (e :: es) [] pos) (tCB r t) := by
  intro pins s σ H Q I h
  refine wpAny_Call_Name_kw (ld_blt I hg hm hv ?_ hn hdb)
  exact PyProof.Rows.callWith_builtin1 (thn (ha pos pins s σ H _ I h) fun us s1 ⟨vs, H1, I1, r1, q1⟩ => hc pins s1 σ H1 vs us Q I1 r1 q1) he hpl
theorem pe_callTy (hc : CallR X (.type T) r) (hg : Gl X x) (hm : X.mg x = none) (hv : bootBuiltins x = some (.type T)) (ha : PA X (e :: es) t) (hn : x ≠ "__name__" := by decide) (hdb : (x == ("__debug__" : Str)) = false := by decide)
    (he : starEach (e :: es) X.env = (false, eval e X.env) :: starEach es X.env := by rfl) (hpl : (backTo pos (starEach es X.env)).any (·.1) = false := by rfl) : PE X (.Call (.Name x p) (e :: es) [] pos) (tCB r t) := by
  intro pins s σ H Q I h
  refine wpAny_Call_Name_kw (ld_blt I hg hm hv ?_ hn hdb)
  exact PyProof.Rows.callWith_type1 (thn (ha pos pins s σ H _ I h) fun us s1 ⟨vs, H1, I1, r1, q1⟩ => hc pins s1 σ H1 vs us Q I1 r1 q1) he hpl
end
end L2

namespace HT
open PySem PyProof.Rows

section
open PySem.SeqAt
open PySem.AutoSeq1 (wpAny_loadPart')
open PySem.MeetsSeq PySem.MeetsSeq2 PySem.MeetsSeq3

end

section
variable {prog : Program} {w : World} {A : Around} {E : Value → Shared → Prop} {s : Shared}

noncomputable def sIx (n d : Nat) : Option Int → Nat
  | none => d
  | some v => if v < 0 then (v + (n : Int)).toNat else min v.toNat n
theorem sIx_none (n d : Nat) : sIx n d none = d := rfl
theorem sIx_nat (n d k : Nat) : sIx n d (some (k : Int)) = min k n := by
  show (if (k : Int) < 0 then ((k : Int) + (n : Int)).toNat else min (k : Int).toNat n) = min k n
  rw [if_neg (by omega), Int.toNat_natCast]
end
end HT

namespace L2
open PySem PySem.Spec PyProof.Rows

noncomputable abbrev TO := St → Hp → (Option Int → Hp → Prop) → Prop
noncomputable def PO (X : Cx) (e : Option Expr) (t : TO) : Prop :=
  ∀ (pins : List (Addr × Obj)) (s : Shared) (σ : St) (H : Hp) (Q : Option Int → Hp → Prop), Inv X pins σ H s → t σ H Q →
    wpAny (model X.prog X.w) X.A (evalPart e X.env) (fun u s' => ∃ o H', Inv X pins σ H' s' ∧ IsPart u o ∧ Q o H') X.xe s
noncomputable def tNoPart : TO := fun _ H Q => Q none H
noncomputable def tPart (t : TE) : TO := fun σ H Q => t σ H fun x H1 => ∃ i, x = .int i ∧ Q (some i) H1

theorem intsAre_of {ns : List Int} : ∀ {us : List Value}, Vals (ns.map V.int) us → IntsAre us ns := by
  induction ns with
  | nil => intro us r; rw [List.map_nil] at r; cases r; exact .nil
  | cons n ns ih =>
    intro us r
    rw [List.map_cons] at r
    cases r with
    | cons r1 r2 =>
      obtain ⟨t, e⟩ := r1
      subst e
      exact .cons n t (ih r2)

section
variable {X : Cx} {e : Expr} {te : TE} {lo hi : Option Expr} {tl th : TO} {pos p2 : Pos}

theorem po_none : PO X none tNoPart := by
  intro pins s σ H Q I h
  rw [evalPart_none]
  exact wpAny_pure ⟨none, H, I, .none, h⟩
theorem po_some (h : PE X e te) : PO X (some e) (tPart te) := by
  intro pins s σ H Q I hw
  rw [evalPart_some]
  refine thn (h pins s σ H _ I hw) fun u s1 ⟨x, H1, I1, r1, q1⟩ => ?_
  obtain ⟨i, rfl, q⟩ := q1
  obtain ⟨t, rfl⟩ := r1
  exact ⟨some i, H1, I1, .int i t, q⟩

noncomputable def SlR (X : Cx) (r : V → Option Int → Option Int → Hp → VK → Prop) : Prop :=
  ∀ (pins : List (Addr × Obj)) (s : Shared) (σ : St) (H : Hp) (x : V) (v vl vu : Value) (lo hi : Option Int) (sl : Addr) (Q : VK), Inv X pins σ H s → RelV x v → s.heap.IsSliceOf sl vl vu .none → IsPart vl lo → IsPart vu hi → r x lo hi H Q →
    ∃ T id, typeLookup (.type T) "__getitem__" = pure (some (.builtin id)) ∧ s.TypeIs v T ∧ wpAny (model X.prog X.w) X.A (getItem v (.ref sl)) (EP X pins σ Q) X.xe s
noncomputable def tSl (r : V → Option Int → Option Int → Hp → VK → Prop) (te : TE) (tl th : TO) : TE := fun σ H Q => te σ H fun x H1 => tl σ H1 fun l H2 => th σ H2 fun u H3 => r x l u H3 Q
theorem pe_slice {r : V → Option Int → Option Int → Hp → VK → Prop} (hr : SlR X r) (he : PE X e te) (hl : PO X lo tl) (hu : PO X hi th) : PE X (.Subscript e (.Slice lo hi none p2) pos) (tSl r te tl th) := by
  intro pins s σ H Q I h
  refine Subscript_ (thn (he pins s σ H _ I h) fun v s1 ⟨x, H1, I1, r1, q1⟩ => ?_)
  refine wpAny_Slice (thn (hl pins s1 σ H1 _ I1 q1) fun vl s2 ⟨l, H2, I2, pl, q2⟩ => thn (hu pins s2 σ H2 _ I2 q2) fun vu s3 ⟨u, H3, I3, pu, q3⟩ => ?_)
  rw [evalPart_none]
  refine wpAny_pure ?_
  have I4 : Inv X pins σ H3 { s3 with heap := s3.heap.push { cls := .type "slice", data := .fields #[vl, vu, .none] } } := I3.kept (t' := s3.toks) fun b ob q => Heap.get?_push_of_some _ q
  obtain ⟨T, id, hT, ht, hg⟩ := hr pins { s3 with heap := s3.heap.push { cls := .type "slice", data := .fields #[vl, vu, .none] } } σ H3 x v vl vu l u s3.heap.objs.size Q I4 r1 (Heap.IsSliceOf.new ..) pl pu q3
  show wpAny (model X.prog X.w) X.A (subscriptTail e (.Slice lo hi none p2) v (.ref s3.heap.objs.size)) (EP X pins σ Q) X.xe { s3 with heap := s3.heap.push { cls := .type "slice", data := .fields #[vl, vu, .none] } }
  exact tail_any (ops := [.ref s3.heap.objs.size, v]) ht hT hg (by with_unfolding_all rfl)

noncomputable def cutV (xs : List V) (lo hi : Option Int) : List V := (xs.drop (HT.sIx xs.length 0 lo)).take (HT.sIx xs.length xs.length hi - HT.sIx xs.length 0 lo)
theorem cutV_length (xs : List V) (lo hi : Option Int) : (cutV xs lo hi).length ≤ xs.length := by
  unfold cutV
  rw [List.length_take, List.length_drop]
  omega
end
end L2

namespace L2
open PySem PySem.Spec PyProof.Rows

noncomputable def ixN (n : Nat) (i : Int) : Option Nat := if 0 ≤ i then (if i < n then some i.toNat else none) else if -(n : Int) ≤ i then some (i + n).toNat else none
noncomputable def atI {α : Type} (xs : List α) (i : Int) : Option α := (ixN xs.length i).bind fun j => xs[j]?
theorem ixN_seq {n : Nat} {i : Int} {j : Nat} (h : ixN n i = some j) : seqIndex? i n = some j ∧ j < n ∧ -(n : Int) ≤ i ∧ i < n := by
  unfold ixN at h
  by_cases h0 : 0 ≤ i
  · rw [if_pos h0] at h
    by_cases h1 : i < n
    · rw [if_pos h1] at h
      have e : i.toNat = j := Option.some.inj h
      exact ⟨by rw [seqIndex_of h0 h1, e], by omega, by omega, h1⟩
    · rw [if_neg h1] at h; cases h
  · rw [if_neg h0] at h
    by_cases h1 : -(n : Int) ≤ i
    · rw [if_pos h1] at h
      have e : (i + n).toNat = j := Option.some.inj h
      exact ⟨by rw [seqIndex_neg (by omega) h1, e], by omega, h1, by omega⟩
    · rw [if_neg h1] at h; cases h
theorem atI_get {α : Type} {xs : List α} {i : Int} {v : α} (h : atI xs i = some v) : ∃ j, seqIndex? i xs.length = some j ∧ xs[j]? = some v ∧ j < xs.length ∧ -(xs.length : Int) ≤ i ∧ i < xs.length := by
  unfold atI at h
  cases e : ixN xs.length i with
  | none => rw [e] at h; cases h
  | some j =>
    rw [e] at h
    obtain ⟨h1, h2, h3, h4⟩ := ixN_seq e
    exact ⟨j, h1, h, h2, h3, h4⟩
noncomputable def PlainIx (b : Expr) : Prop := ∀ o i, subscripted b false o i = operate [o, i] (getItem o i)
noncomputable def IxR (X : Cx) (r : R2) : Prop :=
  ∀ (value slice : Expr) (pins : List (Addr × Obj)) (s : Shared) (σ : St) (H : Hp) (x y : V) (v u : Value) (Q : VK), Inv X pins σ H s → RelV x v → RelV y u → r x y H Q →
    subscripted slice false v u = operate [v, u] (getItem v u) → wpAny (model X.prog X.w) X.A (subscriptTail value slice v u) (EP X pins σ Q) X.xe s
noncomputable def MtR (X : Cx) (id : String) (r : V → List V → Hp → VK → Prop) : Prop :=
  ∀ (pins : List (Addr × Obj)) (s : Shared) (σ : St) (H : Hp) (x : V) (xs : List V) (v : Value) (us : List Value) (Q : VK), Inv X pins σ H s → RelV x v → Vals xs us → r x xs H Q →
    wpAny (model X.prog X.w) X.A (call (.builtin id) (v :: us)) (EP X pins σ Q) X.xe s
section
variable {X : Cx} {a b : Expr} {ta tb : TE} {pos : Pos}
theorem IxR.or {r r' : R2} (h : IxR X r) (h' : IxR X r') : IxR X (fun x y H Q => r x y H Q ∨ r' x y H Q) := by
  intro value slice pins s σ H x y v u Q I rx ry q hs
  rcases q with q | q
  · exact h value slice pins s σ H x y v u Q I rx ry q hs
  · exact h' value slice pins s σ H x y v u Q I rx ry q hs
theorem pe_ix {r : R2} (hr : IxR X r) (ha : PE X a ta) (hb : PE X b tb) (hs : PlainIx b) : PE X (.Subscript a b pos) (tOp r ta tb) := by
  intro pins s σ H Q I h
  exact Subscript_ (binT ha hb I h fun v u s2 x y H2 I2 rx ry q => hr a b pins s2 σ H2 x y v u Q I2 rx ry q (hs _ _))

noncomputable def rIxL (K : PySem.W.Frag) : R2 := fun x y H Q => ∃ p xs i v, x = .ref p ∧ y = .int i ∧ SqL K H p xs ∧ atI xs i = some v ∧ Q v H
noncomputable def rIxT (K : PySem.W.Frag) : R2 := fun x y H Q => ∃ p xs i v, x = .ref p ∧ y = .int i ∧ SqT K H p xs ∧ atI xs i = some v ∧ Q v H
noncomputable def rIxS : R2 := fun x y H Q => ∃ z i c, x = .str z ∧ y = .int i ∧ z.length ≤ sizeLine ∧ atI z.cps.toList i = some c ∧ Q (.str ⟨#[c]⟩) H
theorem ix_list : IxR X (rIxL X.K) := by
  intro value slice pins s σ H x y v u Q I rx ry h hs
  obtain ⟨p, xs, i, z, rfl, rfl, hq, he, q⟩ := h
  cases rx
  obtain ⟨t, rfl⟩ := ry
  obtain ⟨its, r, pl, hz⟩ := I.list hq
  obtain ⟨j, h1, h2, h3, h4, h5⟩ := atI_get he
  obtain ⟨w, ew, rw'⟩ := r.get h2
  have hl := r.length
  have hn := line63
  have fin : EP X pins σ Q w s := ⟨z, H, I, rw', q⟩
  by_cases h0 : 0 ≤ i
  · have hj : i.toNat = j := by
      rw [seqIndex_of h0 h5] at h1
      exact Option.some.inj h1
    exact item_listR pl.isList h0 (by omega) (by rw [hj]; simpa using ew) fin hs
  · have hj : (i + (its.toArray.size : Int)).toNat = j := by
      rw [seqIndex_neg (by omega) h4] at h1
      rw [List.size_toArray, ← hl]
      exact Option.some.inj h1
    exact subscriptTail_builtinR (x := w) pl.isList.typeIs slot_list_getitem.lookup
      (wpAny_getItem_list_neg (Q := fun r s' => r = w ∧ EP X pins σ Q r s') pl.isList (by omega) (by rw [List.size_toArray] <;> omega) (by omega) (by rw [hj]; simpa using ew) ⟨rfl, fin⟩) hs
theorem ix_tup : IxR X (rIxT X.K) := by
  intro value slice pins s σ H x y v u Q I rx ry h hs
  obtain ⟨p, xs, i, z, rfl, rfl, hq, he, q⟩ := h
  cases rx
  obtain ⟨t, rfl⟩ := ry
  obtain ⟨its, r, pl, hz⟩ := I.tuple hq
  obtain ⟨j, h1, h2, h3, h4, h5⟩ := atI_get he
  obtain ⟨w, ew, rw'⟩ := r.get h2
  have hl := r.length
  have hn := line63
  have fin : EP X pins σ Q w s := ⟨z, H, I, rw', q⟩
  exact subscriptTail_builtinR (x := w) pl.typeIs slot_tuple_getitem.lookup
    (getItem_tuple (j := j) (Q := fun r s' => r = w ∧ EP X pins σ Q r s') pl (by omega) (by omega) (by rw [List.size_toArray, ← hl]; exact h1) (by simpa using ew) ⟨rfl, fin⟩) hs
theorem ix_str : IxR X rIxS := by
  intro value slice pins s σ H x y v u Q I rx ry h hs
  obtain ⟨z, i, c, rfl, rfl, hz, he, q⟩ := h
  obtain ⟨t, rfl⟩ := rx
  obtain ⟨t', rfl⟩ := ry
  obtain ⟨j, h1, h2, h3, h4, h5⟩ := atI_get he
  have hl : z.cps.toList.length = z.length := by simp [Str.length]
  rw [hl] at h1 h4 h5
  have hn := line63
  exact tail_any (typeIs_str s z t) slot_str_getitem.lookup (getItem_str (c := c) (by
    have e1 : decide (i < -(2 ^ 63 : Int)) = false := decide_eq_false (by omega)
    have e2 : decide (i ≥ 2 ^ 63) = false := decide_eq_false (by omega)
    rw [e1, e2, Bool.or_false]) (by rw [h1]; simpa using h2) ⟨.str ⟨#[c]⟩, H, I.tok _, ⟨_, rfl⟩, q⟩) hs
noncomputable def rIx (K : PySem.W.Frag) : R2 := fun x y H Q => rIxL K x y H Q ∨ rIxT K x y H Q ∨ rIxS x y H Q
theorem ix_seq : IxR X (rIx X.K) := ix_list.or (ix_tup.or ix_str)

theorem slice_bounds (lo hi : Option Int) (n : Nat) : (sliceBounds lo hi none n).1 = ((HT.sIx n 0 lo : Nat) : Int) ∧ (sliceBounds lo hi none n).2.1 = ((HT.sIx n n hi : Nat) : Int) ∧ (sliceBounds lo hi none n).2.2 = 1 := by
  refine ⟨?_, ?_, rfl⟩
  · cases lo with
    | none => simp [sliceBounds, HT.sIx]
    | some i =>
      simp only [sliceBounds, HT.sIx, Option.getD_none, show (1 : Int) > 0 by decide, if_true]
      by_cases h : i < 0
      · simp only [h, if_true] <;> omega
      · simp only [h, if_false] <;> omega
  · cases hi with
    | none => simp [sliceBounds, HT.sIx]
    | some i =>
      simp only [sliceBounds, HT.sIx, Option.getD_none, show (1 : Int) > 0 by decide, if_true]
      by_cases h : i < 0
      · simp only [h, if_true] <;> omega
      · simp only [h, if_false] <;> omega
theorem slicePick_cut (its : List Value) (lo hi : Option Int) : slicePick its.toArray lo hi none = ((its.drop (HT.sIx its.length 0 lo)).take (HT.sIx its.length its.length hi - HT.sIx its.length 0 lo)).toArray := by
  obtain ⟨h1, h2, h3⟩ := slice_bounds lo hi its.toArray.size
  unfold slicePick
  rw [h1, h2, h3]
  simp only [sliceRange_one, pick_run, List.size_toArray] <;> rfl
noncomputable def rSlL (K : PySem.W.Frag) : V → Option Int → Option Int → Hp → VK → Prop := fun x lo hi H Q => ∃ a xs, x = .ref a ∧ SqL K H a xs ∧ ∀ p, H p = none → Q (.ref p) (upd H p (.lst (cutV xs lo hi)))
theorem sl_list : SlR X (rSlL X.K) := by
  intro pins s σ H x v vl vu lo hi sl Q I rx hs pl pu h
  obtain ⟨a, xs, rfl, hx, q⟩ := h
  cases rx
  obtain ⟨its, r, ht, hz⟩ := I.list hx
  have hlen := r.length
  refine ⟨"list", _, slot_list_getitem.lookup, ht.isList.typeIs, ?_⟩
  refine wpAny_getItem_list_slice ht.isList hs pl pu .none (by simp) ?_ (by rw [List.size_toArray] <;> omega)
  rw [slicePick_cut, ← hlen]
  refine ⟨.ref s.heap.objs.size, _, I.laid (t' := s.toks) (o := .lst (cutV xs lo hi)) (fun b ob q => Heap.get?_push_of_some _ q) (Nat.le_refl _) ?_, rfl, q _ (I.hok.fresh (Nat.le_refl _))⟩
  exact ⟨Nat.le_trans (cutV_length xs lo hi) hz, _, 0, (r.drop (HT.sIx xs.length 0 lo)).take (HT.sIx xs.length xs.length hi - HT.sIx xs.length 0 lo), Heap.get?_push_size _ rfl⟩

theorem call_len_seq : CallR X (.builtin "len") (fun xs H Q => ∃ p ys, xs = [.ref p] ∧ (SqL X.K H p ys ∨ SqT X.K H p ys) ∧ Q (.int ys.length) H) := by
  intro pins s σ H xs us Q I r h
  obtain ⟨p, ys, rfl, hq, q⟩ := h
  obtain ⟨u, rfl, rx⟩ := vals1 r
  cases rx
  have hn := line63
  rcases hq with hq | hq
  · obtain ⟨its, r', pl, hz⟩ := I.list hq
    have hlen := r'.length
    exact Calls.call_len_list pl.isList (by simp only [List.size_toArray] <;> omega) ⟨.int ys.length, H, I.tok _, ⟨s.toks + 1, by rw [List.size_toArray, hlen]⟩, q⟩
  · obtain ⟨its, r', pl, hz⟩ := I.tuple hq
    have hlen := r'.length
    exact len_tuple pl (by simp only [List.size_toArray] <;> omega) ⟨.int ys.length, H, I.tok _, ⟨s.toks + 1, by rw [List.size_toArray, hlen]⟩, q⟩
theorem call_len_str : CallR X (.builtin "len") (fun xs H Q => ∃ z, xs = [.str z] ∧ z.length ≤ sizeLine ∧ Q (.int z.length) H) := by
  intro pins s σ H xs us Q I r h
  obtain ⟨z, rfl, hz, q⟩ := h
  obtain ⟨u, rfl, t, rfl⟩ := vals1 r
  have hn := line63
  exact len_str (by omega) ⟨.int z.length, H, I.tok _, ⟨_, rfl⟩, q⟩
theorem CallR.or {f : Value} {r r' : List V → Hp → VK → Prop} (h : CallR X f r) (h' : CallR X f r') : CallR X f (fun xs H Q => r xs H Q ∨ r' xs H Q) := by
  intro pins s σ H xs us Q I rs q
  rcases q with q | q
  · exact h pins s σ H xs us Q I rs q
  · exact h' pins s σ H xs us Q I rs q
theorem call_list_of : CallR X (.type "list") (fun xs H Q => ∃ p ys, xs = [.ref p] ∧ (SqL X.K H p ys ∨ SqT X.K H p ys) ∧ ∀ l, H l = none → Q (.ref l) (upd H l (.lst ys))) := by
  intro pins s σ H xs us Q I r h
  obtain ⟨p, ys, rfl, hq, q⟩ := h
  obtain ⟨u, rfl, rx⟩ := vals1 r
  cases rx
  have fin : ∀ (its : List Value), Vals ys its → ys.length ≤ sizeLine → ∀ (h' : Heap) (c' : Nat), (∀ b o', s.heap.get? b = some o' → h'.get? b = some o') →
      h'.get? s.heap.objs.size = some { cls := .type "list", dict := none, data := .seq its.toArray c', slots := #[] } → EP X pins σ Q (.ref s.heap.objs.size) { s with heap := h' } := fun its r' hz h' c' kp e =>
    ⟨.ref s.heap.objs.size, _, I.laid (t' := s.toks) kp (Nat.le_refl _) (show ObjOk X.prog X.w _ h' _ (.lst ys) from ⟨hz, its, c', r', e⟩), rfl, q _ (I.hok.fresh (Nat.le_refl _))⟩
  rcases hq with hq | hq
  · obtain ⟨its, r', pl, hz⟩ := I.list hq
    have hlen := r'.length
    obtain ⟨o, ho, hc, n, hd⟩ := pl.isList
    exact call_list_seq p (.inl rfl) ho hc hd (fun h' c' kp e => fin its r' hz h' c' kp e) (by simp only [List.size_toArray] <;> omega)
  · obtain ⟨its, r', pl, hz⟩ := I.tuple hq
    have hlen := r'.length
    obtain ⟨o, ho, hc, n, hd⟩ := pl
    exact call_list_seq p (.inr rfl) ho hc hd (fun h' c' kp e => fin its r' hz h' c' kp e) (by simp only [List.size_toArray] <;> omega)
noncomputable def tyV (K : PySem.W.Frag) (T : String) (x : V) (H : Hp) : Prop := match x with
  | .str _ => T = "str"
  | .int _ => T = "int"
  | .ref p => (T = "list" ∧ ∃ xs, SqL K H p xs) ∨ (T = "tuple" ∧ ∃ o, K.lookup p = some o ∧ o.cls = .type "tuple" ∧ o.dict = none) ∨
      (T = "dict" ∧ ((∃ kvs, H p = some (.dK kvs)) ∨ ∃ kvs, H p = some (.dT kvs))) ∨ (T = "set" ∧ ∃ S n, H p = some (.set S n))
  | _ => False
theorem tyV_is {pins : List (Addr × Obj)} {σ : St} {H : Hp} {s : Shared} {T : String} {x : V} {v : Value} (I : Inv X pins σ H s) (r : RelV x v) (ty : tyV X.K T x H) :
    s.TypeIs v T ∧ ∀ a, v = .ref a → ∃ ob, s.heap.get? a = some ob ∧ ob.dict = none := by
  cases x with
  | str z =>
    obtain ⟨t, rfl⟩ := r
    cases (show T = "str" from ty)
    exact ⟨typeIs_str s z t, fun _ e => nomatch e⟩
  | int i =>
    obtain ⟨t, rfl⟩ := r
    cases (show T = "int" from ty)
    exact ⟨typeIs_int s i t, fun _ e => nomatch e⟩
  | ref p =>
    cases r
    rcases ty with ⟨rfl, xs, hq⟩ | ⟨rfl, o, hk, hc, hd⟩ | ⟨rfl, hk⟩ | ⟨rfl, S, n, hk⟩
    · obtain ⟨its, _, pl, _⟩ := I.list hq
      refine ⟨pl.isList.typeIs, fun a e => ?_⟩
      cases e
      obtain ⟨o, n, e, c, hd, _⟩ := pl
      exact ⟨o, e, hd⟩
    · refine ⟨⟨o, I.kIn p o hk, hc⟩, fun a e => ?_⟩
      cases e
      exact ⟨o, I.kIn _ o hk, hd⟩
    · have z : ∃ o, s.heap.get? p = some o ∧ o.ExactDict := by
        rcases hk with ⟨kvs, hk⟩ | ⟨kvs, hk⟩
        · obtain ⟨_, _, _, _, o, _, _, e, ex, _⟩ := I.hok p _ hk
          exact ⟨o, e, ex⟩
        · obtain ⟨_, _, _, _, o, _, _, e, ex, _⟩ := I.hok p _ hk
          exact ⟨o, e, ex⟩
      obtain ⟨o, e, ex⟩ := z
      refine ⟨⟨o, e, ex.1⟩, fun a e2 => ?_⟩
      cases e2
      exact ⟨o, e, ex.2.1⟩
    · obtain ⟨o, _, _, _, e, ex, _⟩ := I.hok p _ hk
      refine ⟨⟨o, e, ex.1⟩, fun a e2 => ?_⟩
      cases e2
      exact ⟨o, e, ex.2.1⟩
  | _ => exact False.elim ty
noncomputable def tBM (K : PySem.W.Frag) (T : String) (r : V → List V → Hp → VK → Prop) (to : TE) (t : TA) : TE := fun σ H Q => to σ H fun x H1 => tyV K T x H1 ∧ t σ H1 fun xs H2 => r x xs H2 Q
variable {o e : Expr} {es : List Expr} {to : TE} {t : TA} {name : Str} {apos cpos : Pos} {T id : String} {r : V → List V → Hp → VK → Prop}
theorem pe_bm (pa : PlainAttrs T) (slot : Slot T name id) (hty : typeOf (.builtin id) = pure (.type "method_descriptor")) (hm : MtR X id r) (ho : PE X o to) (ha : PA X (e :: es) t)
    (hbase : attributeBase o name X.env (eval o X.env) = eval o X.env := by rfl)
    (hfew : ((backTo cpos (starEach (e :: es) X.env)).all (fun x => !x.1) && (backToKw cpos (keywordEach [] X.env)).all (fun x => x.1.isSome)
      && decide ((e :: es).length + ([] : List Keyword).length + (if ([] : List Keyword).isEmpty then 0 else 1) < 30)) = true := by rfl)
    (hline : (apos.endLine == cpos.line) = true := by rfl) (hs : starEach (e :: es) X.env = (false, eval e X.env) :: starEach es X.env := by rfl) (hplain : (backTo cpos (starEach es X.env)).any (·.1) = false := by rfl) :
    PE X (.Call (.Attribute o name apos) (e :: es) [] cpos) (tBM X.K T r to t) := by
  intro pins s σ H Q I h
  refine wpAny_Call_method_late hbase hfew hline rfl (thn (ho pins s σ H _ I h) fun v s1 ⟨x, H1, I1, r1, ty, q1⟩ => ?_)
  obtain ⟨h1, h2⟩ := tyV_is I1 r1 ty
  refine ⟨T, id, pa, slot, hty, h1, h2, ?_⟩
  have hA := ha cpos pins s1 σ H1 _ I1 q1
  rw [hs] at hA ⊢
  refine Calls.callWith_builtin (by show (false || (backTo cpos (starEach es X.env)).any (·.1)) = false; rw [hplain] <;> rfl) (Calls.evalArgs_plain ?_)
  exact thn hA fun us s2 ⟨vs, H2, I2, r2, q2⟩ => hm pins s2 σ H2 x vs v us Q I2 r1 r2 q2
end
end L2

namespace L2
open PySem PySem.Spec PyProof.Rows

noncomputable def MtM (X : Cx) (id : String) (r : V → List V → Hp → VK → Prop) : Prop :=
  ∀ (pins : List (Addr × Obj)) (s : Shared) (σ : St) (H : Hp) (x : V) (xs : List V) (v : Value) (us : List Value) (Q : VK), Inv X pins σ H s → RelV x v → Vals xs us → r x xs H Q →
    wpAny (model X.prog X.w) X.A (call (.builtin id) (v :: us)) (EP X pins σ Q) X.xe s

theorem Vals.one : ∀ {x : V} {us : List Value}, Vals [x] us → ∃ u, us = [u] ∧ RelV x u
  | _, _, .cons r .nil => ⟨_, rfl, r⟩
section
variable {X : Cx} {pins : List (Addr × Obj)} {σ : St} {H : Hp} {s : Shared} {l b : Addr} {xs ys zs : List V}

theorem Inv.lset {its its' : List Value} {n : Nat} {f : Array Value → Array Value} {t' : Nat} (I : Inv X pins σ H s) (hH : H l = some (.lst xs))
    (e : s.heap.get? l = some { cls := .type "list", data := .seq its.toArray n }) (hf : f its.toArray = its'.toArray) (hv : Vals ys its') (hz : ys.length ≤ sizeLine) :
    Inv X pins σ (upd H l (.lst ys)) { s with heap := s.heap.update l (Obj.mapSeq f), toks := t' } := by
  have q := PySem.IsL.update e f
  rw [hf] at q
  refine I.write (x := l) (e := l) (by rw [hH]; exact trivial) (.inl rfl) (fun b' u hb hu => (Heap.get?_update_other s.heap (Obj.mapSeq f) (Ne.symm hb)).trans hu) ⟨_, q⟩ ?_
  exact ⟨hz, its', _, hv, q⟩
theorem Inv.lnew {its : List Value} {t' : Nat} (I : Inv X pins σ H s) (hv : Vals ys its) (hz : ys.length ≤ sizeLine) :
    Inv X pins σ (upd H s.heap.objs.size (.lst ys)) { s with heap := s.heap.push { cls := .type "list", data := .seq its.toArray }, toks := t' } :=
  I.laid (fun _ _ q => Heap.get?_push_of_some _ q) (Nat.le_refl _) ⟨hz, its, 0, hv, Heap.get?_push_size _ rfl⟩
theorem Inv.fresh (I : Inv X pins σ H s) : H s.heap.objs.size = none := I.hok.fresh (Nat.le_refl _)
theorem Inv.lstM (I : Inv X pins σ H s) (hH : H l = some (.lst xs)) : xs.length ≤ sizeLine ∧ ∃ (its : List Value) (n : Nat), Vals xs its ∧ xs.length = its.length ∧ s.heap.get? l = some { cls := .type "list", data := .seq its.toArray n } := by
  obtain ⟨z, its, n, r, e⟩ := I.hok l _ hH
  exact ⟨z, its, n, r, r.length, e⟩

end

section
variable {X : Cx}

noncomputable def rAppend : V → List V → Hp → VK → Prop := fun x vs H Q => ∃ l xs y, x = .ref l ∧ vs = [y] ∧ H l = some (.lst xs) ∧ xs.length < sizeLine ∧ Q .non (upd H l (.lst (xs ++ [y])))
theorem mt_append : MtM X "list.append" rAppend := by
  intro pins s σ H x vs v us Q I rx rv h
  obtain ⟨l, xs, y, rfl, rfl, hH, hz, q⟩ := h
  cases rx
  obtain ⟨u, rfl, ru⟩ := rv.one
  obtain ⟨z, its, n, r, hl, e⟩ := I.lstM hH
  refine call_meets F.slot_list_append ⟨_, e, rfl⟩ F.entry_list_append (F.args_list_append_2 _ _) (PySem.list_append l its.toArray n u (by rw [List.size_toArray]; omega)) ⟨e, ?_⟩
  refine ⟨.non, _, I.lset (its' := its ++ [u]) hH e (by simp) (r.append (.cons ru .nil)) ?_, rfl, q⟩
  rw [List.length_append, List.length_singleton]
  omega

end

section
variable {prog : Program} {w : World} {A : Around} {E : Value → Shared → Prop} {s : Shared}
end

section
variable {X : Cx}
end
end L2

namespace Att
open PySem PySem.W PySem.Calls PyProof.Rows

theorem ints_of_wellAll {P : Params} {h : Heap} : ∀ (ns : List Int) (vs : List Value), WellAll P h vs (ns.map WData.int) → IntsAre vs ns := by
  intro ns
  induction ns with
  | nil =>
    intro vs w
    rw [List.map_nil] at w
    cases w
    exact .nil
  | cons n ns ih =>
    intro vs w
    rw [List.map_cons] at w
    cases w with
    | cons a b =>
      cases a
      exact .cons _ _ (ih _ b)

theorem script_of {l : OpenLaw} {n : Nat} (hn : l.most = some n) {P : Params} {h : Heap} {args : List WData} {vals : List Value}
    (hpre : l.row.toRowW.claim.pre args = true) (hwl : WellAll P h vals args) :
    ∃ a vs ns, vals = [Value.ref a] ∧ args = [WData.list (ns.map WData.int)] ∧ h.get? a = some { cls := .type "list", data := .seq vs.toArray } ∧ IntsAre vs ns ∧ ns.length ≤ n := by
  have hsh : WShape.hasAll [] args [.list .int] = true := (pre_splitW hpre).1
  have hc : l.pre.holds [] { args := args } = true := (pre_splitW hpre).2
  obtain ⟨d, r, rfl, h1, h2⟩ := hasAllW_cons hsh
  obtain rfl := hasAllW_nil h2
  obtain ⟨xs, rfl, h3⟩ := hasW_list h1
  obtain ⟨ns, rfl⟩ := items_int h3
  have hlen : ns.length ≤ n := by
    unfold OpenLaw.pre at hc
    have h4 : (WTm.not (.lt (.lit (.int (n : Int))) (.len (.arg 0)))).holds [] { args := [.list (ns.map .int)] } = true := by
      have h4 := (holds_andW hc).1
      rw [hn] at h4
      exact h4
    have h5 := condW_of h4 (w_not (w_lt w_lit (w_len_list (w_arg rfl))))
    rw [List.length_map] at h5
    refine Nat.le_of_not_lt fun q => ?_
    have q' : (n : Int) < ((ns.length : Nat) : Int) := by omega
    first
      | (rw [decide_eq_true q'] at h5; exact absurd h5 (by decide))
      | (simp at h5; omega)
  cases hwl with
  | cons w1 w2 =>
    cases w2
    cases w1 with
    | list ho hall => exact ⟨_, _, ns, rfl, rfl, ho, ints_of_wellAll ns _ hall, hlen⟩

theorem post_true (l : OpenLaw) (args : List WData) : l.row.toRowW.claim.post args (.bool true) args = true :=
  postW_of (r := l.row.toRowW) (X := (true == true))
    (show WShape.has [] (.bool true) .bool = true by first | rfl | decide | simp [WShape.has, WShape.arms, WShape.armsAll])
    (show (WTm.eq .res (.lit (.bool true))).value [] { args := args, res := some (.bool true), after := args } = some (.bool (true == true)) from w_eq_bool (w_res rfl) w_lit) rfl

theorem attach_call {l : OpenLaw} {n : Nat} {q : Program} {loose : List Str} {XP : (Str → Option Value) → Heap → Prop} {YP : World → Heap → Prop} {d : DefRec}
    (hn : l.most = some n) (hdf : d.params.defaults = [])
    (call : ∀ (w : World) (s₀ s₁ : Shared) (mg mb : Str → Option Value) (fa : Addr) (o : Obj) (pm cd doc : Value) (a : Addr) (vs : List Value) (ns : List Int),
      Ground q loose [] XP w s₀ mg mb s₁.heap → YP w s₁.heap →
      s₁.heap.get? fa = some o → o.data = .func (docDef d.name d.params d.body d.scope pm cd doc) → s₁.heap.CodeRec cd d.name → mg d.name = some (.ref fa) →
      s₁.heap.get? a = some { cls := .type "list", data := .seq vs.toArray } → IntsAre vs ns → ns.length ≤ n → s₁.gens = #[] →
      codeAny (model l.prog w) callerA (.call (.ref fa) ⟨[.ref a], []⟩) (fun r s' => r = .ok (.ret (.bool true)) ∧ OldK s₁.heap s'.heap ∧ s'.os = s₁.os ∧ AllBare s'.gens) s₁) :
    WalkO q loose XP YP l.row.toRowW d [] (fun f vs => PySem.call f vs) := by
  intro w s₀ s₁ mg mb G Y fa o pm cd doc dV kV ho hd hcd hD hmg hg args vals as hpre hlay hrd hwl hlo
  obtain rfl : dV = .none := Dflts.none hD hdf
  obtain rfl : kV = .none := Dflts.noKw hD
  obtain ⟨a, vs, ns, rfl, rfl, hobj, hints, hlen⟩ := script_of hn hpre hwl
  refine enter_call (codeAny_mono (call w s₀ s₁ mg mb fa o pm cd doc a vs ns G Y ho (fd_plain hd) hcd hmg hobj hints hlen hg) fun r s' hq => ?_)
  obtain ⟨rfl, h2, h3, h4⟩ := hq
  exact ⟨.inl ⟨.bool true, .bool true, [], rfl, fun _ => rfl, .bool true, post_true l _, fun _ => ⟨List.Pairwise.nil, fun _ hm => (nomatch hm)⟩⟩, h2, h3, h4⟩

section
variable {prog : Program} {w : World} {A : Around} {E : Value → Shared → Prop} {s : Shared} {K : Frag}

end
end Att

namespace L2
open PySem PySem.Spec PyProof.Rows

theorem vals_ints : ∀ {vs : List Value} {ns : List Int}, IntsAre vs ns → Vals (ns.map V.int) vs
  | _, _, .nil => .nil
  | _, _, .cons n t h => .cons ⟨t, rfl⟩ (vals_ints h)

end L2

namespace L2
open PySem PySem.Spec PyProof.Rows

end L2


namespace L2
open PySem PySem.Spec PyProof.Rows


noncomputable abbrev CX0 : CXT := fun _ _ _ _ _ _ => False
noncomputable abbrev E0 : XK := fun _ _ _ => False
theorem pass0 {X : Cx} : Passes CX0 X E0 := fun _ _ _ _ _ _ _ h => h.elim

structure Fun (K : PySem.W.Frag) (x qual : Str) (st : Stmt) (f : Addr) (fd : FuncData) : Prop where
  ex : ∃ (oc : Value) (od : Option Addr) (kV doc pm : Value) (an : Option Addr) (cdv ct : Value) (osl : Array (Option Value)),
    fd = PySem.W.fnOf x qual (defArgs st) (defBody st) (defScope st) .none kV doc pm an cdv ct ∧ K.lookup f = some ⟨oc, od, .func fd, osl⟩ ∧ PySem.W.codeIn K cdv qual = true
  kp : PySem.W.keepIn K (.ref f) = true
section
variable {P : Program} {w : World} {K : PySem.W.Frag} {mg : Str → Option Value} {base : Heap}
theorem Fun.ok {x qual : Str} {st : Stmt} {f : Addr} {fd : FuncData} {N ps : List Str} {k : Nat} {sp : Sp} (F : Fun K x qual st f fd) (S : FnScope N ps (defScope st)) (len : ∀ vs H Q E, sp vs H Q E → vs.length = ps.length)
    (hbody : ∀ (cdv : Value) (A : Around) (outer : List Env) (s : Shared) (H : Hp) (vs : List V) (Q : VK) (E : XK), Room k (A.deeper (envOfC qual (defScope st) s.heap.objs.size f cdv)) → sp vs H Q E →
      ∃ t, PSs (cxOf CX0 P w K mg base N qual (defScope st) f cdv A outer s H E).nox (defBody st) t ∧ t { nx := fun _ H' => Q .non H', rt := Q } (start N vs) H) : FnOk P w K mg base CX0 (k + 1) f fd ps sp := by
  obtain ⟨oc, od, kV, doc, pm, an, cdv, ct, osl, rfl, lk, hcd⟩ := F.ex
  refine fn_of lk hcd S len fun A outer s H vs Q E hr hsp => ?_
  obtain ⟨t, h, q⟩ := hbody cdv A outer s H vs Q E hr hsp
  exact ⟨t, h.nox, q⟩
theorem Fun.binds {x qual : Str} {st : Stmt} {f : Addr} {fd : FuncData} {ps : List Str} (F : Fun K x qual st f fd)
    (h : ∀ (kV doc pm : Value) (an : Option Addr) (cdv ct : Value) (us : List Value), us.length = ps.length → bindArgs (PySem.W.fnOf x qual (defArgs st) (defBody st) (defScope st) .none kV doc pm an cdv ct) ⟨us, []⟩ = pure (ps.zip us)) : Binds K fd ps [] := by
  obtain ⟨oc, od, kV, doc, pm, an, cdv, ct, osl, rfl, lk, hcd⟩ := F.ex
  exact .all (h kV doc pm an cdv ct)
theorem fun_mk {x qual : Str} {st : Stmt} {f : Addr} {oc : Value} {od an : Option Addr} {osl : Array (Option Value)} {kV doc pm cdv ct : Value} (l : K.lookup f = some ⟨oc, od, .func (PySem.W.fnOf x qual (defArgs st) (defBody st) (defScope st) .none kV doc pm an cdv ct), osl⟩)
    (c : PySem.W.codeIn K cdv qual = true) (k : PySem.W.keepIn K (.ref f) = true) : Fun K x qual st f (PySem.W.fnOf x qual (defArgs st) (defBody st) (defScope st) .none kV doc pm an cdv ct) := ⟨⟨oc, od, kV, doc, pm, an, cdv, ct, osl, rfl, l, c⟩, k⟩
end
section
variable {X : Cx}
theorem pv (i : Nat) {x : Str} {pos : Pos} (hN : X.N[i]? = some x := by rfl) (hv : Vis X.env.scope x := by first | exact Or.inl rfl | exact Or.inr (Or.inl rfl) | exact Or.inr (Or.inr rfl)) (hd : (x == ("__debug__" : Str)) = false := by decide)
    (hcd : (x == ("__classdict__" : Str)) = false := by decide) : PE X (.Name x pos) (tVar i) := pe_var hN hv hd hcd
end

end L2

namespace L2
open PySem PySem.Spec PyProof.Rows

section
variable {prog : Program} {w : World} {A : Around} {R : Result → Shared → Prop} {s : Shared}
noncomputable abbrev F0 : Value → Shared → Prop := fun _ _ => False
theorem offF' {α : Type} {t : Sem α} {Q Q' : α → Shared → Prop} {M : Model} {A : Around} {E : Value → Shared → Prop} {s : Shared} (h : wpAny M A t Q F0 s) (hq : ∀ a s, Q a s → Q' a s) : wpAny M A t Q' E s := wpAny_mono h hq fun _ _ z => z.elim
theorem compLoop_turns {elt target iter : Expr} {ifs : List Expr} {scope : Scope} {pos : Pos} {it acc : Value} {env : Env} (I : Nat → Shared → Prop)
    (turn : ∀ n s, I n s → wpAny (model prog w) A (pyNext it) (fun r s₁ => match r with
      | none => R (.ok .next) s₁
      | some v => wpAny (model prog w) A (letOwnedTupleGo target it v) (fun _ s₁ => wpAny (model prog w) A (assign target env v) (fun _ s₂ =>
          wpAny (model prog w) A (forIn ifs true fun c r => if r = true then do let ok ← isTrue c env (eval c env); pure (ForInStep.yield ok) else pure (ForInStep.yield r)) (fun ok s₃ =>
            if ok = true then wpAny (model prog w) A (eval elt env) (fun x s₄ =>
              wpAny (model prog w) A (call (.builtin "list.append") [acc, x]) (fun _ s₅ => ∃ m, m < n ∧ I m s₅) F0 s₄) F0 s₃
            else ∃ m, m < n ∧ I m s₃) F0 s₂) F0 s₁) F0 s₁) F0 s)
    (n : Nat) (h : I n s) :
    codeAny (model prog w) A (.compLoop (.ListComp elt [⟨target, iter, ifs, 0⟩] scope pos) 0 it acc env) R s := by
  refine codeAny_loop rfl I (fun n s hI => ?_) n h
  show wpAny _ A ((compTurn (.ListComp elt [⟨target, iter, ifs, 0⟩] scope pos) 0 it acc env).onRaise (fun x => do noteFrame x env; theTreesLotGoes x)) _ _ s
  refine wpAny_noted ?_
  rw [compTurn_list]
  refine wpAny_bind (wpAny_standAt (wpAny_bind (offF' (turn n s hI) (fun r s₁ h₁ => ?_))))
  cases r with
  | none => exact wpAny_pure h₁
  | some v =>
    refine wpAny_bind (offF' h₁ fun _ s₁' h₁' => ?_)
    refine wpAny_bind (offF' h₁' fun _ s₂ h₂ => wpAny_bind (offF' h₂ fun ok s₃ h₃ => ?_))
    cases ok with
    | false => exact wpAny_pure ⟨rfl, h₃⟩
    | true =>
      exact wpAny_bind (wpAny_bind (offF' h₃ fun x s₄ h₄ => wpAny_bind (offF' h₄ fun _ s₅ h₅ => wpAny_pure (wpAny_pure ⟨rfl, h₅⟩))))
end

theorem lookup_relabel {env : Env} (x : Str) : ∀ (names : List (Str × NameKind)),
    (names.map fun (n, k) => if (k == NameKind.free && env.scope.kind == .function && env.kindOf n == some .cell) then (n, NameKind.cell) else (n, k)).lookup x
      = (names.lookup x).map fun k => if (k == NameKind.free && env.scope.kind == .function && env.kindOf x == some .cell) = true then NameKind.cell else k
  | [] => rfl
  | (n, k) :: r => by
    have ih := lookup_relabel (env := env) x r
    rw [List.map_cons]
    cases hx : x == n with
    | true =>
      have e : x = n := eq_of_beq hx
      subst e
      by_cases hc : (k == NameKind.free && env.scope.kind == .function && env.kindOf x == some .cell) = true
      · simp only [hc, if_true, List.lookup_cons, beq_self_eq_true, Option.map_some]
      · simp only [hc, if_false, List.lookup_cons, beq_self_eq_true, Option.map_some, Bool.false_eq_true]
    | false =>
      by_cases hc : (k == NameKind.free && env.scope.kind == .function && env.kindOf n == some .cell) = true
      · simp only [hc, if_true, List.lookup_cons, hx]; exact ih
      · simp only [hc, if_false, List.lookup_cons, hx, Bool.false_eq_true]; exact ih

noncomputable def clOf (env : Env) : List (Str × NameKind) → List (Str × Addr) → List (Str × Addr)
  | [], acc => acc
  | (n, k) :: r, acc => clOf env r (if k = .free then (match env.cells.lookup n with | some c => (n, c) :: acc | none => acc) else acc)

theorem closure_eq {env : Env} {scope : Scope} (h : ∀ p ∈ scope.names, p.2 = .free → ∃ c, env.cells.lookup p.1 = some c) : closureFor scope env = pure (clOf env scope.names []) := by
  have gen : ∀ (l : List (Str × NameKind)) (acc : List (Str × Addr)), (∀ p ∈ l, p.2 = .free → ∃ c, env.cells.lookup p.1 = some c) →
      (forIn l acc fun x r => if (x.2 == NameKind.free) = true then (do let a ← cellOf env x.1; pure (ForInStep.yield ((x.1, a) :: r))) else pure (ForInStep.yield r) : Sem (List (Str × Addr))) = pure (clOf env l acc) := by
    intro l
    induction l with
    | nil => intro acc _; rfl
    | cons p r ih =>
      intro acc hp
      obtain ⟨n, k⟩ := p
      rw [List.forIn_cons]
      have hr : ∀ p ∈ r, p.2 = .free → ∃ c, env.cells.lookup p.1 = some c := fun p hm => hp p (List.mem_cons_of_mem _ hm)
      by_cases hk : k = .free
      · subst hk
        obtain ⟨c, hc⟩ := hp (n, .free) List.mem_cons_self rfl
        have e : cellOf env n = pure c := by unfold cellOf; rw [hc]
        simp only [beq_self_eq_true, if_true, e]
        show (forIn r ((n, c) :: acc) _ : Sem _) = _
        rw [ih _ hr]
        show _ = (pure (clOf env r (if NameKind.free = NameKind.free then (match env.cells.lookup n with | some c => (n, c) :: acc | none => acc) else acc)) : Sem _)
        rw [if_pos rfl, hc]
      · have hb : (k == NameKind.free) = false := by simpa using hk
        simp only [hb, Bool.false_eq_true, if_false]
        show (forIn r acc _ : Sem _) = _
        rw [ih _ hr]
        show _ = (pure (clOf env r (if k = NameKind.free then (match env.cells.lookup n with | some c => (n, c) :: acc | none => acc) else acc)) : Sem _)
        rw [if_neg hk]
  have q := gen scope.names [] h
  simp only [closureFor]
  rw [q]
  rfl

theorem clOf_mem {env : Env} : ∀ (l : List (Str × NameKind)) (acc : List (Str × Addr)), (∀ x c, acc.lookup x = some c → env.cells.lookup x = some c) → ∀ x c, (clOf env l acc).lookup x = some c → env.cells.lookup x = some c
  | [], _, h => h
  | (n, k) :: r, acc, h => by
    refine clOf_mem r _ ?_
    by_cases hk : k = .free
    · rw [if_pos hk]
      cases e : env.cells.lookup n with
      | none => exact h
      | some c =>
        intro x c' hx
        rw [List.lookup_cons] at hx
        cases q : x == n with
        | true => rw [q] at hx; cases hx; rw [eq_of_beq q]; exact e
        | false => rw [q] at hx; exact h x c' hx
    · rw [if_neg hk]; exact h
theorem clOf_old {env : Env} : ∀ (l : List (Str × NameKind)) (acc : List (Str × Addr)) (x : Str), (acc.lookup x).isSome = true → ((clOf env l acc).lookup x).isSome = true
  | [], _, _, h => h
  | (n, k) :: r, acc, x, h => by
    refine clOf_old r _ x ?_
    by_cases hk : k = .free
    · rw [if_pos hk]
      cases e : env.cells.lookup n with
      | none => exact h
      | some c =>
        show (List.lookup x ((n, c) :: acc)).isSome = true
        rw [List.lookup_cons]
        cases q : x == n with
        | true => rfl
        | false => exact h
    · rw [if_neg hk]; exact h
theorem clOf_has {env : Env} : ∀ (l : List (Str × NameKind)) (acc : List (Str × Addr)), (∀ p ∈ l, p.2 = .free → ∃ c, env.cells.lookup p.1 = some c) → ∀ x, (x, NameKind.free) ∈ l → ((clOf env l acc).lookup x).isSome = true
  | [], _, _, _, h => nomatch h
  | (n, k) :: r, acc, hp, x, h => by
    rcases List.mem_cons.mp h with e | h
    · cases e
      obtain ⟨c, hc⟩ := hp (n, .free) List.mem_cons_self rfl
      show ((clOf env r (if NameKind.free = NameKind.free then (match env.cells.lookup n with | some c => (n, c) :: acc | none => acc) else acc)).lookup n).isSome = true
      rw [if_pos rfl, hc]
      exact clOf_old r _ n (by simp [List.lookup_cons])
    · exact clOf_has r _ (fun p hm => hp p (List.mem_cons_of_mem _ hm)) x h

noncomputable def compOk (sc scope : Scope) (N tgs frees : List Str) (js : List Nat) : Bool :=
  scope.kind == .function && scope.names.all (fun p => p.2 != .cell && (p.2 != .free || sc.names.lookup p.1 == some .cell || sc.names.lookup p.1 == some .free) && (p.2 != .local || scope.names.lookup p.1 == some .local))
    && tgs.all (fun x => scope.names.lookup x == some .local) && frees.all (fun x => scope.names.lookup x == some .free) && (js.map fun j => N[j]?) == frees.map some

noncomputable def upC (m : Nat) (js : List Nat) (σ : St) : St := List.replicate m none ++ js.map fun j => (σ[j]?).join

noncomputable def compCx (X : Cx) (Nc : List Str) (scope : Scope) (C : Addr) (s₀ : Shared) (H₀ : Hp) (fp : List Addr) : Cx where
  prog := X.prog
  w := X.w
  K := X.K
  mg := X.mg
  base := X.base
  A := X.A
  N := Nc
  s₀ := s₀
  H₀ := H₀
  env := compEnvC scope (clOf X.env scope.names []) C X.env
  outer := X.stack
  stack := X.stack
  ex := fp
  fn := fun _ => false
  calm := X.calm
  pn := []
  xe := F0

noncomputable def PIfs (X : Cx) (ifs : List Expr) (t : TT) : Prop :=
  ∀ (pins : List (Addr × Obj)) (s : Shared) (σ : St) (H : Hp) (Q : Bool → Hp → Prop), Inv X pins σ H s → t σ H Q →
    wpAny (model X.prog X.w) X.A (forIn ifs true fun c r => if r = true then do let ok ← isTrue c X.env (eval c X.env); pure (ForInStep.yield ok) else pure (ForInStep.yield r)) (TP X pins σ Q) X.xe s
noncomputable def tYes : TT := fun _ H Q => Q true H
theorem pifs_nil {X : Cx} : PIfs X [] tYes := fun _ _ _ H _ I h => wpAny_tests_nil ⟨H, I, h⟩
noncomputable def tBlk (J : It) (m : Nat) (js : List Nat) (g : TG) (tc : TT) (te : TE) (σ : St) (H1 : Hp) (Q : VK) : Prop := ∀ D, H1 D = none →
  ∃ W : Nat → Nat → St → Hp → Prop, (∃ k, W 0 k (upC m js σ) (upd H1 D (.lst []))) ∧ ∀ i k σ' H', W i k σ' H' →
    (J.stop i H' ∧ Q (.ref D) H') ∨ (J.go i H' ∧ ∀ x H2, J.yld i H' x H2 → g x σ' H2 fun σ2 H3 => tc σ2 H3 fun b H4 => if b = true then te σ2 H4 fun y H5 => ∃ ys k', H5 D = some (.lst ys) ∧ ys.length < sizeLine ∧ k' < k ∧ W (i + 1) k' σ2 (upd H5 D (.lst (ys ++ [y])))
      else ∃ k', k' < k ∧ W (i + 1) k' σ2 H4)

section
variable {X : Cx} {pins : List (Addr × Obj)} {σ : St} {H2 : Hp} {s2 : Shared} {tg elt iter : Expr} {ifs : List Expr} {scope sc : Scope} {pos : Pos} {tgs frees : List Str} {js : List Nat} {g : TG} {te : TE} {tc : TT}

theorem compOk_parts {N : List Str} (h : compOk sc scope N tgs frees js = true) : scope.kind = .function ∧ (∀ p ∈ scope.names, p.2 ≠ .cell) ∧ (∀ p ∈ scope.names, p.2 = .free → sc.names.lookup p.1 = some .cell ∨ sc.names.lookup p.1 = some .free) ∧
    (∀ p ∈ scope.names, p.2 = .local → scope.names.lookup p.1 = some .local) ∧ (∀ x ∈ tgs, scope.names.lookup x = some .local) ∧ (∀ x ∈ frees, scope.names.lookup x = some .free) ∧ (js.map fun j => N[j]?) = frees.map some := by
  unfold compOk at h
  simp only [Bool.and_eq_true, List.all_eq_true, bne_iff_ne, ne_eq, Bool.or_eq_true, beq_iff_eq] at h
  obtain ⟨⟨⟨⟨h1, h2⟩, h3⟩, h4⟩, h5⟩ := h
  refine ⟨h1, fun p hp => (h2 p hp).1.1, fun p hp e => ?_, fun p hp e => ?_, h3, h4, h5⟩
  · rcases (h2 p hp).1.2 with (q | q) | q
    · exact absurd e q
    · exact .inl q
    · exact .inr q
  · rcases (h2 p hp).2 with q | q
    · exact absurd e q
    · exact q

theorem comp_start {C : Addr} {s3 : Shared} {H3 : Hp} {h4 : Heap} {tk : Nat} {fp : List Addr} {m0 : Str → Option Value} (I : Inv X pins σ H3 s3) (f3 : ∀ b ∈ fp, FpOk X pins H3 b) (ofp : ∀ b ∈ fp, b < s3.heap.objs.size)
    (hsc : X.env.scope = sc) (hok : compOk sc scope X.N tgs frees js = true) (hC : C = s3.heap.objs.size) (hk : ∀ b o, s3.heap.get? b = some o → h4.get? b = some o) (hn : h4.Ns C m0) :
    Inv (compCx X (tgs ++ frees) scope C s3 H3 fp) [] (upC tgs.length js σ) H3 { s3 with heap := h4, toks := tk } := by
  obtain ⟨k1, k2, k3, k4, k5, k6, k7⟩ := compOk_parts hok
  have hcl : ∀ x c, (clOf X.env scope.names []).lookup x = some c → X.env.cells.lookup x = some c := clOf_mem scope.names [] (fun _ _ z => nomatch z)
  have hfr : ∀ p ∈ scope.names, p.2 = .free → ∃ c, X.env.cells.lookup p.1 = some c := fun p hp e => I.ok.has p.1 (by
    show X.env.scope.names.lookup p.1 = _ ∨ X.env.scope.names.lookup p.1 = _
    rw [hsc]; exact k3 p hp e)
  have rl : ∀ x, (relabel scope X.env).names.lookup x = (scope.names.lookup x).map fun k => if (k == NameKind.free && X.env.scope.kind == .function && X.env.kindOf x == some .cell) = true then NameKind.cell else k := fun x => lookup_relabel x scope.names
  have hasc : ∀ x, ((relabel scope X.env).names.lookup x = some .cell ∨ (relabel scope X.env).names.lookup x = some .free) → ∃ c, (clOf X.env scope.names []).lookup x = some c := fun x hx => by
    rw [rl x] at hx
    cases e : scope.names.lookup x with
    | none => rw [e] at hx; simp at hx
    | some k =>
      have hm := PySem.mem_of_lookup e
      have hkf : k = .free := by
        rw [e] at hx
        simp only [Option.map_some, Option.some.injEq] at hx
        by_cases q : k = .free
        · exact q
        · have hb : (k == NameKind.free) = false := by simpa using q
          rw [hb] at hx
          simp only [Bool.false_and, Bool.false_eq_true, if_false] at hx
          rcases hx with z | z
          · exact absurd z (k2 _ hm)
          · exact z
      subst hkf
      exact Option.isSome_iff_exists.mp (clOf_has scope.names [] hfr x hm)
  have cfr : ∀ x c, X.env.cells.lookup x = some c → c ≠ C := fun x c e z => by
    obtain ⟨v, q⟩ := I.cell x c e
    exact absurd (z ▸ q.lt) (by rw [hC]; exact Nat.lt_irrefl _)
  have base0 : ∀ b o, X.base.get? b = some o → b ∉ fp := fun b o e hb => by
    obtain ⟨_, _, _, q, _⟩ := f3 b hb
    rcases q with q | q
    · exact I.ok.noex b o e q
    · exact absurd (Nat.lt_of_lt_of_le (Heap.lt_size (I.ok.bs b o e).1) q) (Nat.lt_irrefl _)
  have stk : ∀ b ∈ fp, b ∉ frs X.stack := fun b hb z => by
    obtain ⟨_, q1, q2, _⟩ := f3 b hb
    rcases List.mem_cons.mp (I.stkSub b z) with e | e
    · exact q1 e
    · exact q2 e
  refine ⟨⟨I.ok.mod, k1, I.ok.glob, I.ok.blt, by rw [hC]; exact Nat.le_refl _, fun x y c e1 e2 => I.ok.inj x y c (hcl x c e1) (hcl y c e2), hasc, (fun x c z _ => nomatch z), I.ok.hd, I.ok.frames, .inl rfl,
      fun b hb => ⟨fun z => absurd (ofp b hb) (by rw [show b = C from z, hC]; exact Nat.lt_irrefl _), fun x c e => (f3 b hb).2.2.2.2.1 x c (hcl x c e)⟩,
      fun b o e => I.bs b o e, Nat.le_trans I.ok.bsz I.sz, base0, stk, I.stack, I.stkFree⟩,
    rfl, I.bare, Un.kept hk, ⟨m0, hn, fun i x v e1 e2 e3 => ?_⟩, fun x c e => ?_, I.hok.fresh (by rw [show (compCx X (tgs ++ frees) scope C s3 H3 fp).env.locals = C from rfl, hC]; exact Nat.le_refl _), fun x c e => I.freeC x c (hcl x c e),
    fun p hp => absurd (show p ∈ ([] : List (Addr × Obj)) from hp) (by simp), I.hok.kept hk, ?_⟩
  · -- a name's value
    have hi : tgs.length ≤ i := by
      refine Nat.le_of_not_lt fun hlt => ?_
      have e2 : (upC tgs.length js σ)[i]? = some (some v) := e2
      unfold upC at e2
      rw [List.getElem?_append_left (by simpa using hlt), List.getElem?_replicate] at e2
      split at e2 <;> cases e2
    have e2 : (upC tgs.length js σ)[i]? = some (some v) := e2
    unfold upC at e2
    rw [List.getElem?_append_right (by simpa using hi), List.length_replicate, List.getElem?_map] at e2
    have e1 : (tgs ++ frees)[i]? = some x := e1
    rw [List.getElem?_append_right hi] at e1
    obtain ⟨j, ej, e2⟩ := Option.map_eq_some_iff.mp e2
    have hj : X.N[j]? = some x := by
      have q := congrArg (fun l => l[i - tgs.length]?) k7
      simp only [List.getElem?_map, ej, e1, Option.map_some] at q
      exact Option.some.inj q
    have hσ : σ[j]? = some (some v) := by
      cases q : σ[j]? with
      | none => rw [q] at e2; cases e2
      | some o => rw [q] at e2; exact congrArg some e2
    have hf : scope.names.lookup x = some .free := k6 x (List.mem_of_getElem? e1)
    have hX : X.env.kindOf x = some .cell ∨ X.env.kindOf x = some .free := by
      show X.env.scope.names.lookup x = _ ∨ X.env.scope.names.lookup x = _
      rw [hsc]; exact k3 _ (PySem.mem_of_lookup hf) rfl
    obtain ⟨m, _, hl⟩ := I.loc
    obtain ⟨u, r, l⟩ := hl j x v hj hσ (by
      rcases hX with q | q
      · exact .inr (.inl q)
      · exact .inr (.inr q))
    refine ⟨u, r, .inr ⟨?_, ?_⟩⟩
    · show (relabel scope X.env).names.lookup x = _ ∨ (relabel scope X.env).names.lookup x = _
      rw [rl x, hf]
      by_cases q : (NameKind.free == NameKind.free && X.env.scope.kind == .function && X.env.kindOf x == some .cell) = true
      · exact .inl (by rw [Option.map_some, if_pos q])
      · exact .inr (by rw [Option.map_some, if_neg q])
    · rcases l with ⟨q, _⟩ | ⟨_, c, ec, hcell⟩
      · rcases hX with z | z <;> (rw [z] at q; cases q)
      · obtain ⟨c', ec'⟩ := Option.isSome_iff_exists.mp (clOf_has scope.names [] hfr x (PySem.mem_of_lookup hf))
        have e : c' = c := Option.some.inj ((hcl x c' ec').symm.trans ec)
        subst e
        obtain ⟨o, ho, hd⟩ := hcell
        exact ⟨c', ec', o, hk _ _ ho, hd⟩
  · obtain ⟨v, o, ho, hd⟩ := I.cell x c (hcl x c e)
    exact ⟨v, o, hk _ _ ho, hd⟩
  · show (upC tgs.length js σ).length = (tgs ++ frees).length
    have q := congrArg List.length k7
    rw [List.length_map, List.length_map] at q
    unfold upC
    rw [List.length_append, List.length_replicate, List.length_map, List.length_append, q]

theorem comp_block {J : It} {fp : List Addr} {it : Addr} {tn : Nat → Heap → Prop} {RR : Value → Addr → Result → Shared → Prop} {E : Value → Shared → Prop} {Q : VK}
    (I2 : Inv X pins σ H2 s2) (T : Turn X.prog X.w X.K tg J fp it tn) (st2 : tn 0 s2.heap) (f2 : ∀ b ∈ fp, FpOk X pins H2 b) (hc : X.calm = true)
    (hsc : X.env.scope = sc) (hok : compOk sc scope X.N tgs frees js = true)
    (hg : ∀ C s₀ H₀ fp, PG (compCx X (tgs ++ frees) scope C s₀ H₀ fp) tg g) (hi : ∀ C s₀ H₀ fp, PIfs (compCx X (tgs ++ frees) scope C s₀ H₀ fp) ifs tc) (he : ∀ C s₀ H₀ fp, PE (compCx X (tgs ++ frees) scope C s₀ H₀ fp) elt te)
    (hw : tBlk J tgs.length js g tc te σ H2 Q)
    (hRR : ∀ D C s' H' m, Inv X pins σ H' s' → Q (.ref D) H' → FpOk X pins H' C → s'.heap.Ns C m → RR (.ref D) C (.ok .next) s') :
    wpAny (model X.prog X.w) X.A (newList []) (fun acc s₃ => wpAny (model X.prog X.w) X.A (newFunctionEnv scope X.env.globals (clOf X.env scope.names []) [] X.env.qual none .none (some X.env)) (fun cenv s₄ =>
      codeAny (model X.prog X.w) X.A (.compStart (.ListComp elt [⟨tg, iter, ifs, 0⟩] scope pos) 0 (.ref it) acc { cenv with scope := relabel scope X.env }) (RR acc cenv.locals) s₄) E s₃) E s2 := by
  obtain ⟨k1, k2, k3, k4, k5, k6, k7⟩ := compOk_parts hok
  refine wpAny_newObj_type (wpAny_newFunctionEnv k2 (by intro y hy; simp at hy) (fun h4 hn4 hs4 => ?_) k1)
  dsimp only at hn4 hs4 ⊢
  generalize hh3 : s2.heap.push { cls := .type "list", dict := none, data := .seq ([] : List Value).toArray } = h3 at hn4 hs4 ⊢
  generalize hD : s2.heap.objs.size = D
  have hDn : H2 D = none := by rw [← hD]; exact I2.fresh
  have hsz3 : h3.objs.size = D + 1 := by rw [← hh3, Heap.size_push, hD]
  have keep23 : ∀ b o, s2.heap.get? b = some o → h3.get? b = some o := fun b o e => by rw [← hh3]; exact Heap.get?_push_of_some _ e
  have keep34 : ∀ b o, h3.get? b = some o → h4.get? b = some o := fun b o e => hs4.extBut b o (Nat.ne_of_lt (Heap.lt_size e)) (Heap.get?_push_of_some _ e)
  have I3 : Inv X pins σ (upd H2 D (.lst [])) { s2 with heap := h3 } := by
    have q := I2.lnew (its := []) (ys := []) (t' := s2.toks) .nil (Nat.zero_le _)
    rw [hD] at q
    rw [← hh3]
    exact q
  have nfp : ∀ b ∈ fp, b ≠ D := fun b hb z => by
    obtain ⟨o, e, _⟩ := T.obj 0 _ st2 b hb
    exact absurd (Heap.lt_size e) (by rw [z, hD]; exact Nat.lt_irrefl _)
  have f3 : ∀ b ∈ fp, FpOk X pins (upd H2 D (.lst [])) b := fun b hb => by
    obtain ⟨q0, q⟩ := f2 b hb
    exact ⟨by rw [upd_ne (nfp b hb)]; exact q0, q⟩
  have ofp : ∀ b ∈ fp, b < h3.objs.size := fun b hb => by
    obtain ⟨o, e, _⟩ := T.obj 0 _ st2 b hb
    exact Heap.lt_size (keep23 b o e)
  obtain ⟨W, ⟨n0, w0⟩, turn⟩ := hw D hDn
  have loop : ∀ s4 : Shared, s4 = { s2 with heap := h4, toks := s2.toks + ([] : List (Str × Value)).length } →
      codeAny (model X.prog X.w) X.A (.compLoop (.ListComp elt [⟨tg, iter, ifs, 0⟩] scope pos) 0 (.ref it) (.ref D) (compEnvC scope (clOf X.env scope.names []) h3.objs.size X.env)) (RR (.ref D) h3.objs.size) s4 := by
    rintro s4 rfl
    generalize hX' : compCx X (tgs ++ frees) scope h3.objs.size { s2 with heap := h3 } (upd H2 D (.lst [])) fp = X'
    have I4 : Inv X' [] (upC tgs.length js σ) (upd H2 D (.lst [])) { s2 with heap := h4, toks := s2.toks + ([] : List (Str × Value)).length } := by
      rw [← hX']
      exact comp_start (s3 := { s2 with heap := h3 }) I3 f3 ofp hsc hok rfl keep34 hn4
    have eP : X'.prog = X.prog := by rw [← hX']; rfl
    have eW : X'.w = X.w := by rw [← hX']; rfl
    have eK : X'.K = X.K := by rw [← hX']; rfl
    have eA : X'.A = X.A := by rw [← hX']; rfl
    have eC : X'.calm = true := by rw [← hX']; exact hc
    have T' : Turn X'.prog X'.w X'.K tg J fp it tn := by rw [eP, eW, eK]; exact T
    have eE : X'.env = compEnvC scope (clOf X.env scope.names []) h3.objs.size X.env := by rw [← hX']; rfl
    have eX : X'.xe = F0 := by rw [← hX']; rfl
    have stat : ∀ {H' : Hp}, (∀ b ∈ fp, H' b = none) → ∀ b ∈ fp, FpOk X' [] H' b := fun {H'} hn b hb => by
      obtain ⟨_, q1, q2, q3, q4, q5⟩ := f3 b hb
      rw [← hX']
      refine ⟨hn b hb, ?_, ?_, .inl hb, fun x c e => ?_, fun p hp => absurd (show p ∈ ([] : List (Addr × Obj)) from hp) (by simp)⟩
      · exact fun z => absurd (ofp b hb) (by rw [show b = h3.objs.size from z]; exact Nat.lt_irrefl _)
      · intro z
        rcases List.mem_cons.mp (I3.stkSub b z) with e | e
        · exact q1 e
        · exact q2 e
      · exact q4 x c (clOf_mem scope.names [] (fun _ _ z => nomatch z) x c e)
    have hgX : PG X' tg g := by rw [← hX']; exact hg _ _ _ _
    have hiX : PIfs X' ifs tc := by rw [← hX']; exact hi _ _ _ _
    have heX : PE X' elt te := by rw [← hX']; exact he _ _ _ _
    refine compLoop_turns (fun n s' => ∃ i σ' H', Inv X' [] σ' H' s' ∧ tn i s'.heap ∧ (∀ b ∈ fp, H' b = none) ∧ W i n σ' H') ?_ n0 ⟨0, _, _, I4, T.keep 0 _ _ st2 (fun b _ o e => keep34 b o (keep23 b o e)), fun b hb => (f3 b hb).1, w0⟩
    rintro n s5 ⟨i, σ5, H5, I5, st5, fr5, w5⟩
    rw [← eP, ← eW, ← eE, ← eA]
    rcases turn i n σ5 H5 w5 with ⟨stop, qn⟩ | ⟨go, step⟩
    · refine thn (T'.done X' rfl rfl rfl eC i [] s5 σ5 H5 F0 I5 (stat fr5) st5 stop) fun r s6 ⟨hr, I6⟩ => ?_
      subst hr
      have un : Un (frs X.stack) fp H2 H5 s2.heap s6.heap := by
        have u1 : Un (frs X.stack) fp H2 (upd H2 D (.lst [])) s2.heap h3 := Un.laid keep23 (Nat.le_of_eq hD) hDn
        have u2 := I6.base
        rw [← hX'] at u2
        exact u1.trans u2
      have hpx : HOk X.prog X.w H5 s6.heap := by have q := I6.hok; rw [eP, eW] at q; exact q
      have hos : s6.os = s2.os := by have q := I6.os; rw [← hX'] at q; exact q
      have IX : Inv X pins σ H5 s6 := I2.call' (ch := fp) hos un hpx I6.bare fun b hb => ⟨(f2 b hb).2.2.2.1, (f2 b hb).2.1, (f2 b hb).2.2.2.2.1, (f2 b hb).2.2.2.2.2⟩
      obtain ⟨m, hm, _⟩ := I6.loc
      have hloc : X'.env.locals = h3.objs.size := by rw [eE]; rfl
      rw [hloc] at hm
      have hle : s2.heap.objs.size ≤ h3.objs.size := by rw [hD, hsz3]; exact Nat.le_succ _
      refine hRR D h3.objs.size s6 H5 m IX qn (I2.fpOk hle ?_) hm
      have q := I6.free
      rw [hloc] at q
      exact q
    · refine thn (T'.item X' rfl rfl rfl eC i [] s5 σ5 H5 F0 I5 (stat fr5) st5 go) fun r s6 ⟨u, hr, h6⟩ => ?_
      subst hr
      refine thn h6 fun _ s7 ⟨x, H7, I7, r7, y7, st7, fr7⟩ => ?_
      have I7' := I7.pinned (stat fr7) (T.obj _ _ st7)
      have xe0 : X'.xe = F0 := eX
      have conv : ∀ {α : Type} {t : Sem α} {Q : α → Shared → Prop} {s : Shared}, wpAny (model X'.prog X'.w) X'.A t Q X'.xe s → wpAny (model X'.prog X'.w) X'.A t Q F0 s := fun h => by rw [xe0] at h; exact h
      refine thn (conv (hgX _ s7 σ5 H7 x u _ I7' r7 (step x H7 y7))) fun _ s8 ⟨σ8, H8, I8, q8⟩ => ?_
      refine thn (conv (hiX _ s8 σ8 H8 _ I8 q8)) fun ok s9 ⟨H9, I9, q9⟩ => ?_
      have again : ∀ {σz : St} {Hz : Hp} {sz : Shared} {k' : Nat}, Inv X' ([] ++ pinsAt fp s7.heap) σz Hz sz → k' < n → W (i + 1) k' σz Hz → ∃ m, m < n ∧ ∃ i σ' H', Inv X' [] σ' H' sz ∧ tn i sz.heap ∧ (∀ b ∈ fp, H' b = none) ∧ W i m σ' H' := fun {σz Hz sz k'} Iz hk wz => by
        refine ⟨k', hk, i + 1, σz, Hz, Iz.unpinned, T.keep _ _ _ st7 fun b hb o e => (Iz.pin (b, o) (List.mem_append_right _ (List.mem_append_right _ (mem_pinsAt hb e)))).1, fun b hb => ?_, wz⟩
        obtain ⟨o, e, d⟩ := T.obj _ _ st7 b hb
        exact (Iz.pin (b, o) (List.mem_append_right _ (List.mem_append_right _ (mem_pinsAt hb e)))).2.1
      cases ok with
      | false =>
        rw [if_neg (by decide)] at q9
        rw [if_neg (by decide)]
        obtain ⟨k', hk, wz⟩ := q9
        exact again I9 hk wz
      | true =>
        rw [if_pos rfl] at q9
        rw [if_pos rfl]
        refine thn (conv (heX _ s9 σ8 H9 _ I9 q9)) fun v s10 ⟨y, H10, I10, r10, ys, k', hys, hl, hk, wz⟩ => ?_
        refine thn (conv (mt_append (X := X') _ s10 σ8 H10 (.ref D) [y] (.ref D) [v] (fun z Hz => W (i + 1) k' σ8 Hz) I10 rfl (.cons r10 .nil) ⟨D, ys, y, rfl, rfl, hys, hl, wz⟩)) fun _ s11 ⟨_, H11, I11, _, q11⟩ => ?_
        exact again I11 hk q11
  rw [show s2.heap.objs.size = D from hD] at *
  exact codeAny_compStart_list (loop _ rfl) (T.self _ 0 _ _ _ (T.keep 0 _ _ st2 fun b _ o e => keep34 b o (keep23 b o e)) (loop _ rfl))

noncomputable def tComp (wi : TI) (m : Nat) (js : List Nat) (g : TG) (tc : TT) (te : TE) : TE := fun σ H Q => wi σ H fun J H1 => tBlk J m js g tc te σ H1 Q

theorem comp_hfree (ok : X.Ok) (hsc : X.env.scope = sc) (hok : compOk sc scope X.N tgs frees js = true) : closureFor scope X.env = pure (clOf X.env scope.names []) :=
  closure_eq fun p hp e => ok.has p.1 (by
    show X.env.scope.names.lookup p.1 = _ ∨ X.env.scope.names.lookup p.1 = _
    rw [hsc]; exact (compOk_parts hok).2.2.1 p hp e)

theorem pe_comp (sc : Scope) (tgs frees : List Str) (js : List Nat) {wi : TI} (hp : PI X tg iter wi) (hc : X.calm = true) (hsc : X.env.scope = sc) (hok : compOk sc scope X.N tgs frees js = true)
    (hg : ∀ C s₀ H₀ fp, PG (compCx X (tgs ++ frees) scope C s₀ H₀ fp) tg g) (hi : ∀ C s₀ H₀ fp, PIfs (compCx X (tgs ++ frees) scope C s₀ H₀ fp) ifs tc) (he : ∀ C s₀ H₀ fp, PE (compCx X (tgs ++ frees) scope C s₀ H₀ fp) elt te)
    (hs : ∀ x, foldedSetIterable iter X.env x = pure x := by intro _; rfl) :
    PE X (.ListComp elt [⟨tg, iter, ifs, 0⟩] scope pos) (tComp wi tgs.length js g tc te) := by
  intro pins s σ H Q I h
  obtain ⟨k1, k2, k3, k4, k5, k6, k7⟩ := compOk_parts hok
  rw [eval_ListComp]
  refine wpAny_comprehension_free (use := none) rfl hs (comp_hfree I.ok hsc hok) k1 k4 (thn (hp pins s σ H _ I h) fun v s1 h1 => thn h1 fun itv s2 h2 => ?_)
  obtain ⟨it, fp, tn, J, H2, e, I2, T, st2, f2, hw⟩ := h2
  subst e
  refine comp_block (RR := fun acc C => compPost (model X.prog X.w) X.A X.xe none (EP X pins σ Q) acc C) I2 T st2 f2 hc hsc hok hg hi he hw ?_
  intro D C s' H' m I' q fC hn
  refine ⟨m, hn, fun h' hs' => ⟨.ref D, H', ?_, rfl, q⟩⟩
  obtain ⟨c0, c1, c2, c3, c4, c5⟩ := fC
  exact I'.turned (t' := s'.toks) (fun b o hb e => hs'.extBut b o hb e) c0 c1 c3 c4 c5

end
end L2

namespace L2
open PySem PySem.Spec PyProof.Rows
inductive KT where
  | int (i : Int) | tup (l : List KT)
noncomputable instance : DecidableEq KT := fun _ _ => Classical.propDecidable _
noncomputable def leafH : KT → Int
  | .int i => hashInt i
  | .tup _ => 0
noncomputable def hK : Nat → KT → Int
  | n + 1, .tup ks => reduceHash (Builtin.Tuple.tupleHashOf (ks.map (hK n)))
  | _, k => leafH k
noncomputable def entsK : List KT → List Addr → List Value → List DictEntry
  | k :: ks, a :: as, u :: us => ⟨hK 8 k, .ref a, u⟩ :: entsK ks as us
  | _, _, _ => []
noncomputable def dictφ (a : Addr) (ks : List KT) (as : List Addr) (vs : List V) : Heap → Prop := fun h =>
  ∃ us, Vals vs us ∧ ∃ o es ep, h.get? a = some o ∧ o.ExactDict ∧ o.data = .dict es ep ∧ es.toList = entsK ks as us
end L2

namespace L2
open PySem PySem.Spec PyProof.Rows

inductive D where
  | non | bl (b : Bool) | int (i : Int) | str (x : Str) | tup (ds : List D) | lst (ds : List D) | obj (c : Str) (ns : List Str) (ds : List D)
  /-- an exception of an own class -/
  | exc (c : Str) (ns : List Str) (ds : List D)
  deriving Inhabited

noncomputable def tabQ : Str := Str.ofString "cover.<locals>.<lambda>"
noncomputable def tabs : List Addr := [16]
noncomputable def TB (H : Hp) : Prop := (∀ P ps, H P = some (.tbl ps) → TriplesOk ps.toList ∧ ∀ pos cv, codeAmong pos ps.toList = some cv → ∃ c o u vs t, cv = .ref c ∧ H c = some (.frz o u) ∧ o.data = .fields vs ∧ vs[1]? = some (.str tabQ t)) ∧ ∀ P ∈ tabs, ∃ ps, H P = some (.tbl ps)
structure SameT (H H' : Hp) : Prop where
  ta : TB H
  tb : TB H'
  le : ∀ b u, H b = some u → H' b = some u ∨ ∃ ps ps', u = .tbl ps ∧ H' b = some (.tbl ps')
theorem SameT.get {H H' : Hp} (e : SameT H H') {b : Addr} {u : HO} (h : H b = some u) (nt : ∀ ps, u ≠ .tbl ps := by intro _ z; cases z) : H' b = some u := by
  rcases e.le b u h with z | ⟨ps, _, z, _⟩
  · exact z
  · exact absurd z (nt ps)
theorem SameT.refl {H : Hp} (h : TB H) : SameT H H := ⟨h, h, fun _ _ e => .inl e⟩
theorem SameT.trans {H H1 H2 : Hp} (a : SameT H H1) (b : SameT H1 H2) : SameT H H2 := ⟨a.ta, b.tb, fun c u e => by
  rcases a.le c u e with z | ⟨ps, ps', z, y⟩
  · exact b.le c u z
  · rcases b.le c _ y with x | ⟨_, ps2, _, x⟩
    · exact .inr ⟨ps, ps', z, x⟩
    · exact .inr ⟨ps, ps2, z, x⟩⟩
theorem SameT.free {H H' : Hp} (e : SameT H H') {l : Addr} (h : H' l = Option.none) : H l = Option.none := by
  cases q : H l with
  | none => rfl
  | some o =>
    rcases e.le l o q with z | ⟨_, _, _, z⟩ <;> (rw [z] at h; cases h)
theorem SameT.seq {K : PySem.W.Frag} {H H' : Hp} {a : Addr} {xs : List V} (e : SameT H H') (h : SqL K H a xs) : SqL K H' a xs := by
  rcases h with (h | ⟨o, h⟩) | h
  · exact .inl (.inl (e.get h))
  · exact .inl (.inr ⟨o, e.get h⟩)
  · exact .inr h
theorem TB.lay {H : Hp} {p : Addr} {o : HO} (h : TB H) (hp : H p = none) (nt : ∀ ps, o ≠ .tbl ps) : TB (upd H p o) := ⟨fun P ps e => by
  by_cases z : P = p
  · rw [z, upd_same] at e; exact absurd (Option.some.inj e) (nt ps)
  · rw [upd_ne z] at e
    obtain ⟨h1, h2⟩ := h.1 P ps e
    refine ⟨h1, fun pos cv q => ?_⟩
    obtain ⟨c, o', u, vs, t, r1, r2, r3, r4⟩ := h2 pos cv q
    exact ⟨c, o', u, vs, t, r1, by rw [upd_ne (ne_of_none r2 hp)]; exact r2, r3, r4⟩, fun P hP => by
  obtain ⟨ps, e⟩ := h.2 P hP
  exact ⟨ps, by rw [upd_ne (ne_of_none e hp)]; exact e⟩⟩
theorem TB.over {H : Hp} {a : Addr} {o u0 : HO} (h : TB H) (ha : H a = some u0) (nf : ∀ o' u, u0 ≠ .frz o' u := by intro _ _ z; cases z) (n0 : ∀ ps, u0 ≠ .tbl ps := by intro _ z; cases z) (nt : ∀ ps, o ≠ .tbl ps := by intro _ z; cases z) : TB (upd H a o) := ⟨fun P ps e => by
  by_cases z : P = a
  · rw [z, upd_same] at e; exact absurd (Option.some.inj e) (nt ps)
  · rw [upd_ne z] at e
    obtain ⟨h1, h2⟩ := h.1 P ps e
    refine ⟨h1, fun pos cv q => ?_⟩
    obtain ⟨c, o', u, vs, t, r1, r2, r3, r4⟩ := h2 pos cv q
    exact ⟨c, o', u, vs, t, r1, by rw [upd_ne (fun y : c = a => by rw [y, ha] at r2; exact nf o' u (Option.some.inj r2))]; exact r2, r3, r4⟩, fun P hP => by
  obtain ⟨ps, e⟩ := h.2 P hP
  exact ⟨ps, by rw [upd_ne (fun y : P = a => by rw [y, ha] at e; exact n0 ps (Option.some.inj e))]; exact e⟩⟩
theorem SameT.tup {K : PySem.W.Frag} {H H' : Hp} {a : Addr} {xs : List V} (e : SameT H H') (h : SqT K H a xs) : SqT K H' a xs := by
  rcases h with (h | ⟨o, h⟩) | h
  · exact .inl (.inl (e.get h))
  · exact .inl (.inr ⟨o, e.get h⟩)
  · exact .inr h

noncomputable def ClsAt (K : PySem.W.Frag) (c : Str) (C : Addr) : Prop := PySem.W.nsIn K mainGlobals c = some (some (.ref C))
noncomputable def Xe (C a : Addr) (od : Option Addr) : Heap → Prop := fun h => ∃ fs, h.get? a = some { cls := .ref C, dict := od, data := .fields fs }
noncomputable def Xd (dx : Addr) (fs : List (Str × V)) : Heap → Prop := fun h => ∃ mA, h.Ns1 dx mA ∧ ∀ f, RelO (fs.lookup f) (mA f)
noncomputable def XD (G : Hp) : Option Addr → List (Str × V) → Prop
  | none, fs => fs = []
  | some dx, fs => G dx = some (.ext (Xd dx fs))
theorem XD.mono {G G' : Hp} (e : SameT G G') : ∀ {od : Option Addr} {fs : List (Str × V)}, XD G od fs → XD G' od fs
  | none, _, h => h
  | some _, _, h => e.get h
mutual
noncomputable def Rep (K : PySem.W.Frag) (G : Hp) : D → V → Prop
  | .non, v => v = .non
  | .bl b, v => v = .bl b
  | .int i, v => v = .int i
  | .str x, v => v = .str x
  | .tup ds, v => ∃ a vs, v = .ref a ∧ SqT K G a vs ∧ Reps K G ds vs
  | .lst ds, v => ∃ a vs, v = .ref a ∧ SqL K G a vs ∧ Reps K G ds vs
  | .obj c ns ds, v => ∃ C a dx vs, ClsAt K c C ∧ v = .ref a ∧ G a = some (.ins C dx (ns.zip vs)) ∧ ns.length = ds.length ∧ Reps K G ds vs
  | .exc c ns ds, v => ∃ C a od vs, ClsAt K c C ∧ v = .ref a ∧ G a = some (.ext (Xe C a od)) ∧ XD G od (ns.zip vs) ∧ ns.length = ds.length ∧ Reps K G ds vs
noncomputable def Reps (K : PySem.W.Frag) (G : Hp) : List D → List V → Prop
  | [], vs => vs = []
  | d :: r, vs => ∃ v vr, vs = v :: vr ∧ Rep K G d v ∧ Reps K G r vr
end
section
variable {K : PySem.W.Frag} {G G' : Hp}
mutual
theorem Rep.mono (e : SameT G G') : ∀ (d : D) (v : V), Rep K G d v → Rep K G' d v
  | .non, _, h => by unfold Rep at h ⊢; exact h
  | .bl _, _, h => by unfold Rep at h ⊢; exact h
  | .int _, _, h => by unfold Rep at h ⊢; exact h
  | .str _, _, h => by unfold Rep at h ⊢; exact h
  | .tup ds, _, h => by
    unfold Rep at h ⊢
    obtain ⟨a, vs, h1, h2, h3⟩ := h
    exact ⟨a, vs, h1, e.tup h2, Reps.mono e ds vs h3⟩
  | .lst ds, _, h => by
    unfold Rep at h ⊢
    obtain ⟨a, vs, h1, h2, h3⟩ := h
    exact ⟨a, vs, h1, e.seq h2, Reps.mono e ds vs h3⟩
  | .obj C ns ds, _, h => by
    unfold Rep at h ⊢
    obtain ⟨C, a, dx, vs, h0, h1, h2, h4, h3⟩ := h
    exact ⟨C, a, dx, vs, h0, h1, e.get h2, h4, Reps.mono e ds vs h3⟩
  | .exc C ns ds, _, h => by
    unfold Rep at h ⊢
    obtain ⟨C, a, od, vs, h0, h1, h2, h5, h4, h3⟩ := h
    exact ⟨C, a, od, vs, h0, h1, e.get h2, h5.mono e, h4, Reps.mono e ds vs h3⟩
theorem Reps.mono (e : SameT G G') : ∀ (ds : List D) (vs : List V), Reps K G ds vs → Reps K G' ds vs
  | [], _, h => by unfold Reps at h ⊢; exact h
  | d :: r, _, h => by
    unfold Reps at h ⊢
    obtain ⟨v, vr, h1, h2, h3⟩ := h
    exact ⟨v, vr, h1, Rep.mono e d v h2, Reps.mono e r vr h3⟩
end
theorem rep_non {v : V} : Rep K G .non v ↔ v = .non := by unfold Rep; exact Iff.rfl
theorem rep_bl {b : Bool} {v : V} : Rep K G (.bl b) v ↔ v = .bl b := by unfold Rep; exact Iff.rfl
theorem rep_int {i : Int} {v : V} : Rep K G (.int i) v ↔ v = .int i := by unfold Rep; exact Iff.rfl
theorem rep_str {x : Str} {v : V} : Rep K G (.str x) v ↔ v = .str x := by unfold Rep; exact Iff.rfl
theorem rep_tup {ds : List D} {v : V} : Rep K G (.tup ds) v ↔ ∃ a vs, v = .ref a ∧ SqT K G a vs ∧ Reps K G ds vs := by
  constructor <;> (intro h; unfold Rep at *; exact h)
theorem rep_lst {ds : List D} {v : V} : Rep K G (.lst ds) v ↔ ∃ a vs, v = .ref a ∧ SqL K G a vs ∧ Reps K G ds vs := by
  constructor <;> (intro h; unfold Rep at *; exact h)
theorem rep_obj {c : Str} {ns : List Str} {ds : List D} {v : V} : Rep K G (.obj c ns ds) v ↔ ∃ C a dx vs, ClsAt K c C ∧ v = .ref a ∧ G a = some (.ins C dx (ns.zip vs)) ∧ ns.length = ds.length ∧ Reps K G ds vs := by
  constructor <;> (intro h; unfold Rep at *; exact h)
theorem rep_exc {c : Str} {ns : List Str} {ds : List D} {v : V} : Rep K G (.exc c ns ds) v ↔ ∃ C a od vs, ClsAt K c C ∧ v = .ref a ∧ G a = some (.ext (Xe C a od)) ∧ XD G od (ns.zip vs) ∧ ns.length = ds.length ∧ Reps K G ds vs := by
  constructor <;> (intro h; unfold Rep at *; exact h)
theorem reps_nil {vs : List V} : Reps K G [] vs ↔ vs = [] := by unfold Reps; exact Iff.rfl
theorem reps_cons {d : D} {r : List D} {vs : List V} : Reps K G (d :: r) vs ↔ ∃ v vr, vs = v :: vr ∧ Rep K G d v ∧ Reps K G r vr := by
  rw [Reps]
theorem Reps.length : ∀ {ds : List D} {vs : List V}, Reps K G ds vs → ds.length = vs.length
  | [], _, h => by rw [reps_nil] at h; rw [h]; rfl
  | d :: r, _, h => by
    rw [reps_cons] at h
    obtain ⟨v, vr, rfl, _, h3⟩ := h
    rw [List.length_cons, List.length_cons, Reps.length h3]
theorem Reps.get : ∀ {ds : List D} {vs : List V} {i : Nat} {d : D}, Reps K G ds vs → ds[i]? = some d → ∃ v, vs[i]? = some v ∧ Rep K G d v
  | [], _, _, _, _, e => by simp at e
  | d :: r, _, 0, _, h, e => by
    rw [reps_cons] at h
    obtain ⟨v, vr, rfl, h2, h3⟩ := h
    simp at e; subst e
    exact ⟨v, rfl, h2⟩
  | d :: r, _, i + 1, _, h, e => by
    rw [reps_cons] at h
    obtain ⟨v, vr, rfl, h2, h3⟩ := h
    obtain ⟨u, e1, e2⟩ := Reps.get h3 (by simpa using e)
    exact ⟨u, by simpa using e1, e2⟩
theorem Reps.snoc : ∀ {ds : List D} {vs : List V} {d : D} {v : V}, Reps K G ds vs → Rep K G d v → Reps K G (ds ++ [d]) (vs ++ [v])
  | [], _, d, v, h, r => by
    rw [reps_nil] at h; subst h
    exact reps_cons.mpr ⟨v, [], rfl, r, reps_nil.mpr rfl⟩
  | e :: t, _, d, v, h, r => by
    rw [reps_cons] at h
    obtain ⟨u, vr, rfl, h2, h3⟩ := h
    exact reps_cons.mpr ⟨u, vr ++ [v], rfl, h2, h3.snoc r⟩
theorem Reps.append : ∀ {ds es : List D} {vs us : List V}, Reps K G ds vs → Reps K G es us → Reps K G (ds ++ es) (vs ++ us)
  | [], _, _, _, h, r => by rw [reps_nil] at h; subst h; exact r
  | e :: t, _, _, us, h, r => by
    rw [reps_cons] at h
    obtain ⟨u, vr, rfl, h2, h3⟩ := h
    exact reps_cons.mpr ⟨u, vr ++ us, rfl, h2, h3.append r⟩
theorem Reps.take : ∀ {ds : List D} {vs : List V} (n : Nat), Reps K G ds vs → Reps K G (ds.take n) (vs.take n)
  | _, _, 0, _ => by rw [List.take_zero, List.take_zero]; exact reps_nil.mpr rfl
  | [], _, _ + 1, h => by rw [reps_nil] at h; subst h; exact reps_nil.mpr rfl
  | e :: t, _, n + 1, h => by
    rw [reps_cons] at h
    obtain ⟨u, vr, rfl, h2, h3⟩ := h
    exact reps_cons.mpr ⟨u, vr.take n, rfl, h2, h3.take n⟩
theorem Reps.drop : ∀ {ds : List D} {vs : List V} (n : Nat), Reps K G ds vs → Reps K G (ds.drop n) (vs.drop n)
  | _, _, 0, h => h
  | [], _, _ + 1, h => by rw [reps_nil] at h; subst h; exact reps_nil.mpr rfl
  | e :: t, _, n + 1, h => by
    rw [reps_cons] at h
    obtain ⟨u, vr, rfl, h2, h3⟩ := h
    exact h3.drop n
end

structure Step (G H G' H' : Hp) : Prop where
  hh : SameT H H'
  gg : SameT G G'
  sub : SameT G' H'
  new : ∀ a, H a ≠ none → G' a = G a
theorem Step.refl {G H : Hp} (h : SameT G H) : Step G H G H := ⟨SameT.refl h.tb, SameT.refl h.ta, h, fun _ _ => rfl⟩
theorem Step.trans {G H G1 H1 G2 H2 : Hp} (a : Step G H G1 H1) (b : Step G1 H1 G2 H2) : Step G H G2 H2 :=
  ⟨a.hh.trans b.hh, a.gg.trans b.gg, b.sub, fun c hc => (b.new c (fun z => hc (a.hh.free z))).trans (a.new c hc)⟩
theorem SameT.new {H : Hp} {p : Addr} {o : HO} (t : TB H) (hp : H p = none) (nt : ∀ ps, o ≠ .tbl ps := by intro _ z; cases z) : SameT H (upd H p o) := ⟨t, t.lay hp nt, fun b u e => .inl (by rw [upd_ne (ne_of_none e hp)]; exact e)⟩
theorem Step.laid {G H : Hp} {p : Addr} {o : HO} (s : SameT G H) (hp : H p = none) (nt : ∀ ps, o ≠ .tbl ps := by intro _ z; cases z) : Step G H (upd G p o) (upd H p o) := by
  refine ⟨SameT.new s.tb hp nt, SameT.new s.ta (s.free hp) nt, ⟨s.ta.lay (s.free hp) nt, s.tb.lay hp nt, fun b u e => ?_⟩, fun a ha => ?_⟩
  · by_cases hb : b = p
    · subst hb; rw [upd_same] at e ⊢; exact .inl e
    · rw [upd_ne hb] at e ⊢; exact s.le b u e
  · exact upd_ne (fun z : a = p => ha (by rw [z]; exact hp))
theorem Step.own {G H : Hp} {p : Addr} {o : HO} (s : SameT G H) (hp : H p = none) (nt : ∀ ps, o ≠ .tbl ps := by intro _ z; cases z) : Step G H G (upd H p o) :=
  ⟨SameT.new s.tb hp nt, SameT.refl s.ta, s.trans (SameT.new s.tb hp nt), fun _ _ => rfl⟩
theorem Step.frz {G H G' H' : Hp} {p : Addr} {o : HO} (s : Step G H G' H') (hp : H p = none) (h' : H' p = some o) (g' : G' p = none) (nt : ∀ ps, o ≠ .tbl ps := by intro _ z; cases z) : Step G H (upd G' p o) H' := by
  refine ⟨s.hh, s.gg.trans (SameT.new s.sub.ta g' nt), ⟨s.sub.ta.lay g' nt, s.sub.tb, fun b u e => ?_⟩, fun a ha => ?_⟩
  · by_cases hb : b = p
    · subst hb; rw [upd_same] at e; rw [h']; exact .inl e
    · rw [upd_ne hb] at e; exact s.sub.le b u e
  · rw [upd_ne (fun z : a = p => ha (by rw [z]; exact hp))]; exact s.new a ha

inductive B where
  | no | fz (d : D) | ow (ds : List D)
  /-- a dict of its own: keys and values -/
  | od (kvs : List (D × D))
  deriving Inhabited
noncomputable def ktDs (f : D → Option KT) : List D → Option (List KT)
  | [] => some []
  | d :: r => (f d).bind fun k => (ktDs f r).map fun ks => k :: ks
noncomputable def ktD : Nat → D → Option KT
  | _, .int i => some (.int i)
  | _, .bl b => some (.int (if b then 1 else 0))
  | n + 1, .tup ds => (ktDs (ktD n) ds).map .tup
  | _, _ => none
inductive ODs (K : PySem.W.Frag) (G : Hp) : List (D × D) → List KT → List Addr → List V → Prop
  | nil : ODs K G [] [] [] []
  | cons {d e : D} {k : KT} {a : Addr} {v : V} {kvs : List (D × D)} {ks : List KT} {as : List Addr} {vs : List V} : ktD 8 d = some k → Rep K G d (.ref a) → Rep K G e v → ODs K G kvs ks as vs → ODs K G ((d, e) :: kvs) (k :: ks) (a :: as) (v :: vs)
theorem ODs.mono {K : PySem.W.Frag} {G G' : Hp} (h : SameT G G') : ∀ {kvs ks as vs}, ODs K G kvs ks as vs → ODs K G' kvs ks as vs
  | _, _, _, _, .nil => .nil
  | _, _, _, _, .cons h1 h2 h3 h4 => .cons h1 (h2.mono h) (h3.mono h) (ODs.mono h h4)
inductive RB (K : PySem.W.Frag) (H0 G H : Hp) : Option V → B → Prop where
  | no {o : Option V} : RB K H0 G H o .no
  | fz {v : V} {d : D} : Rep K G d v → RB K H0 G H (some v) (.fz d)
  | ow {a : Addr} {vs : List V} {ds : List D} : H a = some (.lst vs) → G a = none → H0 a = none → Reps K G ds vs → RB K H0 G H (some (.ref a)) (.ow ds)
  | od {a : Addr} {kvs : List (D × D)} {ks : List KT} {as : List Addr} {vs : List V} : H a = some (.ext (dictφ a ks as vs)) → G a = none → H0 a = none → ODs K G kvs ks as vs → ks.Nodup → (a == sysModules) = false → RB K H0 G H (some (.ref a)) (.od kvs)
structure Good (K : PySem.W.Frag) (G0 H0 G H : Hp) (σ : St) (ρ : List B) : Prop where
  st : Step G0 H0 G H
  vals : Paired (RB K H0 G H) σ ρ
  apart : ∀ (i j : Nat) (a : Addr) (ds es : List D), ρ[i]? = some (.ow ds) → ρ[j]? = some (.ow es) → σ[i]? = some (some (.ref a)) → σ[j]? = some (some (.ref a)) → i = j
theorem Paired.get {α β : Type} {F : α → β → Prop} : ∀ {l : List α} {r : List β} {i : Nat} {b : β}, Paired F l r → r[i]? = some b → ∃ a, l[i]? = some a ∧ F a b
  | _, _, _, _, .nil, e => by simp at e
  | _, _, 0, _, .cons h _, e => by simp at e; subst e; exact ⟨_, rfl, h⟩
  | _, _, i + 1, b, .cons _ t, e => by
    obtain ⟨a, h1, h2⟩ := Paired.get (i := i) (b := b) t (by simpa using e)
    exact ⟨a, by simpa using h1, h2⟩
theorem Paired.set {α β : Type} {F : α → β → Prop} {a : α} {b : β} (h : F a b) : ∀ {l : List α} {r : List β} (i : Nat), Paired F l r → Paired F (l.set i a) (r.set i b)
  | _, _, _, .nil => .nil
  | _, _, 0, .cons _ t => .cons h t
  | _, _, i + 1, .cons q t => .cons q (Paired.set h i t)
theorem RB.step {K : PySem.W.Frag} {H0 G H G' H' : Hp} {o : Option V} {b : B} (r : RB K H0 G H o b) (s : Step G H G' H') : RB K H0 G' H' o b := by
  cases r with
  | no => exact .no
  | fz q => exact .fz (q.mono s.gg)
  | ow h1 h2 h3 h4 => exact .ow (s.hh.get h1) ((s.new _ (by rw [h1]; exact fun z => nomatch z)).trans h2) h3 (h4.mono s.gg)
  | od h1 h2 h3 h4 h5 h6 => exact .od (s.hh.get h1) ((s.new _ (by rw [h1]; exact fun z => nomatch z)).trans h2) h3 (h4.mono s.gg) h5 h6
theorem Good.step {K : PySem.W.Frag} {G0 H0 G H G' H' : Hp} {σ : St} {ρ : List B} (g : Good K G0 H0 G H σ ρ) (s : Step G H G' H') : Good K G0 H0 G' H' σ ρ :=
  ⟨g.st.trans s, Paired.mapP g.vals fun _ _ r => r.step s, g.apart⟩
theorem Good.sub {K : PySem.W.Frag} {G0 H0 G H : Hp} {σ : St} {ρ : List B} (g : Good K G0 H0 G H σ ρ) : SameT G H := g.st.sub

noncomputable abbrev Ef := List B → Option D
noncomputable def tF (K : PySem.W.Frag) (f : Ef) : TE := fun σ H Q => ∃ G0 H0 G ρ d, Good K G0 H0 G H σ ρ ∧ f ρ = some d ∧ ∀ v H' G', Step G H G' H' → Rep K G' d v → Q v H'
noncomputable def PF (X : Cx) (e : Expr) (f : Ef) : Prop := PE X e (tF X.K f)
theorem PE.to {X : Cx} {e : Expr} {t : TE} {f : Ef} (h : PE X e t) (imp : ∀ σ H Q, tF X.K f σ H Q → t σ H Q) : PF X e f := fun pins s σ H Q I q => h pins s σ H Q I (imp σ H Q q)
noncomputable abbrev Lf := List B → Option (List D)
noncomputable def tFr (K : PySem.W.Frag) (f : Lf) : TE := fun σ H Q => ∃ G0 H0 G ρ ds, Good K G0 H0 G H σ ρ ∧ f ρ = some ds ∧ ∀ a vs H' G', Step G H G' H' → H a = none → H' a = some (.lst vs) → G' a = none → Reps K G' ds vs → Q (.ref a) H'
noncomputable def PFr (X : Cx) (e : Expr) (f : Lf) : Prop := PE X e (tFr X.K f)
theorem PE.toR {X : Cx} {e : Expr} {t : TE} {f : Lf} (h : PE X e t) (imp : ∀ σ H Q, tFr X.K f σ H Q → t σ H Q) : PFr X e f := fun pins s σ H Q I q => h pins s σ H Q I (imp σ H Q q)
noncomputable def eL (f : Lf) : Ef := fun ρ => (f ρ).map .lst
theorem pf_l {X : Cx} {e : Expr} {f : Lf} (h : PFr X e f) : PF X e (eL f) := by
  refine PE.to h ?_
  rintro σ H Q ⟨G0, H0, G, ρ, d, good, hf, k⟩
  unfold eL at hf
  obtain ⟨ds, h1, rfl⟩ := Option.map_eq_some_iff.mp hf
  refine ⟨G0, H0, G, ρ, ds, good, h1, fun a vs H' G' s hn ha ga rs => ?_⟩
  exact k _ _ (upd G' a (.lst vs)) (s.frz hn ha ga) (rep_lst.mpr ⟨a, vs, rfl, .of upd_same, rs.mono (SameT.new s.sub.ta ga)⟩)
noncomputable abbrev Tf := List B → Option Bool
noncomputable def tFT (K : PySem.W.Frag) (f : Tf) : TT := fun σ H Q => ∃ G0 H0 G ρ b, Good K G0 H0 G H σ ρ ∧ f ρ = some b ∧ ∀ H' G', Step G H G' H' → Q b H'
noncomputable def PFT (X : Cx) (e : Expr) (f : Tf) : Prop := PT X e (tFT X.K f)
theorem PT.to {X : Cx} {e : Expr} {t : TT} {f : Tf} (h : PT X e t) (imp : ∀ σ H Q, tFT X.K f σ H Q → t σ H Q) : PFT X e f := fun pins s σ H Q I q => h pins s σ H Q I (imp σ H Q q)
noncomputable def PFW (X : Cx) (e : Expr) (f : Tf) : Prop := PW X e (tFT X.K f)
noncomputable def tFA (K : PySem.W.Frag) (f : Lf) : TA := fun σ H Q => ∃ G0 H0 G ρ ds, Good K G0 H0 G H σ ρ ∧ f ρ = some ds ∧ ∀ vs H' G', Step G H G' H' → Reps K G' ds vs → Q vs H'
noncomputable def PFA (X : Cx) (es : List Expr) (f : Lf) : Prop := PA X es (tFA X.K f)
theorem PA.to {X : Cx} {es : List Expr} {t : TA} {f : Lf} (h : PA X es t) (imp : ∀ σ H Q, tFA X.K f σ H Q → t σ H Q) : PFA X es f := fun pos pins s σ H Q I q => h pos pins s σ H Q I (imp σ H Q q)

section
variable {X : Cx} {a b c e : Expr} {es : List Expr} {fa fb fc : Ef} {ga gb : Lf} {ta tb : Tf} {pos : Pos}
noncomputable def getB (ρ : List B) (i : Nat) : Option D := match ρ[i]? with | some (.fz d) => some d | _ => none
noncomputable def eV (i : Nat) : Ef := fun ρ => getB ρ i
theorem getB_good {K : PySem.W.Frag} {G0 H0 G H : Hp} {σ : St} {ρ : List B} {i : Nat} {d : D} (g : Good K G0 H0 G H σ ρ) (h : getB ρ i = some d) : ∃ v, σ[i]? = some (some v) ∧ Rep K G d v := by
  unfold getB at h
  split at h
  · rename_i d' e
    cases h
    obtain ⟨o, h1, r⟩ := Paired.get g.vals e
    cases r with
    | fz r => exact ⟨_, h1, r⟩
  · cases h
theorem pf_v (i : Nat) {x : Str} (hN : X.N[i]? = some x := by rfl) (hv : Vis X.env.scope x := by first | exact Or.inl rfl | exact Or.inr (Or.inl rfl) | exact Or.inr (Or.inr rfl)) (hd : (x == ("__debug__" : Str)) = false := by decide) (hcd : (x == ("__classdict__" : Str)) = false := by decide) : PF X (.Name x pos) (eV i) := by
  refine PE.to (pe_var hN hv hd hcd) ?_
  rintro σ H Q ⟨G0, H0, G, ρ, d, good, hf, k⟩
  obtain ⟨v, h1, r⟩ := getB_good good hf
  exact ⟨v, h1, k v H G (.refl good.sub) r⟩
noncomputable def eC (d : D) : Ef := fun _ => some d
theorem pf_cst {v : V} {d : D} (h : PE X e (tC v)) (r : ∀ G, Rep X.K G d v) : PF X e (eC d) := by
  refine PE.to h ?_
  rintro σ H Q ⟨G0, H0, G, ρ, d', good, hf, k⟩
  cases hf
  exact k v H G (.refl good.sub) (r G)
theorem pf_int {i : Int} {j : Nat} : PF X (.Constant (.int i) j pos) (eC (.int i)) := pf_cst pe_int fun _ => rep_int.mpr rfl
theorem pf_bl {i : Bool} {j : Nat} : PF X (.Constant (.bool i) j pos) (eC (.bl i)) := pf_cst pe_bl fun _ => rep_bl.mpr rfl
theorem pf_non {j : Nat} : PF X (.Constant .none j pos) (eC .non) := pf_cst pe_non fun _ => rep_non.mpr rfl
noncomputable def eI (C : Int → Int → Bool) (g : Int → Int → Int) (fa fb : Ef) : Ef := fun ρ => (fa ρ).bind fun x => (fb ρ).bind fun y => match x, y with | .int i, .int j => if C i j then some (.int (g i j)) else none | _, _ => none
theorem eI_inv {C : Int → Int → Bool} {g : Int → Int → Int} {ρ : List B} {d : D} (h : eI C g fa fb ρ = some d) : ∃ i j, fa ρ = some (.int i) ∧ fb ρ = some (.int j) ∧ C i j = true ∧ d = .int (g i j) := by
  unfold eI at h
  obtain ⟨x, h1, h⟩ := Option.bind_eq_some_iff.mp h
  obtain ⟨y, h2, h⟩ := Option.bind_eq_some_iff.mp h
  cases x with
  | int i =>
    cases y with
    | int j =>
      dsimp only at h
      split at h
      · rename_i hc; cases h; exact ⟨i, j, h1, h2, hc, rfl⟩
      · cases h
    | _ => cases h
  | _ => cases h
theorem pf_i {op : Operator} {C : Int → Int → Bool} {P : Int → Int → Prop} {g : Int → Int → Int} (ho : OpR X (binaryOp op) (rI P fun i j => .int (g i j))) (hP : ∀ i j, C i j = true → P i j) (ha : PF X a fa) (hb : PF X b fb) : PF X (.BinOp a op b pos) (eI C g fa fb) := by
  refine PE.to (pe_op ho ha hb) ?_
  rintro σ H Q ⟨G0, H0, G, ρ, d, good, hf, k⟩
  obtain ⟨i, j, h1, h2, hc, rfl⟩ := eI_inv hf
  refine ⟨G0, H0, G, ρ, _, good, h1, fun x H1 G1 s1 r1 => ⟨G0, H0, G1, ρ, _, good.step s1, h2, fun y H2 G2 s2 r2 => ?_⟩⟩
  exact ⟨i, j, rep_int.mp r1, rep_int.mp r2, hP i j hc, k _ _ G2 (s1.trans s2) (rep_int.mpr rfl)⟩
theorem pf_i0 {op : Operator} {g : Int → Int → Int} (ho : OpR X (binaryOp op) (rI0 fun i j => .int (g i j))) (ha : PF X a fa) (hb : PF X b fb) : PF X (.BinOp a op b pos) (eI (fun _ _ => true) g fa fb) := by
  refine PE.to (pe_op ho ha hb) ?_
  rintro σ H Q ⟨G0, H0, G, ρ, d, good, hf, k⟩
  obtain ⟨i, j, h1, h2, hc, rfl⟩ := eI_inv hf
  refine ⟨G0, H0, G, ρ, _, good, h1, fun x H1 G1 s1 r1 => ⟨G0, H0, G1, ρ, _, good.step s1, h2, fun y H2 G2 s2 r2 => ?_⟩⟩
  exact ⟨i, j, rep_int.mp r1, rep_int.mp r2, k _ _ G2 (s1.trans s2) (rep_int.mpr rfl)⟩
noncomputable abbrev eAdd := eI (fun _ _ => true) (fun i j => i + j)
noncomputable abbrev eSub := eI (fun _ _ => true) (fun i j => i - j)
noncomputable def cMul (i j : Int) : Bool := (decide (-(2 ^ 64) < i) && decide (i < 2 ^ 64)) || (decide (-(2 ^ 64) < j) && decide (j < 2 ^ 64))
noncomputable abbrev eMul := eI cMul (fun i j => i * j)
noncomputable def cDiv (_ j : Int) : Bool := decide (0 < j) && decide (j < 1073741824)
noncomputable abbrev eDiv := eI cDiv (fun i j => i / j)
noncomputable abbrev eMod := eI (fun _ j => decide (0 < j)) (fun i j => i % j)
noncomputable def cPow (i j : Int) : Bool := decide (0 ≤ j) && decide (j ≤ 1000000) && decide (i.natAbs < 2 ^ 64)
noncomputable abbrev ePow := eI cPow (fun i j => i ^ j.toNat)
theorem pf_add (ha : PF X a fa) (hb : PF X b fb) : PF X (.BinOp a .Add b pos) (eAdd fa fb) := pf_i0 op_add ha hb
theorem pf_sub (ha : PF X a fa) (hb : PF X b fb) : PF X (.BinOp a .Sub b pos) (eSub fa fb) := pf_i0 op_sub ha hb
theorem pf_mul (ha : PF X a fa) (hb : PF X b fb) : PF X (.BinOp a .Mult b pos) (eMul fa fb) := pf_i op_mul (fun i j h => by
  unfold cMul at h
  simp only [Bool.or_eq_true, Bool.and_eq_true, decide_eq_true_eq] at h
  exact h) ha hb
theorem pf_div (ha : PF X a fa) (hb : PF X b fb) : PF X (.BinOp a .FloorDiv b pos) (eDiv fa fb) := pf_i op_fdiv (fun i j h => by
  unfold cDiv at h
  simp only [Bool.and_eq_true, decide_eq_true_eq] at h
  exact h) ha hb
theorem pf_mod (ha : PF X a fa) (hb : PF X b fb) : PF X (.BinOp a .Mod b pos) (eMod fa fb) := pf_i op_mod (fun i j h => of_decide_eq_true h) ha hb
theorem cPow_ok {i j : Int} (h : cPow i j = true) : CPow i j := by
  unfold cPow at h
  simp only [Bool.and_eq_true, decide_eq_true_eq] at h
  exact ⟨h.1.1, h.1.2, h.2⟩
theorem pf_pow (ha : PF X a fa) (hb : PF X b fb) : PF X (.BinOp a .Pow b pos) (ePow fa fb) := pf_i op_pow (fun i j h => cPow_ok h) ha hb
noncomputable def eNeg (fa : Ef) : Ef := fun ρ => (fa ρ).bind fun x => match x with | .int i => some (.int (-i)) | _ => none
theorem pf_neg (ha : PF X a fa) : PF X (.UnaryOp .USub a pos) (eNeg fa) := by
  refine PE.to (pe_un un_neg ha) ?_
  rintro σ H Q ⟨G0, H0, G, ρ, d, good, hf, k⟩
  unfold eNeg at hf
  obtain ⟨x, h1, hf⟩ := Option.bind_eq_some_iff.mp hf
  split at hf
  · rename_i i
    cases hf
    exact ⟨G0, H0, G, ρ, _, good, h1, fun x H1 G1 s1 r1 => ⟨i, rep_int.mp r1, k _ _ G1 s1 (rep_int.mpr rfl)⟩⟩
  · cases hf
noncomputable def eB2 (g : D → D → Option Bool) (fa fb : Ef) : Tf := fun ρ => (fa ρ).bind fun x => (fb ρ).bind fun y => g x y
noncomputable def eOfT (t : Tf) : Ef := fun ρ => (t ρ).map .bl
noncomputable def gLt : D → D → Option Bool | .int i, .int j => some (decide (i < j)) | _, _ => none
noncomputable def gLe : D → D → Option Bool | .int i, .int j => some (decide (i ≤ j)) | _, _ => none
noncomputable def gGt : D → D → Option Bool | .int i, .int j => some (decide (j < i)) | _, _ => none
noncomputable def gEq : D → D → Option Bool
  | .int i, .int j => some (decide (i = j))
  | .bl i, .bl j => some (decide (i = j))
  | .str i, .str j => some (decide (i = j))
  | _, _ => none
noncomputable def gNe (x y : D) : Option Bool := (gEq x y).map (!·)
noncomputable def CmR (X : Cx) (op : CmpOp) (g : D → D → Option Bool) : Prop := ∃ r : R2, OpR X (compareOp op) r ∧ ∀ (d d' : D) (k : Bool) (G H : Hp) (x y : V) (Q : VK), g d d' = some k → SameT G H → Rep X.K G d x → Rep X.K G d' y → (∀ H' G', Step G H G' H' → Q (.bl k) H') → r x y H Q
theorem cm_int {op : CmpOp} {p : Int → Int → Bool} {g : D → D → Option Bool} (ho : OpR X (compareOp op) (rI0 fun i j => .bl (p i j))) (hg : ∀ d d' k, g d d' = some k → ∃ i j, d = .int i ∧ d' = .int j ∧ k = p i j) : CmR X op g := by
  refine ⟨_, ho, fun d d' k G H x y Q h s rx ry q => ?_⟩
  obtain ⟨i, j, rfl, rfl, rfl⟩ := hg d d' k h
  exact ⟨i, j, rep_int.mp rx, rep_int.mp ry, q H G (.refl s)⟩
theorem cm_lt : CmR X .Lt gLt := cm_int op_lt fun d d' k h => by unfold gLt at h; split at h <;> cases h; exact ⟨_, _, rfl, rfl, rfl⟩
theorem cm_le : CmR X .LtE gLe := cm_int op_le fun d d' k h => by unfold gLe at h; split at h <;> cases h; exact ⟨_, _, rfl, rfl, rfl⟩
theorem cm_gt : CmR X .Gt gGt := cm_int op_gt fun d d' k h => by unfold gGt at h; split at h <;> cases h; exact ⟨_, _, rfl, rfl, rfl⟩
theorem gEq_sc {d d' : D} {k : Bool} {K : PySem.W.Frag} {G : Hp} {x y : V} (h : gEq d d' = some k) (rx : Rep K G d x) (ry : Rep K G d' y) : scal x y = true ∧ decide (x = y) = k := by
  unfold gEq at h
  split at h
  · cases h; rw [rep_int] at rx ry; subst rx; subst ry; exact ⟨rfl, by simp⟩
  · cases h; rw [rep_bl] at rx ry; subst rx; subst ry; exact ⟨rfl, by simp⟩
  · cases h; rw [rep_str] at rx ry; subst rx; subst ry; exact ⟨rfl, by simp⟩
  · cases h
theorem cm_eq : CmR X .Eq gEq := ⟨_, op_eq, fun d d' k G H x y Q h s rx ry q => by
  obtain ⟨h1, h2⟩ := gEq_sc h rx ry
  exact ⟨h1, by rw [h2]; exact q H G (.refl s)⟩⟩
theorem cm_ne : CmR X .NotEq gNe := ⟨_, op_ne, fun d d' k G H x y Q h s rx ry q => by
  unfold gNe at h
  obtain ⟨k', h', rfl⟩ := Option.map_eq_some_iff.mp h
  obtain ⟨h1, h2⟩ := gEq_sc h' rx ry
  exact ⟨h1, by rw [h2]; exact q H G (.refl s)⟩⟩
theorem eB2_inv {g : D → D → Option Bool} {ρ : List B} {k : Bool} (h : eB2 g fa fb ρ = some k) : ∃ x y, fa ρ = some x ∧ fb ρ = some y ∧ g x y = some k := by
  unfold eB2 at h
  obtain ⟨x, h1, h⟩ := Option.bind_eq_some_iff.mp h
  obtain ⟨y, h2, h⟩ := Option.bind_eq_some_iff.mp h
  exact ⟨x, y, h1, h2, h⟩
theorem eOfT_inv {t : Tf} {ρ : List B} {d : D} (h : eOfT t ρ = some d) : ∃ k, t ρ = some k ∧ d = .bl k := by
  unfold eOfT at h
  obtain ⟨k, h1, rfl⟩ := Option.map_eq_some_iff.mp h
  exact ⟨k, h1, rfl⟩
theorem pf_cmp {op : CmpOp} {g : D → D → Option Bool} (hc : CmR X op g) (ha : PF X a fa) (hb : PF X b fb) (hm : behindInMarks op b = false := by first | exact nomark _ | (with_unfolding_all rfl)) : PF X (.Compare a [op] [b] pos) (eOfT (eB2 g fa fb)) := by
  obtain ⟨r, ho, hr⟩ := hc
  refine PE.to (pe_cmpR ho ha hb hm) ?_
  rintro σ H Q ⟨G0, H0, G, ρ, d, good, hf, k⟩
  obtain ⟨c, hf2, rfl⟩ := eOfT_inv hf
  obtain ⟨x, y, h1, h2, h3⟩ := eB2_inv hf2
  refine ⟨G0, H0, G, ρ, _, good, h1, fun u H1 G1 s1 r1 => ⟨G0, H0, G1, ρ, _, good.step s1, h2, fun v H2 G2 s2 r2 => ?_⟩⟩
  exact hr x y c G2 H2 u v Q h3 s2.sub (r1.mono s2.gg) r2 fun H' G' s3 => k _ _ G' ((s1.trans s2).trans s3) (rep_bl.mpr rfl)
theorem pt_cmpF {op : CmpOp} {g : D → D → Option Bool} (hc : CmR X op g) (ha : PF X a fa) (hb : PF X b fb) (hm : behindInMarks op b = false := by first | exact nomark _ | (with_unfolding_all rfl)) : PFT X (.Compare a [op] [b] pos) (eB2 g fa fb) := by
  obtain ⟨r, ho, hr⟩ := hc
  refine PT.to (pt_cmpR ho ha hb hm) ?_
  rintro σ H Q ⟨G0, H0, G, ρ, c, good, hf, k⟩
  obtain ⟨x, y, h1, h2, h3⟩ := eB2_inv hf
  refine ⟨G0, H0, G, ρ, _, good, h1, fun u H1 G1 s1 r1 => ⟨G0, H0, G1, ρ, _, good.step s1, h2, fun v H2 G2 s2 r2 => ?_⟩⟩
  exact hr x y c G2 H2 u v _ h3 s2.sub (r1.mono s2.gg) r2 fun H' G' s3 => ⟨c, rfl, k _ G' ((s1.trans s2).trans s3)⟩
noncomputable def isNon : D → Bool | .non => true | _ => false
theorem rep_isNon {K : PySem.W.Frag} {G : Hp} {d : D} {v : V} (r : Rep K G d v) : decide (v = .non) = isNon d := by
  cases d with
  | non => rw [rep_non] at r; subst r; rfl
  | bl b => rw [rep_bl] at r; subst r; simp [isNon]
  | int b => rw [rep_int] at r; subst r; simp [isNon]
  | str b => rw [rep_str] at r; subst r; simp [isNon]
  | tup ds => obtain ⟨p, _, rfl, _⟩ := rep_tup.mp r; simp [isNon]
  | lst ds => obtain ⟨p, _, rfl, _⟩ := rep_lst.mp r; simp [isNon]
  | obj C ns ds => obtain ⟨_, p, _, _, _, rfl, _⟩ := rep_obj.mp r; simp [isNon]
  | exc C ns ds => obtain ⟨_, p, _, _, _, rfl, _⟩ := rep_exc.mp r; simp [isNon]
noncomputable def tB1 (f : Ef) : Tf := fun ρ => (f ρ).bind fun x => match x with | .bl k => some k | _ => none
theorem tB1_inv {f : Ef} {ρ : List B} {k : Bool} (h : tB1 f ρ = some k) : f ρ = some (.bl k) := by
  unfold tB1 at h
  obtain ⟨x, h1, h⟩ := Option.bind_eq_some_iff.mp h
  split at h
  · cases h; exact h1
  · cases h
theorem pt_valF (ha : PF X a fa) (he : ∀ whole, isTrue a X.env whole = (do let v ← whole; standAt a.pos; holding [v] (truthy v)) := by intro _; rfl) : PFT X a (tB1 fa) := by
  refine PT.to (pt_val ha he) ?_
  rintro σ H Q ⟨G0, H0, G, ρ, c, good, hf, k⟩
  exact ⟨G0, H0, G, ρ, _, good, tB1_inv hf, fun u H1 G1 s1 r1 => ⟨c, rep_bl.mp r1, k _ G1 s1⟩⟩
noncomputable def tNotF (t : Tf) : Tf := fun ρ => (t ρ).map (!·)
noncomputable def tOrF (t u : Tf) : Tf := fun ρ => (t ρ).bind fun c => if c = true then some true else u ρ
theorem pt_notF (ha : PFT X a ta) : PFT X (.UnaryOp .Not a pos) (tNotF ta) := by
  refine PT.to (pt_not ha) ?_
  rintro σ H Q ⟨G0, H0, G, ρ, c, good, hf, k⟩
  unfold tNotF at hf
  obtain ⟨c', h1, rfl⟩ := Option.map_eq_some_iff.mp hf
  exact ⟨G0, H0, G, ρ, _, good, h1, fun H1 G1 s1 => k _ G1 s1⟩
theorem PW.to {t : TT} {f : Tf} (h : PW X e t) (imp : ∀ σ H Q, tFT X.K f σ H Q → t σ H Q) : PFW X e f := fun whole pins s σ H Q I q => h whole pins s σ H Q I (imp σ H Q q)
theorem pw_or1F (ha : PFT X a ta) : PFW X (.BoolOp .Or [a] pos) ta := pw_or1 ha
theorem pw_orF {rest : List Expr} (ha : PFT X a ta) (hb : PFW X (.BoolOp .Or (b :: rest) pos) tb) : PFW X (.BoolOp .Or (a :: b :: rest) pos) (tOrF ta tb) := by
  refine PW.to (pw_or ha hb) ?_
  rintro σ H Q ⟨G0, H0, G, ρ, c, good, hf, k⟩
  unfold tOrF at hf
  obtain ⟨c', h1, hf⟩ := Option.bind_eq_some_iff.mp hf
  refine ⟨G0, H0, G, ρ, _, good, h1, fun H1 G1 s1 => ?_⟩
  split at hf
  · rename_i h; rw [if_pos h]; cases hf; exact k _ G1 s1
  · rename_i h; rw [if_neg h]; exact ⟨G0, H0, G1, ρ, c, good.step s1, hf, fun H2 G2 s2 => k _ G2 (s1.trans s2)⟩
theorem pt_w (h : PFW X e ta) : PFT X e ta := h.pt
theorem pf_one {op : BoolOp} (h : PF X a fa) : PF X (.BoolOp op [a] pos) fa := pe_one h
noncomputable def eAndV (fa fb : Ef) : Ef := fun ρ => (tB1 fa ρ).bind fun c => if c = true then fb ρ else some (.bl false)
noncomputable def eOrV (fa fb : Ef) : Ef := fun ρ => (tB1 fa ρ).bind fun c => if c = true then some (.bl true) else fb ρ
theorem pf_and {rest : List Expr} (ha : PF X a fa) (hb : PF X (.BoolOp .And (b :: rest) pos) fb) : PF X (.BoolOp .And (a :: b :: rest) pos) (eAndV fa fb) := by
  refine PE.to (pe_and ha hb) ?_
  rintro σ H Q ⟨G0, H0, G, ρ, d, good, hf, k⟩
  obtain ⟨c, h1, hf⟩ := Option.bind_eq_some_iff.mp hf
  refine ⟨G0, H0, G, ρ, _, good, tB1_inv h1, fun u H1 G1 s1 r1 => ⟨c, rep_bl.mp r1, ?_⟩⟩
  split at hf
  · rename_i h; rw [if_pos h]; exact ⟨G0, H0, G1, ρ, d, good.step s1, hf, fun v H2 G2 s2 r2 => k _ _ G2 (s1.trans s2) r2⟩
  · rename_i h; rw [if_neg h]; cases hf; exact k _ _ G1 s1 (rep_bl.mpr rfl)
theorem pf_or {rest : List Expr} (ha : PF X a fa) (hb : PF X (.BoolOp .Or (b :: rest) pos) fb) : PF X (.BoolOp .Or (a :: b :: rest) pos) (eOrV fa fb) := by
  refine PE.to (pe_or ha hb) ?_
  rintro σ H Q ⟨G0, H0, G, ρ, d, good, hf, k⟩
  obtain ⟨c, h1, hf⟩ := Option.bind_eq_some_iff.mp hf
  refine ⟨G0, H0, G, ρ, _, good, tB1_inv h1, fun u H1 G1 s1 r1 => ⟨c, rep_bl.mp r1, ?_⟩⟩
  split at hf
  · rename_i h; rw [if_pos h]; cases hf; exact k _ _ G1 s1 (rep_bl.mpr rfl)
  · rename_i h; rw [if_neg h]; exact ⟨G0, H0, G1, ρ, d, good.step s1, hf, fun v H2 G2 s2 r2 => k _ _ G2 (s1.trans s2) r2⟩
theorem pf_not (ha : PF X a fa) : PF X (.UnaryOp .Not a pos) (eOfT (tNotF (tB1 fa))) := by
  refine PE.to (pe_not ha) ?_
  rintro σ H Q ⟨G0, H0, G, ρ, d, good, hf, k⟩
  obtain ⟨c, hf2, rfl⟩ := eOfT_inv hf
  unfold tNotF at hf2
  obtain ⟨c', h1, rfl⟩ := Option.map_eq_some_iff.mp hf2
  exact ⟨G0, H0, G, ρ, _, good, tB1_inv h1, fun u H1 G1 s1 r1 => ⟨c', rep_bl.mp r1, k _ _ G1 s1 (rep_bl.mpr rfl)⟩⟩
noncomputable def aNil : Lf := fun _ => some []
noncomputable def aCons (f : Ef) (r : Lf) : Lf := fun ρ => (f ρ).bind fun d => (r ρ).map fun ds => d :: ds
theorem pa_nilF : PFA X [] aNil := by
  refine PA.to pa_nil ?_
  rintro σ H Q ⟨G0, H0, G, ρ, d, good, hf, k⟩
  cases hf
  exact k [] H G (.refl good.sub) (reps_nil.mpr rfl)
theorem aCons_inv {f : Ef} {r : Lf} {ρ : List B} {ds : List D} (h : aCons f r ρ = some ds) : ∃ d dr, f ρ = some d ∧ r ρ = some dr ∧ ds = d :: dr := by
  unfold aCons at h
  obtain ⟨d, h1, h⟩ := Option.bind_eq_some_iff.mp h
  obtain ⟨dr, h2, rfl⟩ := Option.map_eq_some_iff.mp h
  exact ⟨d, dr, h1, h2, rfl⟩
theorem pa_consF (ha : PF X e fa) (hr : PFA X es ga) (hs : starEach (e :: es) X.env = (false, eval e X.env) :: starEach es X.env := by rfl) : PFA X (e :: es) (aCons fa ga) := by
  refine PA.to (pa_cons ha hr hs) ?_
  rintro σ H Q ⟨G0, H0, G, ρ, ds, good, hf, k⟩
  obtain ⟨d, dr, h1, h2, rfl⟩ := aCons_inv hf
  refine ⟨G0, H0, G, ρ, _, good, h1, fun u H1 G1 s1 r1 => ⟨G0, H0, G1, ρ, _, good.step s1, h2, fun v H2 G2 s2 r2 => ?_⟩⟩
  exact k _ _ G2 (s1.trans s2) (reps_cons.mpr ⟨u, v, rfl, r1.mono s2.gg, r2⟩)
noncomputable abbrev lim : Nat := 100000
theorem lim_ok {n : Nat} (h : n ≤ lim) : n < sizeLine := Nat.lt_of_le_of_lt h (by decide)
noncomputable def okL (ds : List D) : Option (List D) := if ds.length ≤ lim then some ds else none
theorem okL_inv {ds es : List D} (h : okL ds = some es) : es = ds ∧ ds.length ≤ lim := by
  unfold okL at h
  split at h
  · rename_i q; cases h; exact ⟨rfl, q⟩
  · cases h
noncomputable def eTup (g : Lf) : Ef := fun ρ => ((g ρ).bind okL).map .tup
theorem pf_tup {k : Nat} (h : PFA X es ga) : PF X (.Tuple es k pos) (eTup ga) := by
  refine PE.to (pe_tup h) ?_
  rintro σ H Q ⟨G0, H0, G, ρ, d, good, hf, k⟩
  unfold eTup at hf
  obtain ⟨ds, h1, rfl⟩ := Option.map_eq_some_iff.mp hf
  obtain ⟨es, h1, h2⟩ := Option.bind_eq_some_iff.mp h1
  obtain ⟨rfl, h3⟩ := okL_inv h2
  refine ⟨G0, H0, G, ρ, _, good, h1, fun vs H1 G1 s1 r1 => ⟨by rw [← r1.length]; exact Nat.le_of_lt (lim_ok h3), fun p hp => ?_⟩⟩
  have s2 := Step.laid (o := .tup vs) s1.sub hp
  exact k _ _ _ (s1.trans s2) (rep_tup.mpr ⟨p, vs, rfl, .of upd_same, r1.mono s2.gg⟩)
noncomputable def lDisp (g : Lf) : Lf := fun ρ => (g ρ).bind okL
theorem pl_disp (h : PFA X es ga) : PFr X (.List es pos) (lDisp ga) := by
  refine PE.toR (pe_lst h) ?_
  rintro σ H Q ⟨G0, H0, G, ρ, d, good, hf, k⟩
  unfold lDisp at hf
  obtain ⟨es, h1, h2⟩ := Option.bind_eq_some_iff.mp hf
  obtain ⟨rfl, h3⟩ := okL_inv h2
  refine ⟨G0, H0, G, ρ, _, good, h1, fun vs H1 G1 s1 r1 => ⟨by rw [← r1.length]; exact Nat.le_of_lt (lim_ok h3), fun p hp => ?_⟩⟩
  exact k p vs _ G1 (s1.trans (Step.own s1.sub hp)) (s1.hh.free hp) upd_same (s1.sub.free hp) r1

noncomputable def atD (x y : D) : Option D := match x, y with
  | .tup ds, .int i => atI ds i
  | .lst ds, .int i => atI ds i
  | .str z, .int i => if z.length ≤ lim then (atI z.cps.toList i).map fun c => .str ⟨#[c]⟩ else none
  | _, _ => none
noncomputable def eIx (fa fb : Ef) : Ef := fun ρ => (fa ρ).bind fun x => (fb ρ).bind fun y => atD x y
theorem atI_reps {K : PySem.W.Frag} {G : Hp} {ds : List D} {vs : List V} {i : Int} {d : D} (r : Reps K G ds vs) (h : atI ds i = some d) : ∃ v, atI vs i = some v ∧ Rep K G d v := by
  unfold atI at h ⊢
  rw [r.length] at h
  obtain ⟨j, h1, h2⟩ := Option.bind_eq_some_iff.mp h
  obtain ⟨v, h3, h4⟩ := r.get h2
  exact ⟨v, by rw [h1]; exact h3, h4⟩
theorem pf_ix (ha : PF X a fa) (hb : PF X b fb) (hs : PlainIx b := by exact fun _ _ => rfl) : PF X (.Subscript a b pos) (eIx fa fb) := by
  refine PE.to (pe_ix ix_seq ha hb hs) ?_
  rintro σ H Q ⟨G0, H0, G, ρ, d, good, hf, k⟩
  unfold eIx at hf
  obtain ⟨x, h1, hf⟩ := Option.bind_eq_some_iff.mp hf
  obtain ⟨y, h2, hf⟩ := Option.bind_eq_some_iff.mp hf
  refine ⟨G0, H0, G, ρ, _, good, h1, fun u H1 G1 s1 r1 => ⟨G0, H0, G1, ρ, _, good.step s1, h2, fun v H2 G2 s2 r2 => ?_⟩⟩
  have r1 := r1.mono s2.gg
  have s3 := s1.trans s2
  unfold atD at hf
  split at hf
  · obtain ⟨p, vs, rfl, q, rs⟩ := rep_tup.mp r1
    obtain ⟨w, e, rw'⟩ := atI_reps rs hf
    exact .inr (.inl ⟨p, vs, _, w, rfl, rep_int.mp r2, s2.sub.tup q, e, k _ _ G2 s3 rw'⟩)
  · obtain ⟨p, vs, rfl, q, rs⟩ := rep_lst.mp r1
    obtain ⟨w, e, rw'⟩ := atI_reps rs hf
    exact .inl ⟨p, vs, _, w, rfl, rep_int.mp r2, s2.sub.seq q, e, k _ _ G2 s3 rw'⟩
  · split at hf
    · rename_i hz
      obtain ⟨c, e, rfl⟩ := Option.map_eq_some_iff.mp hf
      exact .inr (.inr ⟨_, _, c, rep_str.mp r1, rep_int.mp r2, Nat.le_of_lt (lim_ok hz), e, k _ _ G2 s3 (rep_str.mpr rfl)⟩)
    · cases hf
  · cases hf
end
end L2

namespace L2
open PySem PySem.Spec PyProof.Rows

inductive Out where
  | nx (ρ : List B) | rt (d : D) | rl (ds : List D) | bk (ρ : List B) | ct (ρ : List B)
  deriving Inhabited
noncomputable abbrev Sf := List B → Option Out
noncomputable def Wants (K : PySem.W.Frag) (G0 H0 G : Hp) (D : Ends) : Out → Prop
  | .nx ρ' => ∀ σ' H' G', SameT G G' → Good K G0 H0 G' H' σ' ρ' → D.nx σ' H'
  | .bk ρ' => ∀ σ' H' G', SameT G G' → Good K G0 H0 G' H' σ' ρ' → D.bk σ' H'
  | .ct ρ' => ∀ σ' H' G', SameT G G' → Good K G0 H0 G' H' σ' ρ' → D.ct σ' H'
  | .rt d => ∀ v H' G', Step G0 H0 G' H' → Rep K G' d v → D.rt v H'
  | .rl ds => ∀ a vs H' G', Step G0 H0 G' H' → H0 a = none → H' a = some (.lst vs) → G' a = none → Reps K G' ds vs → D.rt (.ref a) H'
noncomputable def tFS (K : PySem.W.Frag) (f : Sf) : TS := fun D σ H => ∃ G0 H0 G ρ o, Good K G0 H0 G H σ ρ ∧ f ρ = some o ∧ Wants K G0 H0 G D o
noncomputable def PFS (X : Cx) (st : Stmt) (f : Sf) : Prop := PS X st (tFS X.K f)
noncomputable def PFSs (X : Cx) (sts : List Stmt) (f : Sf) : Prop := PSs X sts (tFS X.K f)
theorem PS.to {X : Cx} {st : Stmt} {t : TS} {f : Sf} (h : PS X st t) (imp : ∀ D σ H, tFS X.K f D σ H → t D σ H) : PFS X st f := fun pins s σ H D I q => h pins s σ H D I (imp D σ H q)
theorem PSs.to {X : Cx} {st : List Stmt} {t : TS} {f : Sf} (h : PSs X st t) (imp : ∀ D σ H, tFS X.K f D σ H → t D σ H) : PFSs X st f := fun pins s σ H D I q => h pins s σ H D I (imp D σ H q)
theorem Wants.mono {K : PySem.W.Frag} {G0 H0 G G' : Hp} {D : Ends} {o : Out} (h : Wants K G0 H0 G D o) (s : SameT G G') : Wants K G0 H0 G' D o := by
  cases o with
  | nx ρ => exact fun σ' H' G2 s2 g => h σ' H' G2 (s.trans s2) g
  | bk ρ => exact fun σ' H' G2 s2 g => h σ' H' G2 (s.trans s2) g
  | ct ρ => exact fun σ' H' G2 s2 g => h σ' H' G2 (s.trans s2) g
  | rt d => exact h
  | rl ds => exact h

theorem getElem?_set_fz {ρ : List B} {i j : Nat} {d : D} {ds : List D} (h : (ρ.set i (.fz d))[j]? = some (.ow ds)) : j ≠ i ∧ ρ[j]? = some (.ow ds) := by
  by_cases e : j = i
  · subst e
    rw [List.getElem?_set] at h
    split at h
    · split at h <;> cases h
    · rename_i z; exact absurd rfl z
  · rw [List.getElem?_set_ne (Ne.symm e)] at h
    exact ⟨e, h⟩
theorem getElem?_set_fzD {ρ : List B} {i j : Nat} {d : D} {ds : List (D × D)} (h : (ρ.set i (.fz d))[j]? = some (.od ds)) : j ≠ i ∧ ρ[j]? = some (.od ds) := by
  by_cases e : j = i
  · subst e
    rw [List.getElem?_set] at h
    split at h
    · split at h <;> cases h
    · rename_i z; exact absurd rfl z
  · rw [List.getElem?_set_ne (Ne.symm e)] at h
    exact ⟨e, h⟩
theorem Good.setF {K : PySem.W.Frag} {G0 H0 G H : Hp} {σ : St} {ρ : List B} {v : V} {d : D} (g : Good K G0 H0 G H σ ρ) (i : Nat) (r : Rep K G d v) : Good K G0 H0 G H (σ.set i (some v)) (ρ.set i (.fz d)) := by
  refine ⟨g.st, Paired.set (.fz r) i g.vals, fun j k a ds es h1 h2 h3 h4 => ?_⟩
  obtain ⟨n1, e1⟩ := getElem?_set_fz h1
  obtain ⟨n2, e2⟩ := getElem?_set_fz h2
  rw [List.getElem?_set_ne (Ne.symm n1)] at h3
  rw [List.getElem?_set_ne (Ne.symm n2)] at h4
  exact g.apart j k a ds es e1 e2 h3 h4
theorem Good.addr {K : PySem.W.Frag} {G0 H0 G H : Hp} {σ : St} {ρ : List B} {i : Nat} {ds : List D} (g : Good K G0 H0 G H σ ρ) (h : ρ[i]? = some (.ow ds)) : ∃ a vs, σ[i]? = some (some (.ref a)) ∧ H a = some (.lst vs) ∧ G a = none ∧ H0 a = none ∧ Reps K G ds vs := by
  obtain ⟨o, e, r⟩ := Paired.get g.vals h
  cases r with
  | ow h1 h2 h3 h4 => exact ⟨_, _, e, h1, h2, h3, h4⟩
theorem Good.setO {K : PySem.W.Frag} {G0 H0 G H : Hp} {σ : St} {ρ : List B} {a : Addr} {vs : List V} {ds : List D} (g : Good K G0 H0 G H σ ρ) (i : Nat) (ha : H a = some (.lst vs)) (ga : G a = none) (h0 : H0 a = none) (rs : Reps K G ds vs)
    (fr : ∀ (j : Nat) (es : List D), ρ[j]? = some (B.ow es) → σ[j]? ≠ some (some (V.ref a))) : Good K G0 H0 G H (σ.set i (some (.ref a))) (ρ.set i (.ow ds)) := by
  have hl : σ.length = ρ.length := Paired.length g.vals
  refine ⟨g.st, Paired.set (.ow ha ga h0 rs) i g.vals, fun j k b d1 d2 h1 h2 h3 h4 => ?_⟩
  by_cases hj : j = i
  · by_cases hk : k = i
    · rw [hj, hk]
    · subst hj
      rw [List.getElem?_set_ne (Ne.symm hk)] at h2 h4
      have hlt : j < σ.length := by
        have := (List.getElem?_eq_some_iff.mp h3).1
        rwa [List.length_set] at this
      rw [List.getElem?_set_self hlt] at h3
      cases h3
      exact absurd h4 (fr k d2 h2)
  · rw [List.getElem?_set_ne (Ne.symm hj)] at h1 h3
    by_cases hk : k = i
    · subst hk
      have hlt : k < σ.length := by
        have := (List.getElem?_eq_some_iff.mp h4).1
        rwa [List.length_set] at this
      rw [List.getElem?_set_self hlt] at h4
      cases h4
      exact absurd h3 (fr j d1 h1)
    · rw [List.getElem?_set_ne (Ne.symm hk)] at h2 h4
      exact g.apart j k b d1 d2 h1 h2 h3 h4
theorem Good.wr {K : PySem.W.Frag} {G0 H0 G H : Hp} {σ : St} {ρ : List B} {a : Addr} {us : List V} {ds es : List D} {i : Nat} (g : Good K G0 H0 G H σ ρ) (hi : ρ[i]? = some (.ow ds)) (hs : σ[i]? = some (some (.ref a))) (rs : Reps K G es us) :
    Good K G0 H0 G (upd H a (.lst us)) σ (ρ.set i (.ow es)) := by
  obtain ⟨a', vs, h1, h2, h3, h4, _⟩ := g.addr hi
  rw [hs] at h1; cases h1
  have st : Step G0 H0 G (upd H a (.lst us)) := by
    have tb : TB (upd H a (.lst us)) := g.st.hh.tb.over h2
    refine ⟨⟨g.st.hh.ta, tb, fun b o e => ?_⟩, g.st.gg, ⟨g.st.sub.ta, tb, fun b o e => ?_⟩, g.st.new⟩
    · rw [upd_ne (ne_of_none e h4)]; exact g.st.hh.le b o e
    · rw [upd_ne (ne_of_none e h3)]; exact g.st.sub.le b o e
  have hl : σ.length = ρ.length := Paired.length g.vals
  have hil : i < ρ.length := (List.getElem?_eq_some_iff.mp hi).1
  have key : ∀ (l : List (Option V)) (r : List B) (n : Nat), Paired (RB K H0 G H) l r → (∀ j es, n + j ≠ i → r[j]? = some (.ow es) → l[j]? ≠ some (some (.ref a))) → (∀ j, n + j = i → l[j]? = some (some (.ref a))) →
      Paired (RB K H0 G (upd H a (.lst us))) l (if i < n then r else r.set (i - n) (.ow es)) := by
    intro l r n p
    induction p generalizing n with
    | nil => intro _ _; split <;> exact .nil
    | @cons o b l' r' q t ih =>
      intro hne hat
      have tl := ih (n + 1) (fun j es z e => by have := hne (j + 1) es (by omega) (by simpa using e); simpa using this) (fun j z => by have := hat (j + 1) (by omega); simpa using this)
      have keepq : (∀ es, b = .ow es → o ≠ some (.ref a)) → RB K H0 G (upd H a (.lst us)) o b := fun hb => by
        cases q with
        | no => exact .no
        | fz r => exact .fz r
        | @ow c vs ds' c1 c2 c3 c4 =>
          have : c ≠ a := fun z => hb _ rfl (by rw [z])
          exact .ow (by rw [upd_ne this]; exact c1) c2 c3 c4
        | @od c _ _ _ _ c1 c2 c3 c4 c5 c6 =>
          have : c ≠ a := fun z => by rw [z, h2] at c1; cases c1
          exact .od (by rw [upd_ne this]; exact c1) c2 c3 c4 c5 c6
      by_cases h1 : i < n
      · rw [if_pos h1]
        rw [if_pos (by omega)] at tl
        refine .cons (keepq fun es e z => ?_) tl
        exact hne 0 es (by omega) (by simp [e]) (by simp [z])
      · rw [if_neg h1]
        by_cases h2 : i = n
        · subst h2
          rw [if_pos (by omega)] at tl
          have := hat 0 (by omega)
          simp at this
          subst this
          rw [Nat.sub_self]
          exact .cons (.ow upd_same h3 h4 rs) tl
        · rw [if_neg (by omega)] at tl
          have e : i - n = (i - (n + 1)) + 1 := by omega
          rw [e]
          refine .cons (keepq fun es e z => ?_) tl
          exact hne 0 es (by omega) (by simp [e]) (by simp [z])
  have vals := key σ ρ 0 g.vals (fun j es' z e w => by
    have := g.apart j i a es' ds e hi w hs
    omega) (fun j z => by rw [show j = i by omega]; exact hs)
  rw [if_neg (Nat.not_lt_zero _), Nat.sub_zero] at vals
  refine ⟨st, vals, fun j k b d1 d2 e1 e2 e3 e4 => ?_⟩
  have un : ∀ (j : Nat) (d1 : List D), (ρ.set i (B.ow es))[j]? = some (B.ow d1) → ∃ d, ρ[j]? = some (B.ow d) := fun j d1 e => by
    by_cases hj : j = i
    · subst hj; exact ⟨ds, hi⟩
    · rw [List.getElem?_set_ne (Ne.symm hj)] at e; exact ⟨d1, e⟩
  obtain ⟨c1, f1⟩ := un j d1 e1
  obtain ⟨c2, f2⟩ := un k d2 e2
  exact g.apart j k b c1 c2 f1 f2 e3 e4

section
variable {X : Cx} {a b c e tg : Expr} {es : List Expr} {fa fb : Ef} {ga : Lf} {ta : Tf} {pos : Pos} {st : Stmt} {sts rest : List Stmt} {f g : Sf}
noncomputable def sSeq (f g : Sf) : Sf := fun ρ => (f ρ).bind fun o => match o with | .nx ρ' => g ρ' | o => some o
noncomputable def sNil : Sf := fun ρ => some (.nx ρ)
theorem pss_nilF : PFSs X [] sNil := by
  refine PSs.to pss_nil ?_
  rintro D σ H ⟨G0, H0, G, ρ, o, good, hf, k⟩
  cases hf
  exact k σ H G (SameT.refl good.sub.ta) good
theorem pss_oneF (h : PFS X st f) : PFSs X [st] f := pss_one h
theorem pss_consF (h1 : PFS X st f) (h2 : PFSs X rest g) : PFSs X (st :: rest) (sSeq f g) := by
  refine PSs.to (pss_cons h1 h2) ?_
  rintro D σ H ⟨G0, H0, G, ρ, o, good, hf, k⟩
  unfold sSeq at hf
  obtain ⟨o1, h1, hf⟩ := Option.bind_eq_some_iff.mp hf
  refine ⟨G0, H0, G, ρ, o1, good, h1, ?_⟩
  cases o1 with
  | nx ρ' => exact fun σ' H' G' s g' => ⟨G0, H0, G', ρ', o, g', hf, k.mono s⟩
  | rt d => cases hf; exact k
  | rl d => cases hf; exact k
  | bk d => cases hf; exact k
  | ct d => cases hf; exact k
noncomputable def sRet (f : Ef) : Sf := fun ρ => (f ρ).map .rt
theorem ps_retF (h : PF X e fa) : PFS X (.Return (some e) pos) (sRet fa) := by
  refine PS.to (ps_ret h) ?_
  rintro D σ H ⟨G0, H0, G, ρ, o, good, hf, k⟩
  unfold sRet at hf
  obtain ⟨d, h1, rfl⟩ := Option.map_eq_some_iff.mp hf
  exact ⟨G0, H0, G, ρ, d, good, h1, fun v H' G' s r => k v H' G' (good.st.trans s) r⟩
noncomputable def sRetL (f : Lf) : Sf := fun ρ => (f ρ).map .rl
theorem ps_retL (h : PFr X e ga) : PFS X (.Return (some e) pos) (sRetL ga) := by
  refine PS.to (ps_ret h) ?_
  rintro D σ H ⟨G0, H0, G, ρ, o, good, hf, k⟩
  unfold sRetL at hf
  obtain ⟨d, h1, rfl⟩ := Option.map_eq_some_iff.mp hf
  exact ⟨G0, H0, G, ρ, d, good, h1, fun p vs H' G' s hn hp gp rs => k p vs H' G' (good.st.trans s) (good.st.hh.free hn) hp gp rs⟩
noncomputable def sRetO (i : Nat) : Sf := fun ρ => match ρ[i]? with | some (.ow ds) => some (.rl ds) | _ => none
theorem ps_retO (i : Nat) {x : Str} {pos' : Pos} (hN : X.N[i]? = some x := by rfl) (hv : Vis X.env.scope x := by first | exact Or.inl rfl | exact Or.inr (Or.inl rfl) | exact Or.inr (Or.inr rfl)) (hd : (x == ("__debug__" : Str)) = false := by decide) (hcd : (x == ("__classdict__" : Str)) = false := by decide) :
    PFS X (.Return (some (.Name x pos')) pos) (sRetO i) := by
  refine PS.to (ps_ret (pe_var hN hv hd hcd)) ?_
  rintro D σ H ⟨G0, H0, G, ρ, o, good, hf, k⟩
  unfold sRetO at hf
  split at hf
  · rename_i ds e
    cases hf
    obtain ⟨p, vs, h1, h2, h3, h4, h5⟩ := good.addr e
    exact ⟨.ref p, h1, k p vs H G good.st h4 h2 h3 h5⟩
  · cases hf
noncomputable def sIf (t : Tf) (f g : Sf) : Sf := fun ρ => (t ρ).bind fun c => if c = true then f ρ else g ρ
theorem ps_ifF {sa sb : List Stmt} (ht : PFT X c ta) (ha : PFSs X sa f) (hb : PFSs X sb g) : PFS X (.If c sa sb pos) (sIf ta f g) := by
  refine PS.to (ps_if ht ha hb) ?_
  rintro D σ H ⟨G0, H0, G, ρ, o, good, hf, k⟩
  unfold sIf at hf
  obtain ⟨c', h1, hf⟩ := Option.bind_eq_some_iff.mp hf
  refine ⟨G0, H0, G, ρ, _, good, h1, fun H1 G1 s1 => ?_⟩
  split at hf
  · rename_i h; rw [if_pos h]; exact ⟨G0, H0, G1, ρ, o, good.step s1, hf, k.mono s1.gg⟩
  · rename_i h; rw [if_neg h]; exact ⟨G0, H0, G1, ρ, o, good.step s1, hf, k.mono s1.gg⟩
noncomputable abbrev Gf := D → List B → Option (List B)
noncomputable def tFG (K : PySem.W.Frag) (g : Gf) : TG := fun v σ H Q => ∃ G0 H0 G ρ d ρ', Good K G0 H0 G H σ ρ ∧ Rep K G d v ∧ g d ρ = some ρ' ∧ ∀ σ' H' G', Step G H G' H' → Good K G0 H0 G' H' σ' ρ' → Q σ' H'
noncomputable def PFG (X : Cx) (tg : Expr) (g : Gf) : Prop := PG X tg (tFG X.K g)
noncomputable abbrev Gfs := List D → List B → Option (List B)
noncomputable def tFGs (K : PySem.W.Frag) (g : Gfs) : TGs := fun vs σ H Q => ∃ G0 H0 G ρ ds ρ', Good K G0 H0 G H σ ρ ∧ Reps K G ds vs ∧ g ds ρ = some ρ' ∧ ∀ σ' H' G', Step G H G' H' → Good K G0 H0 G' H' σ' ρ' → Q σ' H'
noncomputable def PFGs (X : Cx) (tgs : List Expr) (g : Gfs) : Prop := PGs X tgs (tFGs X.K g)
noncomputable def gN (i : Nat) : Gf := fun d ρ => some (ρ.set i (.fz d))
theorem pg_n (i : Nat) {x : Str} (hN : X.N.Nodup) (hi : X.N[i]? = some x := by rfl) (hx : Loc X.env.scope x := by first | exact .inl rfl | exact .inr rfl) (hf : X.fn x = true ∨ X.env.scope.names.lookup x = some .local := by first | exact .inl rfl | exact .inr rfl) : PFG X (.Name x pos) (gN i) := by
  have h := pg_name (pos := pos) hN hi hx hf
  intro pins s σ H v u Q I r q
  refine h pins s σ H v u Q I r ?_
  obtain ⟨G0, H0, G, ρ, d, ρ', good, rd, hf, k⟩ := q
  cases hf
  exact k _ H G (.refl good.sub) (good.setF i rd)
noncomputable def gsNil : Gfs := fun ds ρ => match ds with | [] => some ρ | _ => none
noncomputable def gsCons (g : Gf) (r : Gfs) : Gfs := fun ds ρ => match ds with | d :: dr => (g d ρ).bind fun ρ' => r dr ρ' | _ => none
theorem pgs_nilF : PFGs X [] gsNil := by
  intro pins s σ H vs us Q I r q
  refine pgs_nil pins s σ H vs us Q I r ?_
  obtain ⟨G0, H0, G, ρ, ds, ρ', good, rd, hf, k⟩ := q
  unfold gsNil at hf
  split at hf
  · cases hf
    rw [reps_nil] at rd
    exact ⟨rd, k _ H G (.refl good.sub) good⟩
  · cases hf
theorem pgs_consF {g : Gf} {r : Gfs} (h1 : PFG X e g) (h2 : PFGs X es r) (hs : (assignEach (e :: es) X.env).map (·.2) = assign e X.env :: (assignEach es X.env).map (·.2) := by rfl) : PFGs X (e :: es) (gsCons g r) := by
  intro pins s σ H vs us Q I rv q
  refine pgs_cons h1 h2 hs pins s σ H vs us Q I rv ?_
  obtain ⟨G0, H0, G, ρ, ds, ρ', good, rd, hf, k⟩ := q
  unfold gsCons at hf
  split at hf
  · rename_i d dr
    obtain ⟨ρ1, e1, e2⟩ := Option.bind_eq_some_iff.mp hf
    obtain ⟨v, vr, rfl, r1, r2⟩ := reps_cons.mp rd
    exact ⟨v, vr, rfl, G0, H0, G, ρ, d, ρ1, good, r1, e1, fun σ' H' G' s' g' => ⟨G0, H0, G', ρ1, dr, ρ', g', r2.mono s'.gg, e2, fun σ2 H2 G2 s2 g2 => k σ2 H2 G2 (s'.trans s2) g2⟩⟩
  · cases hf
noncomputable def gT (r : Gfs) : Gf := fun d ρ => match d with | .tup ds => r ds ρ | _ => none
theorem pg_t {r : Gfs} {k : Nat} (n : Nat) (hc : X.calm = true) (h : PFGs X es r) (hr : ∀ ds ρ ρ', r ds ρ = some ρ' → ds.length = n) (hn : (assignEach es X.env).length = n := by rfl) (hst : (assignEach es X.env).findIdx? (·.1) = none := by rfl) : PFG X (.Tuple es k pos) (gT r) := by
  have h := pg_tup (pos := pos) (k := k) hc h hn hst
  intro pins s σ H v u Q I rv q
  refine h pins s σ H v u Q I rv ?_
  obtain ⟨G0, H0, G, ρ, d, ρ', good, rd, hf, k⟩ := q
  unfold gT at hf
  split at hf
  · obtain ⟨p, vs, rfl, h1, h2⟩ := rep_tup.mp rd
    exact ⟨p, vs, rfl, good.sub.tup h1, by rw [← h2.length]; exact hr _ _ _ hf, G0, H0, G, ρ, _, ρ', good, h2, hf, k⟩
  · cases hf
theorem gs_len1 {g : Gf} {r : Gfs} {n : Nat} (h : ∀ ds ρ ρ', r ds ρ = some ρ' → ds.length = n) : ∀ ds ρ ρ', gsCons g r ds ρ = some ρ' → ds.length = n + 1 := by
  intro ds ρ ρ' q
  unfold gsCons at q
  split at q
  · obtain ⟨ρ1, e1, e2⟩ := Option.bind_eq_some_iff.mp q
    rw [List.length_cons, h _ _ _ e2]
  · cases q
theorem gs_len0 : ∀ ds ρ ρ', gsNil ds ρ = some ρ' → ds.length = 0 := by
  intro ds ρ ρ' q
  unfold gsNil at q
  split at q
  · rfl
  · cases q
noncomputable def NoOw (ρ : List B) : Prop := (∀ (j : Nat) (es : List D), ρ[j]? ≠ some (B.ow es)) ∧ ∀ (j : Nat) (ks : List (D × D)), ρ[j]? ≠ some (B.od ks)
noncomputable def GfOk (g : Gf) : Prop := ∀ d ρ ρ', g d ρ = some ρ' → NoOw ρ → NoOw ρ'
noncomputable def GfsOk (g : Gfs) : Prop := ∀ d ρ ρ', g d ρ = some ρ' → NoOw ρ → NoOw ρ'
theorem go_n (i : Nat) : GfOk (gN i) := fun d ρ ρ' h n => by
  cases h
  exact ⟨fun j es e => n.1 j es (getElem?_set_fz e).2, fun j ks e => n.2 j ks (getElem?_set_fzD e).2⟩
theorem gso_nil : GfsOk gsNil := fun d ρ ρ' h n => by
  unfold gsNil at h
  split at h
  · cases h; exact n
  · cases h
theorem gso_cons {g : Gf} {r : Gfs} (h1 : GfOk g) (h2 : GfsOk r) : GfsOk (gsCons g r) := fun d ρ ρ' h n => by
  unfold gsCons at h
  split at h
  · obtain ⟨ρ1, e1, e2⟩ := Option.bind_eq_some_iff.mp h
    exact h2 _ _ _ e2 (h1 _ _ _ e1 n)
  · cases h
theorem go_t {r : Gfs} (h : GfsOk r) : GfOk (gT r) := fun d ρ ρ' q n => by
  unfold gT at q
  split at q
  · exact h _ _ _ q n
  · cases q
noncomputable def sAsg (f : Ef) (g : Gf) : Sf := fun ρ => (f ρ).bind fun d => (g d ρ).map .nx
theorem sAsg_imp {K : PySem.W.Frag} {t : TE} {f : Ef} {g : Gf} (imp : ∀ σ H Q, tF K f σ H Q → t σ H Q) {D : Ends} {σ : St} {H : Hp} (h : tFS K (sAsg f g) D σ H) : tAsg t (tFG K g) D σ H := by
  obtain ⟨G0, H0, G, ρ, o, good, hf, k⟩ := h
  unfold sAsg at hf
  obtain ⟨d, h1, hf⟩ := Option.bind_eq_some_iff.mp hf
  obtain ⟨ρ', h2, rfl⟩ := Option.map_eq_some_iff.mp hf
  exact imp _ _ _ ⟨G0, H0, G, ρ, d, good, h1, fun v H' G' s r => ⟨G0, H0, G', ρ, d, ρ', good.step s, r, h2, fun σ2 H2 G2 s2 g2 => k σ2 H2 G2 (s.gg.trans s2.gg) g2⟩⟩
theorem ps_asgF {g : Gf} (he : PF X e fa) (hg : PFG X tg g) (hs : swapsWithSole [tg] e pos.line X.env = pure false := by rfl) (hw : swappedStores [tg] e X.env = pure none := by rfl) (h1 : (assignEach [tg] X.env).map (·.2) = [assign tg X.env] := by rfl) :
    PFS X (.Assign [tg] e pos) (sAsg fa g) := PS.to (ps_asg he hg hs hw h1) fun D σ H h => sAsg_imp (fun _ _ _ q => q) h
noncomputable def sSet (i : Nat) (f : Ef) : Sf := fun ρ => (f ρ).map fun d => .nx (ρ.set i (.fz d))
theorem sSet_imp {K : PySem.W.Frag} {t : TE} {f : Ef} {i : Nat} (imp : ∀ σ H Q, tF K f σ H Q → t σ H Q) {D : Ends} {σ : St} {H : Hp} (h : tFS K (sSet i f) D σ H) : tAsg t (gName i) D σ H := by
  obtain ⟨G0, H0, G, ρ, o, good, hf, k⟩ := h
  unfold sSet at hf
  obtain ⟨d, h1, rfl⟩ := Option.map_eq_some_iff.mp hf
  exact imp _ _ _ ⟨G0, H0, G, ρ, d, good, h1, fun v H' G' s r => k _ H' G' s.gg ((good.step s).setF i r)⟩
theorem ps_setF (i : Nat) {x : Str} {pos' : Pos} (hN : X.N.Nodup) (he : PF X e fa) (hi : X.N[i]? = some x := by rfl) (hx : Loc X.env.scope x := by first | exact .inl rfl | exact .inr rfl) (hs : swapsWith e (some (.Name x pos')) pos.line X.env = pure false := by rfl)
    (hf : X.fn x = true ∨ X.env.scope.names.lookup x = some .local := by first | exact .inl rfl | exact .inr rfl) : PFS X (.Assign [.Name x pos'] e pos) (sSet i fa) :=
  PS.to (ps_set hN hi hx he hs hf) fun D σ H h => sSet_imp (fun _ _ _ q => q) h
noncomputable def sOwn (i : Nat) (f : Lf) : Sf := fun ρ => (f ρ).map fun ds => .nx (ρ.set i (.ow ds))
theorem sOwn_imp {K : PySem.W.Frag} {t : TE} {f : Lf} {i : Nat} (imp : ∀ σ H Q, tFr K f σ H Q → t σ H Q) {D : Ends} {σ : St} {H : Hp} (h : tFS K (sOwn i f) D σ H) : tAsg t (gName i) D σ H := by
  obtain ⟨G0, H0, G, ρ, o, good, hf, k⟩ := h
  unfold sOwn at hf
  obtain ⟨ds, h1, rfl⟩ := Option.map_eq_some_iff.mp hf
  refine imp _ _ _ ⟨G0, H0, G, ρ, ds, good, h1, fun p vs H' G' s hn hp gp rs => ?_⟩
  refine k _ H' G' s.gg ((good.step s).setO i hp gp (good.st.hh.free hn) rs fun j es e z => ?_)
  obtain ⟨q, us, e1, e2, _⟩ := good.addr e
  rw [e1] at z; cases z
  rw [hn] at e2; cases e2
theorem ps_own (i : Nat) {x : Str} {pos' : Pos} (hN : X.N.Nodup) (he : PFr X e ga) (hi : X.N[i]? = some x := by rfl) (hx : Loc X.env.scope x := by first | exact .inl rfl | exact .inr rfl) (hs : swapsWith e (some (.Name x pos')) pos.line X.env = pure false := by rfl)
    (hf : X.fn x = true ∨ X.env.scope.names.lookup x = some .local := by first | exact .inl rfl | exact .inr rfl) : PFS X (.Assign [.Name x pos'] e pos) (sOwn i ga) :=
  PS.to (ps_set hN hi hx he hs hf) fun D σ H h => sOwn_imp (fun _ _ _ q => q) h
noncomputable def frzB (i : Nat) (ρ : List B) : List B := match ρ[i]? with | some (.ow ds) => ρ.set i (.fz (.lst ds)) | _ => ρ
noncomputable def sFrz (i : Nat) (f : Sf) : Sf := fun ρ => f (frzB i ρ)
theorem Good.frz {K : PySem.W.Frag} {G0 H0 G H : Hp} {σ : St} {ρ : List B} (g : Good K G0 H0 G H σ ρ) (i : Nat) : ∃ G', SameT G G' ∧ Good K G0 H0 G' H σ (frzB i ρ) := by
  unfold frzB
  split
  · rename_i ds e
    obtain ⟨p, vs, h1, h2, h3, h4, h5⟩ := g.addr e
    have sG : SameT G (upd G p (.lst vs)) := SameT.new g.sub.ta h3
    have st : Step G0 H0 (upd G p (.lst vs)) H := by
      refine ⟨g.st.hh, g.st.gg.trans sG, ⟨sG.tb, g.st.sub.tb, fun b o q => ?_⟩, fun b hb => ?_⟩
      · by_cases z : b = p
        · subst z; rw [upd_same] at q; rw [h2]; exact .inl q
        · rw [upd_ne z] at q; exact g.st.sub.le b o q
      · rw [upd_ne (fun z : b = p => hb (by rw [z]; exact h4))]; exact g.st.new b hb
    have vals : Paired (RB K H0 (upd G p (.lst vs)) H) σ (ρ.set i (.fz (.lst ds))) := by
      have key : ∀ (l : List (Option V)) (r : List B) (n : Nat), Paired (RB K H0 G H) l r → (∀ j es, n + j ≠ i → r[j]? = some (.ow es) → l[j]? ≠ some (some (.ref p))) → (∀ j, n + j = i → l[j]? = some (some (.ref p))) →
          Paired (RB K H0 (upd G p (.lst vs)) H) l (if i < n then r else r.set (i - n) (.fz (.lst ds))) := by
        intro l r n q
        induction q generalizing n with
        | nil => intro _ _; split <;> exact .nil
        | @cons o b l' r' q t ih =>
          intro hne hat
          have tl := ih (n + 1) (fun j es z e => by have := hne (j + 1) es (by omega) (by simpa using e); simpa using this) (fun j z => by have := hat (j + 1) (by omega); simpa using this)
          have keepq : (∀ es, b = .ow es → o ≠ some (.ref p)) → RB K H0 (upd G p (.lst vs)) H o b := fun hb => by
            cases q with
            | no => exact .no
            | fz r => exact .fz (r.mono sG)
            | @ow c vs' ds' c1 c2 c3 c4 =>
              have : c ≠ p := fun z => hb _ rfl (by rw [z])
              exact .ow c1 (by rw [upd_ne this]; exact c2) c3 (c4.mono sG)
            | @od c _ _ _ _ c1 c2 c3 c4 c5 c6 =>
              have : c ≠ p := fun z => by rw [z, h2] at c1; cases c1
              exact .od c1 (by rw [upd_ne this]; exact c2) c3 (c4.mono sG) c5 c6
          by_cases h1 : i < n
          · rw [if_pos h1]
            rw [if_pos (by omega)] at tl
            exact .cons (keepq fun es e z => hne 0 es (by omega) (by simp [e]) (by simp [z])) tl
          · rw [if_neg h1]
            by_cases h2 : i = n
            · subst h2
              rw [if_pos (by omega)] at tl
              have := hat 0 (by omega)
              simp at this
              subst this
              rw [Nat.sub_self]
              exact .cons (.fz (rep_lst.mpr ⟨p, vs, rfl, .of upd_same, h5.mono sG⟩)) tl
            · rw [if_neg (by omega)] at tl
              have e : i - n = (i - (n + 1)) + 1 := by omega
              rw [e]
              exact .cons (keepq fun es e z => hne 0 es (by omega) (by simp [e]) (by simp [z])) tl
      have v := key σ ρ 0 g.vals (fun j es' z e' w => by have := g.apart j i p es' ds e' e w h1; omega) (fun j z => by rw [show j = i by omega]; exact h1)
      rw [if_neg (Nat.not_lt_zero _), Nat.sub_zero] at v
      exact v
    refine ⟨_, sG, st, vals, fun j k b d1 d2 e1 e2 e3 e4 => ?_⟩
    obtain ⟨_, f1⟩ := getElem?_set_fz e1
    obtain ⟨_, f2⟩ := getElem?_set_fz e2
    exact g.apart j k b d1 d2 f1 f2 e3 e4
  · exact ⟨G, SameT.refl g.sub.ta, g⟩
theorem ps_frz (i : Nat) (h : PFS X st f) : PFS X st (sFrz i f) := by
  refine PS.to h ?_
  rintro D σ H ⟨G0, H0, G, ρ, o, good, hf, k⟩
  obtain ⟨G', s, g'⟩ := good.frz i
  exact ⟨G0, H0, G', _, o, g', hf, k.mono s⟩
end
end L2

namespace L2
open PySem PySem.Spec PyProof.Rows

noncomputable def Yields (K : PySem.W.Frag) (J : It) (G : Hp) (ds : List D) : Prop := ∀ (i : Nat) (G2 H2 : Hp), SameT G G2 → SameT G2 H2 →
  (∀ d, ds[i]? = some d → J.go i H2 ∧ ∀ x H3, J.yld i H2 x H3 → ∃ G3, Step G2 H2 G3 H3 ∧ Rep K G3 d x) ∧ (ds.length ≤ i → J.stop i H2)
noncomputable def tFI (K : PySem.W.Frag) (f : Lf) : TI := fun σ H R => ∃ G0 H0 G ρ ds, Good K G0 H0 G H σ ρ ∧ f ρ = some ds ∧ ∀ J H' G', Step G H G' H' → Yields K J G' ds → R J H'
noncomputable def PFI (X : Cx) (tg iter : Expr) (f : Lf) : Prop := PI X tg iter (tFI X.K f)
theorem PI.to {X : Cx} {tg e : Expr} {t : TI} {f : Lf} (h : PI X tg e t) (imp : ∀ σ H R, tFI X.K f σ H R → t σ H R) : PFI X tg e f := fun pins s σ H R I q => h pins s σ H R I (imp σ H R q)
theorem yields_list' {K : PySem.W.Frag} {G : Hp} {a : Addr} {vs : List V} {ds : List D} (h : SqL K G a vs) (r : Reps K G ds vs) : Yields K (Itl K a) G ds := by
  intro i G2 H2 s1 s2
  have q : SqL K H2 a vs := (s1.trans s2).seq h
  refine ⟨fun d hd => ?_, fun hi => ⟨vs, q, by rw [← r.length]; exact hi⟩⟩
  obtain ⟨v, e, rv⟩ := r.get hd
  refine ⟨⟨vs, v, q, e⟩, fun x H3 y => ?_⟩
  obtain ⟨rfl, y⟩ := y
  have := y vs q
  rw [e] at this; cases this
  exact ⟨G2, .refl s2, rv.mono s1⟩
section
variable {X : Cx} {a b c e tg elt iter : Expr} {es ifs : List Expr} {fa fb : Ef} {ga gi : Lf} {ta tc : Tf} {pos : Pos} {st : Stmt} {sts rest : List Stmt} {f g : Sf}
noncomputable def iL (f : Ef) : Lf := fun ρ => (f ρ).bind fun d => match d with | .lst ds => some ds | _ => none
theorem pi_l (h : PF X e fa) : PFI X tg e (iL fa) := by
  refine PI.to (pi_list h) ?_
  rintro σ H R ⟨G0, H0, G, ρ, ds, good, hf, k⟩
  unfold iL at hf
  obtain ⟨d, h1, hf⟩ := Option.bind_eq_some_iff.mp hf
  cases d with
  | lst es =>
    cases hf
    refine ⟨G0, H0, G, ρ, _, good, h1, fun x H1 G1 s1 r1 => ?_⟩
    obtain ⟨p, vs, rfl, q, rs⟩ := rep_lst.mp r1
    exact ⟨p, rfl, ⟨vs, s1.sub.seq q⟩, k _ H1 G1 s1 (yields_list' q rs)⟩
  | _ => cases hf
theorem pi_lr (h : PFr X e ga) : PFI X tg e ga := by
  refine PI.to (pi_list h) ?_
  rintro σ H R ⟨G0, H0, G, ρ, ds, good, hf, k⟩
  refine ⟨G0, H0, G, ρ, _, good, hf, fun p vs H1 G1 s1 hn hp gp rs => ?_⟩
  exact ⟨p, rfl, ⟨vs, .of hp⟩, k _ H1 (upd G1 p (.lst vs)) (s1.frz hn hp gp) (yields_list' (.of upd_same) (rs.mono (SameT.new s1.sub.ta gp)))⟩
noncomputable def forF (g : Gf) (body : Sf) : List D → Sf
  | [], ρ => some (.nx ρ)
  | d :: r, ρ => (g d ρ).bind fun ρ1 => (body ρ1).bind fun o => match o with
    | .nx ρ2 => forF g body r ρ2
    | .ct ρ2 => forF g body r ρ2
    | .bk ρ2 => some (.nx ρ2)
    | o => some o
noncomputable def sFor (src : Lf) (g : Gf) (body : Sf) : Sf := fun ρ => (src ρ).bind fun ds => forF g body ds ρ
theorem ps_forF {gt : Gf} {body : List Stmt} {fb : Sf} (hp : PassesOwn (model X.prog X.w) X.A X.env X.xe) (hc : X.calm = true) (hi : PFI X tg iter gi) (hg : PFG X tg gt) (hb : PFSs X body fb) (hs : ∀ x, foldedSetIterable iter X.env x = pure x := by intro _; rfl) :
    PFS X (.For tg iter body [] pos) (sFor gi gt fb) := by
  refine PS.to (ps_for hp hc hi hg hb hs) ?_
  rintro D σ H ⟨G0, H0, G, ρ, o, good, hf, k⟩
  unfold sFor at hf
  obtain ⟨ds, h1, hf⟩ := Option.bind_eq_some_iff.mp hf
  refine ⟨G0, H0, G, ρ, ds, good, h1, fun J H1 G1 s1 y => ?_⟩
  refine ⟨fun i m σ H => m = ds.length - i ∧ i ≤ ds.length ∧ ∃ G2 ρ2, SameT G1 G2 ∧ Good X.K G0 H0 G2 H σ ρ2 ∧ forF gt fb (ds.drop i) ρ2 = some o, ⟨ds.length, by simp, Nat.zero_le _, G1, ρ, SameT.refl s1.sub.ta, good.step s1, by simpa using hf⟩, ?_⟩
  rintro i m σ2 H2 ⟨rfl, hi', G2, ρ2, sg, good2, hf2⟩
  obtain ⟨y1, y2⟩ := y i G2 H2 sg good2.sub
  by_cases hlt : i < ds.length
  · obtain ⟨go, yl⟩ := y1 ds[i] (List.getElem?_eq_getElem hlt)
    rw [List.drop_eq_getElem_cons hlt] at hf2
    unfold forF at hf2
    obtain ⟨ρ3, e1, hf2⟩ := Option.bind_eq_some_iff.mp hf2
    obtain ⟨o1, e2, hf2⟩ := Option.bind_eq_some_iff.mp hf2
    refine .inr ⟨go, fun σ' H' => ∃ G' ρ', SameT G1 G' ∧ Good X.K G0 H0 G' H' σ' ρ' ∧ forF gt fb (ds.drop (i + 1)) ρ' = some o, fun σ' H' ⟨G', ρ', a1, a2, a3⟩ => ⟨ds.length - (i + 1), by omega, rfl, hlt, G', ρ', a1, a2, a3⟩, fun x H3 yx => ?_⟩
    obtain ⟨G3, s3, r3⟩ := yl x H3 yx
    refine ⟨G0, H0, G3, ρ2, _, ρ3, good2.step s3, r3, e1, fun σ4 H4 G4 s4 good4 => ?_⟩
    have sg4 : SameT G1 G4 := (sg.trans s3.gg).trans s4.gg
    refine ⟨G0, H0, G4, ρ3, o1, good4, e2, ?_⟩
    cases o1 with
    | nx ρ5 => exact fun σ5 H5 G5 s5 good5 => ⟨G5, ρ5, sg4.trans s5, good5, hf2⟩
    | ct ρ5 => exact fun σ5 H5 G5 s5 good5 => ⟨G5, ρ5, sg4.trans s5, good5, hf2⟩
    | bk ρ5 => cases hf2; exact fun σ5 H5 G5 s5 good5 => k σ5 H5 G5 ((s1.gg.trans sg4).trans s5) good5
    | rt d => cases hf2; exact k
    | rl d => cases hf2; exact k
  · have e : i = ds.length := by omega
    subst e
    rw [List.drop_length] at hf2
    cases hf2
    exact .inl ⟨y2 (Nat.le_refl _), k σ2 H2 G2 (s1.gg.trans sg) good2⟩

noncomputable def mapF (g : Gf) (t : Tf) (elt : Ef) : List D → List B → List D → Option (List D)
  | [], _, acc => some acc
  | d :: r, ρ, acc => (g d ρ).bind fun ρ1 => (t ρ1).bind fun c => if c = true then (elt ρ1).bind fun y => mapF g t elt r ρ1 (acc ++ [y]) else mapF g t elt r ρ1 acc
noncomputable def upB (m : Nat) (js : List Nat) (ρ : List B) : List B := List.replicate m .no ++ js.map fun j => match ρ[j]? with | some (.fz d) => .fz d | _ => .no
noncomputable def lComp (src : Lf) (m : Nat) (js : List Nat) (g : Gf) (t : Tf) (elt : Ef) : Lf := fun ρ => ((src ρ).bind okL).bind fun ds => mapF g t elt ds (upB m js ρ) []
theorem Good.up {K : PySem.W.Frag} {G0 H0 G H : Hp} {σ : St} {ρ : List B} (g : Good K G0 H0 G H σ ρ) (m : Nat) (js : List Nat) : Good K G H G H (upC m js σ) (upB m js ρ) := by
  refine ⟨.refl g.sub, ?_, fun i j a ds es h1 => ?_⟩
  · unfold upC upB
    have rep : ∀ m : Nat, Paired (RB K H G H) (List.replicate m (none : Option V)) (List.replicate m B.no) := fun m => by
      induction m with
      | zero => exact .nil
      | succ n ih => rw [List.replicate_succ, List.replicate_succ]; exact .cons .no ih
    have app : ∀ {l1 l2 : List (Option V)} {r1 r2 : List B}, Paired (RB K H G H) l1 r1 → Paired (RB K H G H) l2 r2 → Paired (RB K H G H) (l1 ++ l2) (r1 ++ r2) := fun h1 h2 => by
      induction h1 with
      | nil => exact h2
      | cons q t ih => exact .cons q ih
    refine app (rep m) ?_
    induction js with
    | nil => exact .nil
    | cons j r ih =>
      rw [List.map_cons, List.map_cons]
      refine .cons ?_ ih
      cases e : ρ[j]? with
      | none => exact .no
      | some b =>
        obtain ⟨o, e1, r1⟩ := Paired.get g.vals e
        cases r1 with
        | no => exact .no
        | fz q => rw [e1]; exact .fz q
        | ow q1 q2 q3 q4 => exact .no
        | od q1 q2 q3 q4 q5 q6 => exact .no
  · unfold upB at h1
    by_cases hi : i < m
    · rw [List.getElem?_append_left (by simpa using hi), List.getElem?_replicate] at h1
      split at h1 <;> cases h1
    · rw [List.getElem?_append_right (by simpa using hi), List.getElem?_map] at h1
      obtain ⟨k, _, h1⟩ := Option.map_eq_some_iff.mp h1
      split at h1 <;> cases h1
theorem upB_noow (m : Nat) (js : List Nat) (ρ : List B) : NoOw (upB m js ρ) := by
  constructor
  all_goals
    intro i es h1
    unfold upB at h1
    by_cases hi : i < m
    · rw [List.getElem?_append_left (by simpa using hi), List.getElem?_replicate] at h1
      split at h1 <;> cases h1
    · rw [List.getElem?_append_right (by simpa using hi), List.getElem?_map] at h1
      obtain ⟨k, _, h1⟩ := Option.map_eq_some_iff.mp h1
      split at h1 <;> cases h1
theorem Good.wrX {K : PySem.W.Frag} {G0 H0 G H : Hp} {σ : St} {ρ : List B} {p : Addr} {o : HO} (g : Good K G0 H0 G H σ ρ) (n : NoOw ρ) (gp : G p = none) (h0 : H0 p = none) (tb : TB (upd H p o)) : Good K G0 H0 G (upd H p o) σ ρ := by
  refine ⟨⟨⟨g.st.hh.ta, tb, fun b u e => ?_⟩, g.st.gg, ⟨g.st.sub.ta, tb, fun b u e => ?_⟩, g.st.new⟩, ?_, g.apart⟩
  · rw [upd_ne (ne_of_none e h0)]; exact g.st.hh.le b u e
  · rw [upd_ne (ne_of_none e gp)]; exact g.st.sub.le b u e
  · have key : ∀ (l : List (Option V)) (r : List B), Paired (RB K H0 G H) l r → NoOw r → Paired (RB K H0 G (upd H p o)) l r := by
      intro l r q
      induction q with
      | nil => intro _; exact .nil
      | @cons x b l' r' q t ih =>
        intro n
        refine .cons ?_ (ih ⟨fun j es e => n.1 (j + 1) es (by simpa using e), fun j es e => n.2 (j + 1) es (by simpa using e)⟩)
        cases q with
        | no => exact .no
        | fz r => exact .fz r
        | ow _ _ _ _ => exact absurd rfl (n.1 0 _)
        | od _ _ _ _ _ _ => exact absurd rfl (n.2 0 _)
    exact key σ ρ g.vals n
theorem comp_imp {K : PySem.W.Frag} {m : Nat} {js : List Nat} {gt : Gf} {t : Tf} {el : Ef} (hgo : GfOk gt) {σ : St} {H : Hp} {Q : VK} (h : tFr K (lComp gi m js gt t el) σ H Q) : tComp (tFI K gi) m js (tFG K gt) (tFT K t) (tF K el) σ H Q := by
  obtain ⟨G0, H0, G, ρ, out, good, hf, k⟩ := h
  unfold lComp at hf
  obtain ⟨ds, h1, hf⟩ := Option.bind_eq_some_iff.mp hf
  obtain ⟨ds', h1, h1'⟩ := Option.bind_eq_some_iff.mp h1
  obtain ⟨rfl, hlen⟩ := okL_inv h1'
  refine ⟨G0, H0, G, ρ, _, good, h1, fun J H1 G1 s1 y D hD => ?_⟩
  have good1 := (good.step s1).up m js
  have hGD : G1 D = none := s1.sub.free hD
  refine ⟨fun i n σ2 H2 => n = ds.length - i ∧ i ≤ ds.length ∧ ∃ G2 ρ2 acc us, SameT G1 G2 ∧ G2 D = none ∧ H2 D = some (.lst us) ∧ Reps K G2 acc us ∧ acc.length ≤ i ∧ NoOw ρ2 ∧ Good K G1 H1 G2 H2 σ2 ρ2 ∧ mapF gt t el (ds.drop i) ρ2 acc = some out,
    ⟨ds.length, by simp, Nat.zero_le _, G1, upB m js ρ, [], [], SameT.refl s1.sub.ta, hGD, upd_same, reps_nil.mpr rfl, Nat.le_refl _, upB_noow _ _ _, good1.step (Step.own s1.sub hD), by simpa using hf⟩, ?_⟩
  rintro i n σ2 H2 ⟨rfl, hi, G2, ρ2, acc, us, sg, gD, hD2, rs, hal, now, good2, hf2⟩
  obtain ⟨y1, y2⟩ := y i G2 H2 sg good2.sub
  by_cases hlt : i < ds.length
  · obtain ⟨go, yl⟩ := y1 ds[i] (List.getElem?_eq_getElem hlt)
    rw [List.drop_eq_getElem_cons hlt] at hf2
    unfold mapF at hf2
    obtain ⟨ρ3, e1, hf2⟩ := Option.bind_eq_some_iff.mp hf2
    obtain ⟨c, e2, hf2⟩ := Option.bind_eq_some_iff.mp hf2
    have now3 := hgo _ _ _ e1 now
    refine .inr ⟨go, fun x H3 yx => ?_⟩
    obtain ⟨G3, s3, r3⟩ := yl x H3 yx
    refine ⟨G1, H1, G3, ρ2, _, ρ3, good2.step s3, r3, e1, fun σ4 H4 G4 s4 good4 => ?_⟩
    refine ⟨G1, H1, G4, ρ3, c, good4, e2, fun H5 G5 s5 => ?_⟩
    have s35 := (s3.trans s4).trans s5
    have hne : H2 D ≠ none := by rw [hD2]; exact fun z => nomatch z
    split at hf2
    · rename_i hc
      show if c = true then _ else _
      rw [if_pos hc]
      obtain ⟨yd, e3, hf2⟩ := Option.bind_eq_some_iff.mp hf2
      refine ⟨G1, H1, G5, ρ3, yd, good4.step s5, e3, fun v H6 G6 s6 r6 => ?_⟩
      have s36 := s35.trans s6
      have hD6 : H6 D = some (.lst us) := s36.hh.get hD2
      have gD6 : G6 D = none := (s36.new D hne).trans gD
      refine ⟨us, ds.length - (i + 1), hD6, ?_, by omega, rfl, hlt, G6, ρ3, acc ++ [yd], us ++ [v], sg.trans s36.gg, gD6, upd_same, (rs.mono s36.gg).snoc r6, by rw [List.length_append, List.length_singleton]; omega, now3, ((good4.step s5).step s6).wrX now3 gD6 hD (s6.hh.tb.over hD6), hf2⟩
      rw [← rs.length]
      exact lim_ok (Nat.le_trans hal (Nat.le_trans hi hlen))
    · rename_i hc
      show if c = true then _ else _
      rw [if_neg hc]
      exact ⟨ds.length - (i + 1), by omega, rfl, hlt, G5, ρ3, acc, us, sg.trans s35.gg, (s35.new D hne).trans gD, s35.hh.get hD2, rs.mono s35.gg, by omega, now3, good4.step s5, hf2⟩
  · have e : i = ds.length := by omega
    subst e
    rw [List.drop_length] at hf2
    cases hf2
    exact .inl ⟨y2 (Nat.le_refl _), k D us H2 G2 (s1.trans good2.st) (s1.hh.free hD) hD2 gD rs⟩
noncomputable def tOK : Tf := fun _ => some true
noncomputable def PFIfs (X : Cx) (ifs : List Expr) (t : Tf) : Prop := PIfs X ifs (tFT X.K t)
theorem pifs_nilF {X : Cx} : PFIfs X [] tOK := fun pins s σ H Q I h => pifs_nil pins s σ H Q I (by
  obtain ⟨G0, H0, G, ρ, b, good, hf, k⟩ := h
  cases hf
  exact k H G (.refl good.sub))
theorem pl_comp (sc : Scope) (N tgs frees : List Str) (js : List Nat) {scope : Scope} {gt : Gf} {t : Tf} {el : Ef} (hgo : GfOk gt) (hp : PFI X tg iter gi) (hc : X.calm = true) (hsc : X.env.scope = sc) (hNN : X.N = N) (hok : compOk sc scope N tgs frees js = true)
    (hg : ∀ C s₀ H₀ fp, PFG (compCx X (tgs ++ frees) scope C s₀ H₀ fp) tg gt) (hi : ∀ C s₀ H₀ fp, PFIfs (compCx X (tgs ++ frees) scope C s₀ H₀ fp) ifs t) (he : ∀ C s₀ H₀ fp, PF (compCx X (tgs ++ frees) scope C s₀ H₀ fp) elt el)
    (hs : ∀ x, foldedSetIterable iter X.env x = pure x := by intro _; rfl) :
    PFr X (.ListComp elt [⟨tg, iter, ifs, 0⟩] scope pos) (lComp gi tgs.length js gt t el) :=
  PE.toR (pe_comp (g := tFG X.K gt) (tc := tFT X.K t) (te := tF X.K el) sc tgs frees js hp hc hsc (by rw [hNN]; exact hok) hg hi he hs) fun σ H Q h => comp_imp hgo h
end
end L2

namespace L2
open PySem PySem.Spec PyProof.Rows
section
variable {X : Cx} {a b c e tg elt iter : Expr} {es ifs : List Expr} {fa fb fc : Ef} {ga gi : Lf} {ta tc : Tf} {pos : Pos} {st : Stmt} {sts rest : List Stmt} {f g : Sf}

noncomputable def sApp (i : Nat) (f : Ef) : Sf := fun ρ => (f ρ).bind fun d => match ρ[i]? with | some (.ow ds) => if ds.length < lim then some (.nx (ρ.set i (.ow (ds ++ [d])))) else none | _ => none
theorem ps_app (i : Nat) (ht : PE X c (tBM X.K "list" rAppend (tVar i) (tCons (tF X.K fa) tNil))) (hs : swapsWith c none pos.line X.env = pure false := by rfl) : PFS X (.Expr c pos) (sApp i fa) := by
  refine PS.to (ps_expr ht hs) ?_
  rintro D σ H ⟨G0, H0, G, ρ, o, good, hf, k⟩
  unfold sApp at hf
  obtain ⟨d, h1, hf⟩ := Option.bind_eq_some_iff.mp hf
  split at hf
  · rename_i ds hi
    split at hf
    · rename_i hl
      cases hf
      obtain ⟨p, vs, e1, e2, e3, e4, e5⟩ := good.addr hi
      refine ⟨.ref p, e1, .inl ⟨rfl, vs, .of e2⟩, G0, H0, G, ρ, d, good, h1, fun v H1 G1 s1 r1 => ?_⟩
      have good1 := good.step s1
      obtain ⟨p', vs', f1, f2, f3, f4, f5⟩ := good1.addr hi
      rw [e1] at f1; cases f1
      exact ⟨p, vs', v, rfl, rfl, f2, by rw [← f5.length]; exact lim_ok (Nat.le_of_lt hl), k σ _ G1 s1.gg (good1.wr hi e1 (f5.snoc r1))⟩
    · cases hf
  · cases hf
noncomputable def lenD : D → Option D
  | .tup ds => some (.int ds.length)
  | .lst ds => some (.int ds.length)
  | .str z => if z.length ≤ lim then some (.int z.length) else none
  | _ => none
noncomputable def eLen (f : Ef) : Ef := fun ρ => (f ρ).bind lenD
theorem pf_len {p : Pos} (hg : Gl X "len") (hm : X.mg "len" = none) (h : PF X a fa) (hs : starEach [a] X.env = [(false, eval a X.env)] := by rfl) : PF X (.Call (.Name "len" p) [a] [] pos) (eLen fa) := by
  refine PE.to (pe_callB (call_len_seq.or call_len_str) hg hm PySem.boot_len (pa_cons h pa_nil (by rw [hs]; rfl)) (by decide) (by decide) (by rw [hs]; rfl) (by rfl)) ?_
  rintro σ H Q ⟨G0, H0, G, ρ, d, good, hf, k⟩
  unfold eLen at hf
  obtain ⟨x, h1, hf⟩ := Option.bind_eq_some_iff.mp hf
  refine ⟨G0, H0, G, ρ, _, good, h1, fun v H1 G1 s1 r1 => ?_⟩
  unfold lenD at hf
  split at hf
  · cases hf
    obtain ⟨p, vs, rfl, q, rs⟩ := rep_tup.mp r1
    exact .inl ⟨p, vs, rfl, .inr (s1.sub.tup q), k _ _ G1 s1 (rep_int.mpr (by rw [rs.length]))⟩
  · cases hf
    obtain ⟨p, vs, rfl, q, rs⟩ := rep_lst.mp r1
    exact .inl ⟨p, vs, rfl, .inl (s1.sub.seq q), k _ _ G1 s1 (rep_int.mpr (by rw [rs.length]))⟩
  · split at hf
    · rename_i hz
      cases hf
      exact .inr ⟨_, by rw [rep_str.mp r1], Nat.le_of_lt (lim_ok hz), k _ _ G1 s1 (rep_int.mpr rfl)⟩
    · cases hf
  · cases hf
noncomputable def itemsD : D → Option (List D) | .lst ds => some ds | .tup ds => some ds | _ => none
noncomputable def lListOf (f : Ef) : Lf := fun ρ => (f ρ).bind itemsD
theorem pl_listOf {p : Pos} (hg : Gl X "list") (hm : X.mg "list" = none) (h : PF X a fa) (hs : starEach [a] X.env = [(false, eval a X.env)] := by rfl) : PFr X (.Call (.Name "list" p) [a] [] pos) (lListOf fa) := by
  refine PE.toR (pe_callTy call_list_of hg hm (by rfl) (pa_cons h pa_nil (by rw [hs]; rfl)) (by decide) (by decide) (by rw [hs]; rfl) (by rfl)) ?_
  rintro σ H Q ⟨G0, H0, G, ρ, d, good, hf, k⟩
  unfold lListOf at hf
  obtain ⟨x, h1, hf⟩ := Option.bind_eq_some_iff.mp hf
  refine ⟨G0, H0, G, ρ, _, good, h1, fun v H1 G1 s1 r1 => ?_⟩
  unfold itemsD at hf
  split at hf
  · cases hf
    obtain ⟨p, vs, rfl, q, rs⟩ := rep_lst.mp r1
    exact ⟨p, vs, rfl, .inl (s1.sub.seq q), fun l hl => k l vs _ G1 (s1.trans (Step.own s1.sub hl)) (s1.hh.free hl) upd_same (s1.sub.free hl) rs⟩
  · cases hf
    obtain ⟨p, vs, rfl, q, rs⟩ := rep_tup.mp r1
    exact ⟨p, vs, rfl, .inr (s1.sub.tup q), fun l hl => k l vs _ G1 (s1.trans (Step.own s1.sub hl)) (s1.hh.free hl) upd_same (s1.sub.free hl) rs⟩
  · cases hf
end
end L2

namespace L2
open PySem PySem.Spec PyProof.Rows

noncomputable def spF (K : PySem.W.Frag) (n : Nat) (f : List D → Option D) : Sp := fun vs H Q _ => ∃ G ds d, SameT G H ∧ Reps K G ds vs ∧ ds.length = n ∧ f ds = some d ∧ ∀ v H' G', Step G H G' H' → Rep K G' d v → Q v H'
noncomputable def spL (K : PySem.W.Frag) (n : Nat) (f : List D → Option (List D)) : Sp := fun vs H Q _ => ∃ G ds es, SameT G H ∧ Reps K G ds vs ∧ ds.length = n ∧ f ds = some es ∧ ∀ a us H' G', Step G H G' H' → H a = none → H' a = some (.lst us) → G' a = none → Reps K G' es us → Q (.ref a) H'
noncomputable def startB (N : Nat) (ds : List D) : List B := ds.map .fz ++ List.replicate (N - ds.length) .no
noncomputable def outD : Out → Option D
  | .nx _ => some .non
  | .rt d => some d
  | .rl ds => some (.lst ds)
  | _ => none
noncomputable def outL : Out → Option (List D)
  | .rl ds => some ds
  | _ => none
noncomputable def fnF (N : Nat) (body : Sf) (ds : List D) : Option D := (body (startB N ds)).bind outD
noncomputable def fnL (N : Nat) (body : Sf) (ds : List D) : Option (List D) := (body (startB N ds)).bind outL
theorem good_start {K : PySem.W.Frag} {G H : Hp} {N : List Str} {ds : List D} {vs : List V} (s : SameT G H) (r : Reps K G ds vs) : Good K G H G H (start N vs) (startB N.length ds) := by
  refine ⟨.refl s, ?_, fun i j a es es' h1 => ?_⟩
  · unfold start startB
    rw [r.length]
    have rep : ∀ m : Nat, Paired (RB K H G H) (List.replicate m (none : Option V)) (List.replicate m B.no) := fun m => by
      induction m with
      | zero => exact .nil
      | succ n ih => rw [List.replicate_succ, List.replicate_succ]; exact .cons .no ih
    have key : ∀ (ds : List D) (vs : List V) (l : List (Option V)) (q : List B), Reps K G ds vs → Paired (RB K H G H) l q → Paired (RB K H G H) (vs.map some ++ l) (ds.map .fz ++ q) := by
      intro ds
      induction ds with
      | nil => intro vs l q h p; rw [reps_nil] at h; subst h; exact p
      | cons d r ih =>
        intro vs l q h p
        obtain ⟨v, vr, rfl, h1, h2⟩ := reps_cons.mp h
        exact .cons (.fz h1) (ih vr l q h2 p)
    exact key ds vs _ _ r (rep _)
  · unfold startB at h1
    by_cases hi : i < ds.length
    · rw [List.getElem?_append_left (by simpa using hi), List.getElem?_map] at h1
      obtain ⟨k, _, h1⟩ := Option.map_eq_some_iff.mp h1
      cases h1
    · rw [List.getElem?_append_right (by simpa using hi), List.getElem?_replicate] at h1
      split at h1 <;> cases h1
section
variable {P : Program} {w : World} {K : PySem.W.Frag} {mg : Str → Option Value} {base : Heap} {x qual : Str} {st : Stmt} {f : Addr} {fd : FuncData} {N ps : List Str} {k : Nat}
theorem ok_fn {body : Sf} (F : Fun K x qual st f fd) (S : FnScope N ps (defScope st))
    (hb : ∀ (cdv : Value) (A : Around) (outer : List Env) (s : Shared) (H : Hp) (E : XK), Room k (A.deeper (envOfC qual (defScope st) s.heap.objs.size f cdv)) → PFSs (cxOf CX0 P w K mg base N qual (defScope st) f cdv A outer s H E).nox (defBody st) body) :
    FnOk P w K mg base CX0 (k + 1) f fd ps (spF K ps.length (fnF N.length body)) := by
  refine F.ok S (fun vs H Q E h => ?_) (fun cdv A outer s H vs Q E hr h => ⟨_, hb cdv A outer s H E hr, ?_⟩)
  · obtain ⟨G, ds, d, sub, rs, hl, _⟩ := h
    rw [← rs.length]; exact hl
  · obtain ⟨G, ds, d, sub, rs, hl, hf, k⟩ := h
    unfold fnF at hf
    obtain ⟨o, h1, h2⟩ := Option.bind_eq_some_iff.mp hf
    refine ⟨G, H, G, _, o, good_start sub rs, h1, ?_⟩
    cases o with
    | nx ρ => cases h2; exact fun σ' H' G' s' g' => k .non H' G' g'.st (rep_non.mpr rfl)
    | rt e => cases h2; exact fun v H' G' s' r => k v H' G' s' r
    | rl es => cases h2; exact fun p us H' G' s' hn hp gp r => k _ H' (upd G' p (.lst us)) (s'.frz hn hp gp) (rep_lst.mpr ⟨p, us, rfl, .of upd_same, r.mono (SameT.new s'.sub.ta gp)⟩)
    | bk ρ => cases h2
    | ct ρ => cases h2
theorem ok_fnL {body : Sf} (F : Fun K x qual st f fd) (S : FnScope N ps (defScope st))
    (hb : ∀ (cdv : Value) (A : Around) (outer : List Env) (s : Shared) (H : Hp) (E : XK), Room k (A.deeper (envOfC qual (defScope st) s.heap.objs.size f cdv)) → PFSs (cxOf CX0 P w K mg base N qual (defScope st) f cdv A outer s H E).nox (defBody st) body) :
    FnOk P w K mg base CX0 (k + 1) f fd ps (spL K ps.length (fnL N.length body)) := by
  refine F.ok S (fun vs H Q E h => ?_) (fun cdv A outer s H vs Q E hr h => ⟨_, hb cdv A outer s H E hr, ?_⟩)
  · obtain ⟨G, ds, d, sub, rs, hl, _⟩ := h
    rw [← rs.length]; exact hl
  · obtain ⟨G, ds, d, sub, rs, hl, hf, k⟩ := h
    unfold fnL at hf
    obtain ⟨o, h1, h2⟩ := Option.bind_eq_some_iff.mp hf
    refine ⟨G, H, G, _, o, good_start sub rs, h1, ?_⟩
    cases o with
    | rl es => cases h2; exact fun p us H' G' s' hn hp gp r => k p us H' G' s' hn hp gp r
    | _ => cases h2
end

section
variable {X : Cx} {a b c e tg elt iter : Expr} {es ifs : List Expr} {fa fb fc : Ef} {ga gi : Lf} {ta tc : Tf} {pos p : Pos} {st : Stmt} {sts rest : List Stmt} {f g : Sf}
noncomputable def eCall (n : Nat) (f : List D → Option D) (g : Lf) : Ef := fun ρ => (g ρ).bind fun ds => if ds.length = n then f ds else none
theorem pf_call {k n : Nat} {fad : Addr} {fd : FuncData} {ps : List Str} {x : Str} {fD : List D → Option D} (F : FnOk X.prog X.w X.K X.mg X.base CX0 k fad fd ps (spF X.K n fD)) (hr : Room k X.A) (hm : X.mg x = some (.ref fad)) (hk : PySem.W.keepIn X.K (.ref fad) = true) (hb : Binds X.K fd ps []) (hg : Gl X x)
    (ha : PFA X (e :: es) ga) (hdb : (x == ("__debug__" : Str)) = false := by decide) (he : starEach (e :: es) X.env = (false, eval e X.env) :: starEach es X.env := by rfl) (hpl : (backTo pos (starEach es X.env)).any (·.1) = false := by rfl) :
    PF X (.Call (.Name x p) (e :: es) [] pos) (eCall n fD ga) := by
  refine PE.to (pe_call (E := E0) F hr hg hm hk hb .nil pass0 ha hdb he hpl) ?_
  rintro σ H Q ⟨G0, H0, G, ρ, d, good, hf, k⟩
  unfold eCall at hf
  obtain ⟨ds, h1, hf⟩ := Option.bind_eq_some_iff.mp hf
  split at hf
  · rename_i hl
    refine ⟨G0, H0, G, ρ, _, good, h1, fun vs H1 G1 s1 r1 => ?_⟩
    show spF X.K n fD (vs ++ []) H1 Q E0
    rw [List.append_nil]
    exact ⟨G1, ds, d, s1.sub, r1, hl, hf, fun v H' G' s r => k v H' G' (s1.trans s) r⟩
  · cases hf
noncomputable def lCall (n : Nat) (f : List D → Option (List D)) (g : Lf) : Lf := fun ρ => (g ρ).bind fun ds => if ds.length = n then f ds else none
theorem pl_call {k n : Nat} {fad : Addr} {fd : FuncData} {ps : List Str} {x : Str} {fD : List D → Option (List D)} (F : FnOk X.prog X.w X.K X.mg X.base CX0 k fad fd ps (spL X.K n fD)) (hr : Room k X.A) (hm : X.mg x = some (.ref fad)) (hk : PySem.W.keepIn X.K (.ref fad) = true) (hb : Binds X.K fd ps []) (hg : Gl X x)
    (ha : PFA X (e :: es) ga) (hdb : (x == ("__debug__" : Str)) = false := by decide) (he : starEach (e :: es) X.env = (false, eval e X.env) :: starEach es X.env := by rfl) (hpl : (backTo pos (starEach es X.env)).any (·.1) = false := by rfl) :
    PFr X (.Call (.Name x p) (e :: es) [] pos) (lCall n fD ga) := by
  refine PE.toR (pe_call (E := E0) F hr hg hm hk hb .nil pass0 ha hdb he hpl) ?_
  rintro σ H Q ⟨G0, H0, G, ρ, d, good, hf, k⟩
  unfold lCall at hf
  obtain ⟨ds, h1, hf⟩ := Option.bind_eq_some_iff.mp hf
  split at hf
  · rename_i hl
    refine ⟨G0, H0, G, ρ, _, good, h1, fun vs H1 G1 s1 r1 => ?_⟩
    show spL X.K n fD (vs ++ []) H1 Q E0
    rw [List.append_nil]
    exact ⟨G1, ds, d, s1.sub, r1, hl, hf, fun p us H' G' s hn hp gp r => k p us H' G' (s1.trans s) (s1.hh.free hn) hp gp r⟩
  · cases hf
noncomputable def whileF (t : Tf) (body : Sf) : Nat → Sf
  | 0, _ => none
  | n + 1, ρ => (t ρ).bind fun c => if c = true then (body ρ).bind fun o => match o with
      | .nx ρ2 => whileF t body n ρ2
      | .ct ρ2 => whileF t body n ρ2
      | .bk ρ2 => some (.nx ρ2)
      | o => some o
    else some (.nx ρ)
theorem ps_whileF (n : Nat) {body : List Stmt} {fb : Sf} (hp : PassesOwn (model X.prog X.w) X.A X.env X.xe) (hc : PFT X c tc) (hb : PFSs X body fb) : PFS X (.While c body [] pos) (whileF tc fb n) := by
  refine PS.to (ps_while hp hc hb) ?_
  rintro D σ H ⟨G0, H0, G, ρ, o, good, hf, k⟩
  refine ⟨fun m σ H => ∃ G2 ρ2, SameT G G2 ∧ Good X.K G0 H0 G2 H σ ρ2 ∧ whileF tc fb m ρ2 = some o, ⟨n, G, ρ, SameT.refl good.sub.ta, good, hf⟩, ?_⟩
  rintro m σ2 H2 ⟨G2, ρ2, sg, good2, hf2⟩
  cases m with
  | zero => cases hf2
  | succ m =>
    unfold whileF at hf2
    obtain ⟨c', h1, hf2⟩ := Option.bind_eq_some_iff.mp hf2
    refine ⟨G0, H0, G2, ρ2, c', good2, h1, fun H3 G3 s3 => ?_⟩
    cases c' with
    | true =>
      rw [if_pos rfl] at hf2
      obtain ⟨o1, e2, hf2⟩ := Option.bind_eq_some_iff.mp hf2
      refine ⟨fun σ' H' => ∃ G2 ρ2, SameT G G2 ∧ Good X.K G0 H0 G2 H' σ' ρ2 ∧ whileF tc fb m ρ2 = some o, fun σ' H' h => ⟨m, Nat.lt_succ_self _, h⟩, ?_⟩
      refine ⟨G0, H0, G3, ρ2, o1, good2.step s3, e2, ?_⟩
      have sg3 : SameT G G3 := sg.trans s3.gg
      cases o1 with
      | nx ρ5 => exact fun σ5 H5 G5 s5 good5 => ⟨G5, ρ5, sg3.trans s5, good5, hf2⟩
      | ct ρ5 => exact fun σ5 H5 G5 s5 good5 => ⟨G5, ρ5, sg3.trans s5, good5, hf2⟩
      | bk ρ5 => cases hf2; exact fun σ5 H5 G5 s5 good5 => k σ5 H5 G5 (sg3.trans s5) good5
      | rt d => cases hf2; exact k
      | rl d => cases hf2; exact k
    | false =>
      rw [if_neg (by decide)] at hf2
      cases hf2
      exact k σ2 H3 G3 (sg.trans s3.gg) (good2.step s3)

noncomputable def tyD : D → Option String
  | .non => some "NoneType"
  | .bl _ => some "bool"
  | .int _ => some "int"
  | .str _ => some "str"
  | .tup _ => some "tuple"
  | .lst _ => some "list"
  | _ => none
theorem isi_D {pins : List (Addr × Obj)} {σ : St} {H G : Hp} {s : Shared} {A : Around} {E : Value → Shared → Prop} {Q : Value → Shared → Prop} {d : D} {v : V} {u cl : Value} {t : String} {k : Bool} (I : Inv X pins σ H s) (rv : RelV v u) (sub : SameT G H) (r : Rep X.K G d v) (ht : tyD d = some t)
    (e : PySem.W.kitOne X.K (.type t) cl = some k) (h : ∀ tk, Q (.bool k) { s with toks := tk }) : wpAny (model X.prog X.w) A (call (.builtin "isinstance") [u, cl]) Q E s := by
  cases d with
  | non => cases ht; rw [rep_non] at r; subst r; cases rv; exact PySem.W.kia_one PySem.W.kitx_none I.kIn True.intro e (fun z => nomatch z) h
  | bl y => cases ht; rw [rep_bl] at r; subst r; cases rv; exact PySem.W.kia_one PySem.W.kitx_bool I.kIn True.intro e (fun z => nomatch z) h
  | int i => cases ht; rw [rep_int] at r; subst r; obtain ⟨t, rfl⟩ := rv; exact PySem.W.kia_one PySem.W.kitx_int I.kIn True.intro e (fun z => nomatch z) h
  | str i => cases ht; rw [rep_str] at r; subst r; obtain ⟨t, rfl⟩ := rv; exact PySem.W.kia_one PySem.W.kitx_str I.kIn True.intro e (fun z => nomatch z) h
  | tup ds =>
    cases ht
    obtain ⟨p, vs, rfl, q, _⟩ := rep_tup.mp r
    cases rv
    obtain ⟨its, _, ⟨o, h1, h2, _⟩, _⟩ := I.tuple (sub.tup q)
    exact PySem.W.kia_one PySem.W.kitx_tuple I.kIn ⟨o, h1, h2⟩ e (fun z => nomatch z) h
  | lst ds =>
    cases ht
    obtain ⟨p, vs, rfl, q, _⟩ := rep_lst.mp r
    cases rv
    obtain ⟨its, _, ⟨o, n, h1, h2, _⟩, _⟩ := I.list (sub.seq q)
    exact PySem.W.kia_one PySem.W.kitx_list I.kIn ⟨o, h1, h2⟩ e (fun z => nomatch z) h
  | obj C ns ds => cases ht
  | exc C ns ds => cases ht
theorem kit_int (K : PySem.W.Frag) : ∀ t : String, t ∈ ["NoneType", "bool", "int", "str", "tuple", "list"] → PySem.W.kitOne K (.type t) (.type "int") = some (decide (t = "bool" ∨ t = "int")) := by
  intro t ht
  simp only [List.mem_cons, List.not_mem_nil, or_false] at ht
  rcases ht with rfl | rfl | rfl | rfl | rfl | rfl <;> kernel_rfl
theorem kit_bool (K : PySem.W.Frag) : ∀ t : String, t ∈ ["NoneType", "bool", "int", "str", "tuple", "list"] → PySem.W.kitOne K (.type t) (.type "bool") = some (decide (t = "bool")) := by
  intro t ht
  simp only [List.mem_cons, List.not_mem_nil, or_false] at ht
  rcases ht with rfl | rfl | rfl | rfl | rfl | rfl <;> kernel_rfl
theorem kit_tuple (K : PySem.W.Frag) : ∀ t : String, t ∈ ["NoneType", "bool", "int", "str", "tuple", "list"] → PySem.W.kitOne K (.type t) (.type "tuple") = some (decide (t = "tuple")) := by
  intro t ht
  simp only [List.mem_cons, List.not_mem_nil, or_false] at ht
  rcases ht with rfl | rfl | rfl | rfl | rfl | rfl <;> kernel_rfl
theorem kit_list (K : PySem.W.Frag) : ∀ t : String, t ∈ ["NoneType", "bool", "int", "str", "tuple", "list"] → PySem.W.kitOne K (.type t) (.type "list") = some (decide (t = "list")) := by
  intro t ht
  simp only [List.mem_cons, List.not_mem_nil, or_false] at ht
  rcases ht with rfl | rfl | rfl | rfl | rfl | rfl <;> kernel_rfl
theorem tyD_mem {d : D} {t : String} (h : tyD d = some t) : t ∈ ["NoneType", "bool", "int", "str", "tuple", "list"] := by
  cases d <;> cases h <;> simp
noncomputable def isTy (p : D → Bool) (f : Ef) : Ef := fun ρ => (f ρ).bind fun d => match d with | .obj _ _ _ => none | .exc _ _ _ => none | d => some (.bl (p d))
noncomputable def isInt : D → Bool | .int _ => true | .bl _ => true | _ => false
noncomputable def isBool : D → Bool | .bl _ => true | _ => false
noncomputable def isStr : D → Bool | .str _ => true | _ => false
noncomputable def isTup : D → Bool | .tup _ => true | _ => false
noncomputable def isLst : D → Bool | .lst _ => true | _ => false
theorem pf_isi {T : Str} {TT : String} {q : D → Bool} {p1 : Pos} (hT : bootBuiltins T = some (.type TT)) (hq : ∀ (K : PySem.W.Frag) d t, tyD d = some t → PySem.W.kitOne K (.type t) (.type TT) = some (q d)) (hg : Gl X "isinstance") (hm : X.mg "isinstance" = none) (hgT : Gl X T) (hmT : X.mg T = none) (h : PF X a fa)
    (hn : T ≠ "__name__" := by decide) (hd : (T == ("__debug__" : Str)) = false := by decide) (hs : starEach [a, .Name T p1] X.env = [(false, eval a X.env), (false, eval (.Name T p1) X.env)] := by rfl) : PF X (.Call (.Name "isinstance" p) [a, .Name T p1] [] pos) (isTy q fa) := by
  have hcall : CallR X (.builtin "isinstance") (fun xs H Q => ∃ x G d, xs = [x, .ty TT] ∧ SameT G H ∧ Rep X.K G d x ∧ (tyD d).isSome = true ∧ Q (.bl (q d)) H) := by
    intro pins s σ H xs us Q I r hh
    obtain ⟨x, G, d, rfl, sub, rx, ht, qq⟩ := hh
    obtain ⟨u, u', rfl, ru, ru'⟩ := vals2 r
    cases ru'
    obtain ⟨t, ht⟩ := Option.isSome_iff_exists.mp ht
    exact isi_D I ru sub rx ht (hq _ d t ht) fun tk => ⟨.bl (q d), H, I.tok tk, rfl, qq⟩
  refine PE.to (pe_callB hcall hg hm (by rfl) (pa_cons h (pa_cons (pe_bltn (v := .ty TT) hgT hmT hT rfl hn hd) pa_nil) (by rw [hs]; rfl)) (by decide) (by decide) (by rw [hs]; rfl) (by rfl)) ?_
  rintro σ H Q ⟨G0, H0, G, ρ, d, good, hf, k⟩
  unfold isTy at hf
  obtain ⟨x, h1, hf⟩ := Option.bind_eq_some_iff.mp hf
  refine ⟨G0, H0, G, ρ, _, good, h1, fun v H1 G1 s1 r1 => ?_⟩
  have hx : (tyD x).isSome = true ∧ d = .bl (q x) := by
    cases x <;> first
      | (cases hf; exact ⟨rfl, rfl⟩)
      | cases hf
  obtain ⟨hx, rfl⟩ := hx
  exact ⟨v, G1, x, rfl, s1.sub, r1, hx, k _ _ G1 s1 (rep_bl.mpr rfl)⟩
theorem hq_int (K : PySem.W.Frag) (d : D) (t : String) (h : tyD d = some t) : PySem.W.kitOne K (.type t) (.type "int") = some (isInt d) := by
  rw [kit_int K t (tyD_mem h)]; cases d <;> cases h <;> simp [isInt, isBool, isStr, isTup, isLst]
theorem hq_bool (K : PySem.W.Frag) (d : D) (t : String) (h : tyD d = some t) : PySem.W.kitOne K (.type t) (.type "bool") = some (isBool d) := by
  rw [kit_bool K t (tyD_mem h)]; cases d <;> cases h <;> simp [isInt, isBool, isStr, isTup, isLst]
theorem hq_tup (K : PySem.W.Frag) (d : D) (t : String) (h : tyD d = some t) : PySem.W.kitOne K (.type t) (.type "tuple") = some (isTup d) := by
  rw [kit_tuple K t (tyD_mem h)]; cases d <;> cases h <;> simp [isInt, isBool, isStr, isTup, isLst]
theorem hq_lst (K : PySem.W.Frag) (d : D) (t : String) (h : tyD d = some t) : PySem.W.kitOne K (.type t) (.type "list") = some (isLst d) := by
  rw [kit_list K t (tyD_mem h)]; cases d <;> cases h <;> simp [isInt, isBool, isStr, isTup, isLst]

end
end L2

namespace L2
open PySem PySem.Spec PyProof.Rows

theorem Inv.turnedNew {X : Cx} {pins : List (Addr × Obj)} {σ : St} {H : Hp} {s : Shared} {h' : Heap} {t' : Nat} {fp : List Addr} {T : Addr} {o : HO} (I : Inv X pins σ H s) (k : ∀ b u, b ∉ fp → s.heap.get? b = some u → h'.get? b = some u)
    (hf : ∀ b ∈ fp, FpOk X pins H b) (hT : s.heap.objs.size ≤ T) (new : ObjOk X.prog X.w (upd H T o) h' T o) : Inv X pins σ (upd H T o) { s with heap := h', toks := t' } := by
  have fr : H T = none := I.hok.fresh hT
  have neT : ∀ b u, s.heap.get? b = some u → b ≠ T := fun b u e => Nat.ne_of_lt (Nat.lt_of_lt_of_le (Heap.lt_size e) hT)
  have nfp : ∀ b u, H b = some u → b ∉ fp := fun b u e z => by have := (hf b z).1; rw [e] at this; cases this
  refine I.step (g' := s.gens) (d' := s.drawn) (ch := fp) (fun b hb => ⟨(hf b hb).2.2.2.1, (hf b hb).2.1, (hf b hb).2.2.2.2.1, (hf b hb).2.2.2.2.2⟩) (fun b u _ _ hc e _ => k b u hc e)
    (fun b u _ _ hc e _ => ⟨u.slots, k b u hc e⟩) (fun b u _ e n => by rw [upd_ne (neT b u e)]; exact n) (fun b u hc e => ⟨u, k b u hc e⟩)
    (fun b xs e => by rw [upd_ne (ne_of_none e fr)]; exact e) (fun b u x e => by rw [upd_ne (ne_of_none e fr)]; exact e) (fun b ps e => ⟨#[], by rw [upd_ne (ne_of_none e fr), e]; simp⟩) (fun m hm => ?_) (fun b u e => ?_) I.bare
  · obtain ⟨ob, es, ep, ho, r⟩ := hm
    exact ⟨ob, es, ep, k _ ob (fun z => (hf _ z).2.1 rfl) ho, r⟩
  · by_cases hb : b = T
    · subst hb; rw [upd_same] at e; cases e; exact new
    · rw [upd_ne hb] at e
      refine (I.hok b u e).stay (fun c v hc q => k c v ?_ q) (fun c q => by rw [upd_ne (ne_of_none q fr)]; exact q) fun c xs q => by rw [upd_ne (ne_of_none q fr)]; exact q
      rcases hc with z | z
      · rw [z]; exact nfp b u e
      · exact nfp c _ z
theorem Inv.turnedL {X : Cx} {pins : List (Addr × Obj)} {σ : St} {H : Hp} {s : Shared} {h' : Heap} {t' : Nat} {fp : List Addr} (I : Inv X pins σ H s) (k : ∀ b u, b ∉ fp → s.heap.get? b = some u → h'.get? b = some u)
    (hf : ∀ b ∈ fp, FpOk X pins H b) : Inv X pins σ H { s with heap := h', toks := t' } := by
  have nfp : ∀ b u, H b = some u → b ∉ fp := fun b u e z => by have := (hf b z).1; rw [e] at this; cases this
  refine I.step (g' := s.gens) (d' := s.drawn) (ch := fp) (fun b hb => ⟨(hf b hb).2.2.2.1, (hf b hb).2.1, (hf b hb).2.2.2.2.1, (hf b hb).2.2.2.2.2⟩) (fun b u _ _ hc e _ => k b u hc e)
    (fun b u _ _ hc e _ => ⟨u.slots, k b u hc e⟩) (fun b u _ e n => n) (fun b u hc e => ⟨u, k b u hc e⟩) (fun b xs e => e) (fun b u x e => e) (fun b ps e => ⟨#[], by rw [e]; simp⟩) (fun m hm => ?_) (fun b u e => ?_) I.bare
  · obtain ⟨ob, es, ep, ho, r⟩ := hm
    exact ⟨ob, es, ep, k _ ob (fun z => (hf _ z).2.1 rfl) ho, r⟩
  · refine (I.hok b u e).stay (fun c v hc q => k c v ?_ q) (fun c q => q) fun c xs q => q
    rcases hc with z | z
    · rw [z]; exact nfp b u e
    · exact nfp c _ z

noncomputable def Ite (K : PySem.W.Frag) (a : Addr) : It :=
  ⟨fun i H => ∃ xs x, SqL K H a xs ∧ xs[i]? = some x, fun i H x H' => ∃ p v, H p = none ∧ x = .ref p ∧ H' = upd H p (.tup [.int (i : Nat), v]) ∧ ∀ xs, SqL K H a xs → xs[i]? = some v, fun i H => ∃ xs, SqL K H a xs ∧ xs.length ≤ i⟩
theorem turn_enum {P : Program} {w : World} {K : PySem.W.Frag} {elts : List Expr} {k : Nat} {pos : Pos} (a e it : Addr) (hei : e ≠ it) : Turn P w K (.Tuple elts k pos) (Ite K a) [e, it] e (fun i h => (∃ old, IsEnum h e it (i : Nat) old) ∧ h.IsListIter it a i) where
  mem := by simp
  obj := fun i h st b hb => by
    obtain ⟨⟨old, he⟩, o, h1, h2, h3⟩ := st
    rcases List.mem_cons.mp hb with z | z
    · subst z; exact ⟨_, he, fun v q => nomatch q⟩
    · rcases List.mem_cons.mp z with z | z
      · subst z; exact ⟨o, h1, fun v q => by rw [h3] at q; cases q⟩
      · cases z
  keep := fun i h h' st kk => by
    obtain ⟨⟨old, he⟩, hl⟩ := st
    exact ⟨⟨old, kk e (by simp) _ he⟩, hl.at fun o q => kk it (by simp) o q⟩
  item := by
    intro X hP hw hK hc i pins s σ H E I hf st hg
    subst hP hw hK
    obtain ⟨xs, x, hq, hx⟩ := hg
    obtain ⟨its, rv, p, hz⟩ := I.list hq
    obtain ⟨u, hu, ru⟩ := rv.get hx
    obtain ⟨⟨old, he⟩, hit⟩ := st
    refine wpAny_pyNext_enum_item he hit p.isList (x := u) (by simpa using hu) hei fun h1 ho hit1 hT hsz hk => ?_
    have I1 : Inv X pins σ (upd H s.heap.objs.size (.tup [.int (i : Nat), x])) { s with heap := h1, toks := s.toks + 1 } := I.turnedNew (fun b o hb e => hk b o (fun z => hb (by simp [z])) (fun z => hb (by simp [z])) e) hf (Nat.le_refl _)
      ⟨by show 2 ≤ sizeLine; exact Nat.le_of_lt (lim_ok (by decide)), [.int (i : Nat) s.toks, u], .cons ⟨_, rfl⟩ (.cons ru .nil), ⟨_, hT, rfl, _, rfl⟩⟩
    refine ⟨_, rfl, wpAny_letOwnedTupleGo_enum ho fun h2 he2 hs2 => ?_⟩
    have hs2 : Heap.SameBut e h1 h2 := hs2
    have neT : ∀ b ∈ [e, it], b ≠ s.heap.objs.size := fun b hb z => by
      obtain ⟨o, h1, h2, h3⟩ := hit
      rcases List.mem_cons.mp hb with q | q
      · exact absurd (Heap.lt_size he) (by rw [← q, z]; exact Nat.lt_irrefl _)
      · rcases List.mem_cons.mp q with q | q
        · exact absurd (Heap.lt_size h1) (by rw [← q, z]; exact Nat.lt_irrefl _)
        · cases q
    have hf1 : ∀ b ∈ [e, it], FpOk X pins (upd H s.heap.objs.size (.tup [.int (i : Nat), x])) b := fun b hb => ⟨by rw [upd_ne (neT b hb)]; exact (hf b hb).1, (hf b hb).2⟩
    have I2 := I1.turnedL (h' := h2) (t' := s.toks + 1) (fp := [e, it]) (fun b o hb q => (hs2.2 b (fun z => hb (by simp [z]))).trans q) hf1
    refine ⟨.ref s.heap.objs.size, _, I2, rfl, ⟨s.heap.objs.size, x, I.fresh, rfl, rfl, fun ys hy => by rw [I.list_inj hy hq]; exact hx⟩, ⟨⟨_, by simpa using he2⟩, hit1.at fun o q => (hs2.2 it hei.symm).trans q⟩, fun b hb => (hf1 b hb).1⟩
  done := by
    intro X hP hw hK hc i pins s σ H E I hf st hg
    subst hP hw hK
    obtain ⟨xs, hq, hx⟩ := hg
    obtain ⟨its, rv, p, hz⟩ := I.list hq
    obtain ⟨⟨old, he⟩, hit⟩ := st
    have hl := rv.length
    exact wpAny_pyNext_enum_end (I.ok.hd hc) he hit p.isList (by simp; omega) fun h' eb => ⟨rfl, I.turnedL (t' := s.toks) (fp := [e, it]) (fun b o hb q => eb b o (fun z => hb (by simp [z])) q) hf⟩
  self := fun _ _ _ _ _ st h => wpAny_pyIter_enum st.1.choose_spec h
theorem yields_enum {K : PySem.W.Frag} {G : Hp} {a : Addr} {vs : List V} {ds : List D} (h : SqL K G a vs) (r : Reps K G ds vs) : Yields K (Ite K a) G (ds.zipIdx.map fun q => D.tup [.int (q.2 : Nat), q.1]) := by
  intro i G2 H2 s1 s2
  have q : SqL K H2 a vs := (s1.trans s2).seq h
  refine ⟨fun d hd => ?_, fun hi => ⟨vs, q, by rw [← r.length]; simpa using hi⟩⟩
  rw [List.getElem?_map, List.getElem?_zipIdx] at hd
  obtain ⟨⟨d0, j⟩, hd2, hd3⟩ := Option.map_eq_some_iff.mp hd
  obtain ⟨d1, hd1, e⟩ := Option.map_eq_some_iff.mp hd2
  cases e
  subst hd3
  obtain ⟨v, e, rv⟩ := r.get hd1
  refine ⟨⟨vs, v, q, e⟩, fun x H3 y => ?_⟩
  obtain ⟨p, u, hp, rfl, rfl, y⟩ := y
  have e2 := y vs q
  rw [e] at e2; cases e2
  have s3 := Step.laid (o := .tup [.int (i : Nat), v]) s2 hp
  refine ⟨_, s3, rep_tup.mpr ⟨p, _, rfl, .of upd_same, reps_cons.mpr ⟨_, _, rfl, rep_int.mpr (by simp), reps_cons.mpr ⟨_, _, rfl, (rv.mono s1).mono s3.gg, reps_nil.mpr rfl⟩⟩⟩⟩
section
variable {X : Cx} {a b c e tg elt iter : Expr} {es ifs : List Expr} {fa fb fc : Ef} {ga gb gi : Lf} {ta tc : Tf} {pos p : Pos} {st : Stmt}
noncomputable def numbered (ds : List D) : List D := ds.zipIdx.map fun q => D.tup [.int (q.2 : Nat), q.1]
noncomputable def iEnum (g : Lf) : Lf := fun ρ => (g ρ).map numbered
noncomputable def tSrc (K : PySem.W.Frag) (f : Lf) : TE := fun σ H Q => ∃ G0 H0 G ρ ds, Good K G0 H0 G H σ ρ ∧ f ρ = some ds ∧ ∀ a vs H' G', Step G H G' H' → SqL K G' a vs → Reps K G' ds vs → Q (.ref a) H'
noncomputable def PSrc (X : Cx) (e : Expr) (f : Lf) : Prop := PE X e (tSrc X.K f)
theorem src_r (h : PFr X e ga) : PSrc X e ga := fun pins s σ H Q I q => h pins s σ H Q I (by
  obtain ⟨G0, H0, G, ρ, ds, good, hf, k⟩ := q
  exact ⟨G0, H0, G, ρ, ds, good, hf, fun p vs H' G' s hn hp gp rs => k p vs H' (upd G' p (.lst vs)) (s.frz hn hp gp) (.of upd_same) (rs.mono (SameT.new s.sub.ta gp))⟩)
theorem src_l (h : PF X e fa) : PSrc X e (iL fa) := fun pins s σ H Q I q => h pins s σ H Q I (by
  obtain ⟨G0, H0, G, ρ, ds, good, hf, k⟩ := q
  unfold iL at hf
  obtain ⟨d, h1, hf⟩ := Option.bind_eq_some_iff.mp hf
  cases d with
  | lst es =>
    cases hf
    refine ⟨G0, H0, G, ρ, _, good, h1, fun x H1 G1 s1 r1 => ?_⟩
    obtain ⟨p, vs, rfl, q, rs⟩ := rep_lst.mp r1
    exact k p vs H1 G1 s1 q rs
  | _ => cases hf)
theorem pi_enum {elts : List Expr} {k : Nat} {pos' : Pos} (hg : Gl X "enumerate") (hm : X.mg "enumerate" = none) (h : PSrc X a ga) (hs : starEach [a] X.env = [(false, eval a X.env)] := by rfl) : PFI X (.Tuple elts k pos') (.Call (.Name "enumerate" p) [a] [] pos) (iEnum ga) := by
  intro pins s σ H R I q
  obtain ⟨G0, H0, G, ρ, ds, good, hf, kk⟩ := q
  unfold iEnum at hf
  obtain ⟨es, h1, rfl⟩ := Option.map_eq_some_iff.mp hf
  have h2 := pa_cons h pa_nil (by rw [hs]; rfl) pos pins s σ H (fun vs H' => ∃ a us G', vs = [.ref a] ∧ Step G H G' H' ∧ SqL X.K G' a us ∧ Reps X.K G' es us) I ⟨G0, H0, G, ρ, es, good, h1, fun a us H' G' s' hq rs => ⟨a, us, G', rfl, s', hq, rs⟩⟩
  refine Call_ (ld_blt I hg hm (by rfl) (PyProof.Rows.callWith_type1 (thn h2 fun us s1 ⟨vs, H1, I1, r1, l, ws, G1, e1, st1, hq, rs⟩ => ?_) hs rfl))
  subst e1
  obtain ⟨u, rfl, ru⟩ := vals1 r1
  cases ru
  obtain ⟨its, rv, pl, hz⟩ := I1.list (st1.sub.seq hq)
  refine call_enumerate_list pl.isList fun h' he hit hsz hk => ?_
  have I2 : Inv X pins σ H1 { s1 with heap := h' } := I1.kept (t' := s1.toks) hk
  refine wpAny_pyIter_enum he ?_
  refine ⟨_, [s1.heap.objs.size + 1, s1.heap.objs.size], _, _, H1, rfl, I2, turn_enum l _ _ (Nat.succ_ne_self _), ⟨⟨_, he⟩, hit⟩, fun b hb => ?_, kk _ H1 G1 st1 (yields_enum hq rs)⟩
  have hb' : s1.heap.objs.size ≤ b := by
    rcases List.mem_cons.mp hb with z | z
    · rw [z]; exact Nat.le_succ _
    · rcases List.mem_cons.mp z with z | z
      · exact Nat.le_of_eq z.symm
      · cases z
  exact I1.fpOk hb' (I1.hok.fresh hb')
noncomputable def lCat (f g : Lf) : Lf := fun ρ => (f ρ).bind fun xs => (g ρ).bind fun ys => okL (xs ++ ys)
noncomputable abbrev Of := List B → Option (Option Int)
noncomputable def tFO (K : PySem.W.Frag) (f : Of) : TO := fun σ H Q => ∃ G0 H0 G ρ o, Good K G0 H0 G H σ ρ ∧ f ρ = some o ∧ ∀ H' G', Step G H G' H' → Q o H'
noncomputable def PFO (X : Cx) (e : Option Expr) (f : Of) : Prop := PO X e (tFO X.K f)
noncomputable def oNo : Of := fun _ => some none
noncomputable def oSome (f : Ef) : Of := fun ρ => (f ρ).bind fun d => match d with | .int i => some (some i) | _ => none
theorem po_no : PFO X none oNo := fun pins s σ H Q I h => po_none pins s σ H Q I (by
  obtain ⟨G0, H0, G, ρ, o, good, hf, k⟩ := h
  cases hf
  exact k H G (.refl good.sub))
theorem po_sm (h : PF X e fa) : PFO X (some e) (oSome fa) := fun pins s σ H Q I q => po_some h pins s σ H Q I (by
  obtain ⟨G0, H0, G, ρ, o, good, hf, k⟩ := q
  unfold oSome at hf
  obtain ⟨d, h1, hf⟩ := Option.bind_eq_some_iff.mp hf
  cases d with
  | int i => cases hf; exact ⟨G0, H0, G, ρ, _, good, h1, fun v H' G' s r => ⟨i, rep_int.mp r, k H' G' s⟩⟩
  | _ => cases hf)
noncomputable def cutD (xs : List D) (lo hi : Option Int) : List D := (xs.drop (HT.sIx xs.length 0 lo)).take (HT.sIx xs.length xs.length hi - HT.sIx xs.length 0 lo)
noncomputable def lSlice (f : Ef) (lo hi : Of) : Lf := fun ρ => (f ρ).bind fun d => (lo ρ).bind fun l => (hi ρ).bind fun u => match d with | .lst ds => some (cutD ds l u) | _ => none
theorem pl_slice {lo hi : Option Expr} {fl fh : Of} {p2 : Pos} (ha : PF X a fa) (hl : PFO X lo fl) (hh : PFO X hi fh) : PFr X (.Subscript a (.Slice lo hi none p2) pos) (lSlice fa fl fh) := by
  refine PE.toR (pe_slice sl_list ha hl hh) ?_
  rintro σ H Q ⟨G0, H0, G, ρ, d, good, hf, k⟩
  unfold lSlice at hf
  obtain ⟨x, h1, hf⟩ := Option.bind_eq_some_iff.mp hf
  obtain ⟨l, h2, hf⟩ := Option.bind_eq_some_iff.mp hf
  obtain ⟨u, h3, hf⟩ := Option.bind_eq_some_iff.mp hf
  cases x with
  | lst ds =>
    cases hf
    refine ⟨G0, H0, G, ρ, _, good, h1, fun v H1 G1 s1 r1 => ⟨G0, H0, G1, ρ, _, good.step s1, h2, fun H2 G2 s2 => ⟨G0, H0, G2, ρ, _, (good.step s1).step s2, h3, fun H3 G3 s3 => ?_⟩⟩⟩
    obtain ⟨q, vs, rfl, hq, rs⟩ := rep_lst.mp r1
    have s23 := s2.trans s3
    refine ⟨q, vs, rfl, s23.hh |> fun z => (s1.sub.trans z).seq hq, fun p hp => ?_⟩
    have s4 := Step.own (o := .lst (cutV vs l u)) s23.sub hp
    refine k p _ _ G3 ((s1.trans s23).trans s4) ((s1.trans s23).hh.free hp) upd_same (s23.sub.free hp) ?_
    unfold cutV cutD
    rw [← rs.length]
    exact ((rs.mono s23.gg).drop _).take _
  | _ => cases hf
end
end L2

namespace L2
open PySem PySem.Spec PyProof.Rows

section
variable {prog : Program} {w : World} {A : Around} {E : Value → Shared → Prop} {s : Shared}
structure ZApart (z TI TO i1 i2 l1 l2 : Addr) : Prop where
  a1 : TI ≠ z
  a2 : TO ≠ z
  a3 : i1 ≠ z
  a4 : i2 ≠ z
  a5 : TI ≠ TO
  a6 : TI ≠ i1
  a7 : TI ≠ i2
  a8 : TO ≠ i1
  a9 : TO ≠ i2
  b1 : i1 ≠ i2
  b2 : l1 ≠ z
  b3 : l1 ≠ TO
  b4 : l1 ≠ i1
  b5 : l1 ≠ i2
  b6 : l2 ≠ z
  b7 : l2 ≠ TO
  b8 : l2 ≠ i1
  b9 : l2 ≠ i2
end
section
variable {prog : Program} {w : World} {A : Around} {E : Value → Shared → Prop} {s : Shared}
end
theorem zne {n : Nat} (i j : Nat) (h : i ≠ j) : n + i ≠ n + j := fun z => h (Nat.add_left_cancel z)
noncomputable def zipD : List D → List D → List D
  | x :: xs, y :: ys => .tup [x, y] :: zipD xs ys
  | _, _ => []
theorem zipD_get : ∀ {xs ys : List D} {i : Nat} {d : D}, (zipD xs ys)[i]? = some d → ∃ x y, xs[i]? = some x ∧ ys[i]? = some y ∧ d = .tup [x, y]
  | [], _, _, _, h => by simp [zipD] at h
  | _ :: _, [], _, _, h => by simp [zipD] at h
  | x :: xs, y :: ys, 0, d, h => by simp [zipD] at h; exact ⟨x, y, rfl, rfl, h.symm⟩
  | x :: xs, y :: ys, i + 1, d, h => by
    simp only [zipD, List.getElem?_cons_succ] at h
    obtain ⟨a, b, h1, h2, h3⟩ := zipD_get h
    exact ⟨a, b, by simpa using h1, by simpa using h2, h3⟩
theorem zipD_len : ∀ (xs ys : List D), (zipD xs ys).length = min xs.length ys.length
  | [], _ => by simp [zipD]
  | _ :: _, [] => by simp [zipD]
  | x :: xs, y :: ys => by rw [zipD, List.length_cons, zipD_len xs ys, List.length_cons, List.length_cons]; omega
section
variable {X : Cx} {a b c e tg elt iter : Expr} {fa fb : Ef} {pos p : Pos}
end
end L2

set_option maxHeartbeats 4000000
namespace L2
open PySem PySem.Spec PyProof.Rows

noncomputable def eqDs (f : D → D → Option Bool) : List D → List D → Option Bool
  | x :: xs, y :: ys => (f x y).bind fun a => (eqDs f xs ys).map fun b => a && b
  | _, _ => some true
noncomputable def eqD : Nat → D → D → Option Bool
  | _ + 1, .int i, .int j => some (i == j)
  | _ + 1, .bl i, .bl j => some (i == j)
  | _ + 1, .str i, .str j => some (i == j)
  | _ + 1, .non, .non => some true
  | n + 1, .tup xs, .tup ys => (eqDs (eqD n) xs ys).map fun b => b && xs.length == ys.length
  | n + 1, .lst xs, .lst ys => if xs.length = ys.length then eqDs (eqD n) xs ys else some false
  | _, _, _ => none
noncomputable def pairAt (f : D → D → Option Bool) (xs ys : List D) (j : Nat) : Bool := match xs[j]?, ys[j]? with | some a, some c => (f a c).getD true | _, _ => true
theorem eqDs_all {f : D → D → Option Bool} : ∀ {xs ys : List D} {b : Bool}, eqDs f xs ys = some b → b = (List.range (min xs.length ys.length)).all (pairAt f xs ys) ∧ ∀ (j : Nat) (a c : D), xs[j]? = some a → ys[j]? = some c → f a c = some (pairAt f xs ys j)
  | [], _, _, h => by cases h; exact ⟨by simp, fun j a c e => by simp at e⟩
  | _ :: _, [], _, h => by cases h; exact ⟨by simp, fun j a c _ e => by simp at e⟩
  | x :: xs, y :: ys, b, h => by
    unfold eqDs at h
    obtain ⟨a, h1, h⟩ := Option.bind_eq_some_iff.mp h
    obtain ⟨b', h2, rfl⟩ := Option.map_eq_some_iff.mp h
    obtain ⟨e1, e2⟩ := eqDs_all h2
    constructor
    · rw [List.length_cons, List.length_cons, Nat.succ_min_succ, List.range_succ_eq_map, List.all_cons, List.all_map, e1]
      congr 1
      simp [pairAt, h1]
    · intro j p q hp hq
      cases j with
      | zero =>
        simp at hp hq
        subst hp; subst hq
        simp [pairAt, h1]
      | succ j =>
        have := e2 j p q (by simpa using hp) (by simpa using hq)
        simpa [pairAt] using this
section
variable {X : Cx} {pins : List (Addr × Obj)} {σ : St} {H G : Hp} {s : Shared}
theorem eqD_same (I : Inv X pins σ H s) (sub : SameT G H) : ∀ (n : Nat) (d d' : D) (x : V) (k : Bool), eqD n d d' = some k → Rep X.K G d x → Rep X.K G d' x → k = true := by
  intro n
  induction n with
  | zero => intro d d' x k h; cases d <;> cases d' <;> cases h
  | succ n ih =>
    have many : ∀ (ds es : List D) (vs : List V) (b : Bool), eqDs (eqD n) ds es = some b → Reps X.K G ds vs → Reps X.K G es vs → b = true := by
      intro ds
      induction ds with
      | nil => intro es vs b h _ _; cases h; rfl
      | cons d r ihr =>
        intro es vs b h r1 r2
        cases es with
        | nil => cases h; rfl
        | cons e t =>
          unfold eqDs at h
          obtain ⟨a, h1, h⟩ := Option.bind_eq_some_iff.mp h
          obtain ⟨b', h2, rfl⟩ := Option.map_eq_some_iff.mp h
          obtain ⟨v, vr, rfl, q1, q2⟩ := reps_cons.mp r1
          obtain ⟨v', vr', e', q3, q4⟩ := reps_cons.mp r2
          cases e'
          rw [ih d e v a h1 q1 q3, ihr t vr b' h2 q2 q4]; rfl
    intro d d' x k h r1 r2
    cases d with
    | int i =>
      cases d' with
      | int j => cases h; rw [rep_int] at r1 r2; rw [r1] at r2; cases r2; simp
      | _ => cases h
    | bl i =>
      cases d' with
      | bl j => cases h; rw [rep_bl] at r1 r2; rw [r1] at r2; cases r2; simp
      | _ => cases h
    | str i =>
      cases d' with
      | str j => cases h; rw [rep_str] at r1 r2; rw [r1] at r2; cases r2; simp
      | _ => cases h
    | non =>
      cases d' with
      | non => cases h; rfl
      | _ => cases h
    | tup ds =>
      cases d' with
      | tup es =>
        unfold eqD at h
        obtain ⟨b, h1, rfl⟩ := Option.map_eq_some_iff.mp h
        obtain ⟨p, vs, e1, q1, q2⟩ := rep_tup.mp r1
        obtain ⟨p', vs', e2, q3, q4⟩ := rep_tup.mp r2
        rw [e1] at e2; cases e2
        have ev := I.tuple_inj (sub.tup q1) (sub.tup q3)
        subst ev
        rw [many ds es vs b h1 q2 q4, q2.length, q4.length]; simp
      | _ => cases h
    | lst ds =>
      cases d' with
      | lst es =>
        unfold eqD at h
        obtain ⟨p, vs, e1, q1, q2⟩ := rep_lst.mp r1
        obtain ⟨p', vs', e2, q3, q4⟩ := rep_lst.mp r2
        rw [e1] at e2; cases e2
        have ev := I.list_inj (sub.seq q1) (sub.seq q3)
        subst ev
        rw [if_pos (by rw [q2.length, q4.length])] at h
        exact many ds es vs k h q2 q4
      | _ => cases h
    | obj C ns ds => cases d' <;> cases h
    | exc C ns ds => cases d' <;> cases h
theorem at_D (I : Inv X pins σ H s) (sub : SameT G H) : ∀ (n : Nat) (A : Around) (d d' : D) (x y : V) (u v : Value) (k : Bool), A.units + n < cLine → eqD n d d' = some k → Rep X.K G d x → Rep X.K G d' y → RelV x u → RelV y v →
    SeqAt.RcAt A s u v k ∧ SeqAt.RcNeAt A s u v (!k) ∧ SeqAt.EqAt A s u v k := by
  intro n
  induction n with
  | zero => intro A d d' x y u v k _ h; cases d <;> cases d' <;> cases h
  | succ n ih =>
    intro A d d' x y u v k hu h r1 r2 ru rv
    have hu1 : A.units < cLine := by omega
    have hin : A.in1.units + n < cLine := by show A.units + 1 + n < cLine; omega
    cases d with
    | int i =>
      cases d' with
      | int j => cases h; rw [rep_int] at r1 r2; subst r1; subst r2; obtain ⟨t, rfl⟩ := ru; obtain ⟨t', rfl⟩ := rv; exact ⟨SeqAt.RcAt.int_int _ _ _ _, SeqAt.RcNeAt.int_int _ _ _ _, SeqAt.EqAt.int_int _ _ _ _⟩
      | _ => cases h
    | bl i =>
      cases d' with
      | bl j => cases h; rw [rep_bl] at r1 r2; subst r1; subst r2; cases ru; cases rv; exact ⟨SeqAt.RcAt.bool_bool _ _, SeqAt.RcNeAt.bool_bool _ _, SeqAt.EqAt.bool_bool _ _⟩
      | _ => cases h
    | str i =>
      cases d' with
      | str j => cases h; rw [rep_str] at r1 r2; subst r1; subst r2; obtain ⟨t, rfl⟩ := ru; obtain ⟨t', rfl⟩ := rv; exact ⟨SeqAt.RcAt.str_str _ _ _ _, SeqAt.RcNeAt.str_str _ _ _ _, SeqAt.EqAt.str_str _ _ _ _⟩
      | _ => cases h
    | non =>
      cases d' with
      | non => cases h; rw [rep_non] at r1 r2; subst r1; subst r2; cases ru; cases rv; exact ⟨SeqAt.RcAt.none_none, SeqAt.RcNeAt.none_none, SeqAt.EqAt.same _⟩
      | _ => cases h
    | tup ds =>
      cases d' with
      | tup es =>
        have h0 := h
        unfold eqD at h
        obtain ⟨b, h1, rfl⟩ := Option.map_eq_some_iff.mp h
        obtain ⟨p, vs, rfl, q1, q2⟩ := rep_tup.mp r1
        obtain ⟨p', vs', rfl, q3, q4⟩ := rep_tup.mp r2
        cases ru; cases rv
        obtain ⟨its, w1, t1, _⟩ := I.tuple (sub.tup q1)
        obtain ⟨jts, w2, t2, _⟩ := I.tuple (sub.tup q3)
        obtain ⟨e1, e2⟩ := eqDs_all h1
        have l1 : ds.length = its.length := q2.length.trans w1.length
        have l2 : es.length = jts.length := q4.length.trans w2.length
        have he : ∀ j (a1 : j < its.toArray.size) (a2 : j < jts.toArray.size), SeqAt.EqAt A.in1 s its.toArray[j] jts.toArray[j] (pairAt (eqD n) ds es j) := fun j a1 a2 => by
          have b1 : j < ds.length := by rw [l1]; simpa using a1
          have b2 : j < es.length := by rw [l2]; simpa using a2
          obtain ⟨v1, f1, g1⟩ := q2.get (List.getElem?_eq_getElem b1)
          obtain ⟨v2, f2, g2⟩ := q4.get (List.getElem?_eq_getElem b2)
          obtain ⟨u1, f3, g3⟩ := w1.get f1
          obtain ⟨u2, f4, g4⟩ := w2.get f2
          have x1 : its.toArray[j] = u1 := by
            have := (List.getElem?_eq_some_iff.mp f3).2
            simpa using this
          have x2 : jts.toArray[j] = u2 := by
            have := (List.getElem?_eq_some_iff.mp f4).2
            simpa using this
          rw [x1, x2]
          exact (ih A.in1 _ _ v1 v2 u1 u2 _ hin (e2 j _ _ (List.getElem?_eq_getElem b1) (List.getElem?_eq_getElem b2)) g1 g2 g3 g4).2.2
        have ek : ((List.range (min its.toArray.size jts.toArray.size)).all (pairAt (eqD n) ds es) && its.toArray.size == jts.toArray.size) = (b && ds.length == es.length) := by
          rw [List.size_toArray, List.size_toArray, ← l1, ← l2, e1]
        have R1 := SeqAt.RcAt.tuples t1 t2 hu1 he
        have R2 := SeqAt.RcNeAt.tuples t1 t2 hu1 he
        rw [ek] at R1 R2
        refine ⟨R1, R2, ?_⟩
        by_cases hp : p = p'
        · subst hp
          have hk := eqD_same I sub (n + 1) (.tup ds) (.tup es) (.ref p) _ h0 r1 r2
          rw [hk]
          exact SeqAt.EqAt.same _
        · exact .of_refs hp R1
      | _ => cases h
    | lst ds =>
      cases d' with
      | lst es =>
        have h0 := h
        unfold eqD at h
        obtain ⟨p, vs, rfl, q1, q2⟩ := rep_lst.mp r1
        obtain ⟨p', vs', rfl, q3, q4⟩ := rep_lst.mp r2
        cases ru; cases rv
        obtain ⟨its, w1, t1, _⟩ := I.list (sub.seq q1)
        obtain ⟨jts, w2, t2, _⟩ := I.list (sub.seq q3)
        have l1 : ds.length = its.length := q2.length.trans w1.length
        have l2 : es.length = jts.length := q4.length.trans w2.length
        have fin : SeqAt.RcAt A s (.ref p) (.ref p') k ∧ SeqAt.RcNeAt A s (.ref p) (.ref p') (!k) := by
          split at h
          · rename_i hl
            obtain ⟨e1, e2⟩ := eqDs_all h
            have he : ∀ j (a1 : j < its.toArray.size) (a2 : j < jts.toArray.size), SeqAt.EqAt A.in1 s its.toArray[j] jts.toArray[j] (pairAt (eqD n) ds es j) := fun j a1 a2 => by
              have b1 : j < ds.length := by rw [l1]; simpa using a1
              have b2 : j < es.length := by rw [l2]; simpa using a2
              obtain ⟨v1, f1, g1⟩ := q2.get (List.getElem?_eq_getElem b1)
              obtain ⟨v2, f2, g2⟩ := q4.get (List.getElem?_eq_getElem b2)
              obtain ⟨u1, f3, g3⟩ := w1.get f1
              obtain ⟨u2, f4, g4⟩ := w2.get f2
              have x1 : its.toArray[j] = u1 := by
                have := (List.getElem?_eq_some_iff.mp f3).2
                simpa using this
              have x2 : jts.toArray[j] = u2 := by
                have := (List.getElem?_eq_some_iff.mp f4).2
                simpa using this
              rw [x1, x2]
              exact (ih A.in1 _ _ v1 v2 u1 u2 _ hin (e2 j _ _ (List.getElem?_eq_getElem b1) (List.getElem?_eq_getElem b2)) g1 g2 g3 g4).2.2
            have hsz : its.toArray.size = jts.toArray.size := by rw [List.size_toArray, List.size_toArray, ← l1, ← l2, hl]
            have ek : (List.range its.toArray.size).all (pairAt (eqD n) ds es) = k := by
              rw [e1, List.size_toArray, ← l1, ← hl, Nat.min_self]
            have R1 := SeqAt.RcAt.lists t1.isList t2.isList hsz hu1 he
            have R2 := SeqAt.RcNeAt.lists t1.isList t2.isList hsz hu1 he
            rw [ek] at R1 R2
            exact ⟨R1, R2⟩
          · rename_i hl
            cases h
            have hsz : (its.toArray.size != jts.toArray.size) = true := by
              rw [List.size_toArray, List.size_toArray, ← l1, ← l2]
              simpa using hl
            exact ⟨SeqAt.RcAt.lists_lengths t1.isList t2.isList hsz hu1, SeqAt.RcNeAt.lists_lengths t1.isList t2.isList hsz hu1⟩
        refine ⟨fin.1, fin.2, ?_⟩
        by_cases hp : p = p'
        · subst hp
          have hk := eqD_same I sub (n + 1) (.lst ds) (.lst es) (.ref p) _ h0 r1 r2
          rw [hk]
          exact SeqAt.EqAt.same _
        · exact .of_refs hp fin.1
      | _ => cases h
    | obj C ns ds => cases d' <;> cases h
    | exc C ns ds => cases d' <;> cases h
end
section
variable {X : Cx} {a b c e : Expr} {fa fb : Ef} {ga gb : Lf} {pos p : Pos} {k : Nat}
noncomputable def gEqD : D → D → Option Bool := eqD 8
noncomputable def gNeD (x y : D) : Option Bool := (eqD 8 x y).map (!·)
theorem cm_eqD (hr : Room k X.A) : CmR X .Eq gEqD := by
  refine ⟨fun x y H Q => ∃ G d d' b, SameT G H ∧ Rep X.K G d x ∧ Rep X.K G d' y ∧ eqD 8 d d' = some b ∧ Q (.bl b) H, ?_, fun d d' k G H x y Q h s rx ry q => ⟨G, d, d', k, s, rx, ry, h, q H G (.refl s)⟩⟩
  intro pins s σ H x y v u Q I rx ry ⟨G, d, d', b, sub, r1, r2, h, q⟩
  have hu := hr.units
  exact (at_D I sub 8 X.A d d' x y v u b (by omega) h r1 r2 rx ry).1 X.prog X.w X.xe _ ⟨.bl b, H, I, rfl, q⟩
theorem cm_neD (hr : Room k X.A) : CmR X .NotEq gNeD := by
  refine ⟨fun x y H Q => ∃ G d d' b, SameT G H ∧ Rep X.K G d x ∧ Rep X.K G d' y ∧ eqD 8 d d' = some b ∧ Q (.bl (!b)) H, ?_, fun d d' k G H x y Q h s rx ry q => ?_⟩
  · intro pins s σ H x y v u Q I rx ry ⟨G, d, d', b, sub, r1, r2, h, q⟩
    have hu := hr.units
    exact (at_D I sub 8 X.A d d' x y v u b (by omega) h r1 r2 rx ry).2.1 X.prog X.w X.xe _ ⟨.bl (!b), H, I, rfl, q⟩
  · unfold gNeD at h
    obtain ⟨b, h1, rfl⟩ := Option.map_eq_some_iff.mp h
    exact ⟨G, d, d', b, s, rx, ry, h1, q H G (.refl s)⟩
noncomputable def insI (x : Int) : List Int → List Int
  | [] => [x]
  | y :: r => if x ≤ y then x :: y :: r else y :: insI x r
noncomputable def sortI : List Int → List Int
  | [] => []
  | x :: r => insI x (sortI r)
theorem insI_perm (x : Int) : ∀ l : List Int, (insI x l).Perm (x :: l)
  | [] => .refl _
  | y :: r => by
    unfold insI
    split
    · exact .refl _
    · exact (List.Perm.cons y (insI_perm x r)).trans (List.Perm.swap x y r)
theorem sortI_perm : ∀ l : List Int, (sortI l).Perm l
  | [] => .refl _
  | x :: r => (insI_perm x (sortI r)).trans (.cons x (sortI_perm r))
theorem insI_sorted (x : Int) : ∀ l : List Int, l.Pairwise (· ≤ ·) → (insI x l).Pairwise (· ≤ ·)
  | [], _ => by unfold insI; simp
  | y :: r, h => by
    unfold insI
    split
    · rename_i hxy
      refine List.pairwise_cons.mpr ⟨fun z hz => ?_, h⟩
      rcases List.mem_cons.mp hz with q | q
      · rw [q]; exact hxy
      · exact Int.le_trans hxy ((List.pairwise_cons.mp h).1 z q)
    · rename_i hxy
      refine List.pairwise_cons.mpr ⟨fun z hz => ?_, insI_sorted x r (List.pairwise_cons.mp h).2⟩
      rcases List.mem_cons.mp ((insI_perm x r).mem_iff.mp hz) with q | q
      · rw [q]; omega
      · exact (List.pairwise_cons.mp h).1 z q
theorem sortI_sorted : ∀ l : List Int, (sortI l).Pairwise (· ≤ ·)
  | [] => .nil
  | x :: r => insI_sorted x _ (sortI_sorted r)
theorem sorted_one {l m : List Int} (hp : l.Perm m) (hl : l.Pairwise (· ≤ ·)) (hm : m.Pairwise (· ≤ ·)) : l = m := hp.eq_of_pairwise (fun a b _ _ h1 h2 => Int.le_antisymm h1 h2) hl hm
noncomputable def intsD : List D → Option (List Int)
  | [] => some []
  | .int i :: r => (intsD r).map fun is => i :: is
  | _ => none
theorem intsD_rep {K : PySem.W.Frag} {G : Hp} : ∀ {ds : List D} {is : List Int} {vs : List V}, intsD ds = some is → Reps K G ds vs → vs = is.map V.int
  | [], _, _, h, r => by cases h; rw [reps_nil] at r; rw [r]; rfl
  | d :: t, _, _, h, r => by
    unfold intsD at h
    split at h
    · rename_i h'; cases h'
    · rename_i k t' h'
      cases h'
      obtain ⟨v, vr, rfl, r1, r2⟩ := reps_cons.mp r
      obtain ⟨ks, h1, rfl⟩ := Option.map_eq_some_iff.mp h
      rw [intsD_rep h1 r2, rep_int.mp r1]; rfl
    · cases h
theorem call_sortedI : CallR X (.builtin "sorted") (fun xs H Q => ∃ (q : Addr) (ns : List Int), xs = [V.ref q] ∧ SqL X.K H q (ns.map V.int) ∧ ns.length < 64 ∧ ∀ l, H l = none → Q (.ref l) (upd H l (.lst ((sortI ns).map V.int)))) := by
  intro pins s σ H xs us Q I r h
  obtain ⟨q, ns, rfl, hq, hl, k⟩ := h
  obtain ⟨u, rfl, ru⟩ := vals1 r
  cases ru
  obtain ⟨its, rv, pl, hz⟩ := I.list hq
  have hi := intsAre_of rv
  have hlen : its.length < 64 := by rw [← rv.length, List.length_map]; exact hl
  refine sorted_ints pl.isList hi hlen fun out ns' a1 a2 a3 => ?_
  obtain ⟨e, he⟩ := sortedAll_at s.heap its out
  have en : ns' = sortI ns := sorted_one (a2.trans (sortI_perm ns).symm) a3 (sortI_sorted ns)
  subst en
  have hsz : s.heap.objs.size ≤ s.heap.objs.size + 1 := Nat.le_succ _
  refine ⟨.ref (s.heap.objs.size + 1), _, I.laid (t' := s.toks) (o := .lst ((sortI ns).map V.int)) (fun b o e => sortedAll_old e) hsz ?_, rfl, k _ (I.hok.fresh hsz)⟩
  refine ⟨?_, out.toList, e, vals_ints a1, by simpa [seqObj] using he⟩
  rw [List.length_map, (sortI_perm ns).length_eq]
  exact Nat.le_of_lt (lim_ok (by show ns.length ≤ 100000; omega))
theorem reps_ints {K : PySem.W.Frag} {G : Hp} : ∀ ns : List Int, Reps K G (ns.map .int) (ns.map V.int)
  | [] => reps_nil.mpr rfl
  | n :: r => reps_cons.mpr ⟨_, _, rfl, rep_int.mpr rfl, reps_ints r⟩
noncomputable def lSorted (g : Lf) : Lf := fun ρ => (g ρ).bind fun ds => (intsD ds).bind fun ns => if ns.length < 64 then some ((sortI ns).map .int) else none
theorem pl_sorted (hg : Gl X "sorted") (hm : X.mg "sorted" = none) (h : PSrc X a ga) (hs : starEach [a] X.env = [(false, eval a X.env)] := by rfl) : PFr X (.Call (.Name "sorted" p) [a] [] pos) (lSorted ga) := by
  refine PE.toR (pe_callB call_sortedI hg hm (by rfl) (pa_cons h pa_nil (by rw [hs]; rfl)) (by decide) (by decide) (by rw [hs]; rfl) (by rfl)) ?_
  rintro σ H Q ⟨G0, H0, G, ρ, d, good, hf, k⟩
  unfold lSorted at hf
  obtain ⟨ds, h1, hf⟩ := Option.bind_eq_some_iff.mp hf
  obtain ⟨ns, h2, hf⟩ := Option.bind_eq_some_iff.mp hf
  split at hf
  · rename_i hl
    cases hf
    refine ⟨G0, H0, G, ρ, _, good, h1, fun q vs H1 G1 s1 hq rs => ?_⟩
    have e := intsD_rep h2 rs
    subst e
    refine ⟨q, ns, rfl, s1.sub.seq hq, hl, fun l hl' => ?_⟩
    exact k l _ _ G1 (s1.trans (Step.own s1.sub hl')) (s1.hh.free hl') upd_same (s1.sub.free hl') (reps_ints _)
  · cases hf
end
end L2

namespace L2
open PySem PySem.Spec PyProof.Rows

section
variable {X : Cx} {a b c e tg elt iter : Expr} {es ifs : List Expr} {fa fb fc : Ef} {ga gb gi : Lf} {ta tc : Tf} {pos p : Pos} {st : Stmt}
end
end L2

namespace L2
open PySem PySem.Spec PyProof.Rows
section
variable {X : Cx} {a b c e tg elt iter : Expr} {es ifs : List Expr} {fa fb fc : Ef} {ga gb gi : Lf} {ta tc : Tf} {pos p : Pos} {st : Stmt}
noncomputable def eMax (fa fb : Ef) : Ef := fun ρ => (fa ρ).bind fun x => (fb ρ).bind fun y => match x, y with | .int i, .int j => some (.int (if j > i then j else i)) | _, _ => none
theorem pf_max (hc : X.calm = true) (hg : Gl X "max") (hm : X.mg "max" = none) (ha : PF X a fa) (hb : PF X b fb) (hs : starEach [a, b] X.env = [(false, eval a X.env), (false, eval b X.env)] := by rfl) (hs2 : starEach [b] X.env = [(false, eval b X.env)] := by rfl) :
    PF X (.Call (.Name "max" p) [a, b] [] pos) (eMax fa fb) := by
  refine PE.to (pe_callB (call_max2 hc) hg hm (by rfl) (pa_cons ha (pa_cons hb pa_nil (by rw [hs2]; rfl)) (by rw [hs, hs2])) (by decide) (by decide) (by rw [hs, hs2]) (by rw [hs2]; rfl)) ?_
  rintro σ H Q ⟨G0, H0, G, ρ, d, good, hf, k⟩
  unfold eMax at hf
  obtain ⟨x, h1, hf⟩ := Option.bind_eq_some_iff.mp hf
  obtain ⟨y, h2, hf⟩ := Option.bind_eq_some_iff.mp hf
  refine ⟨G0, H0, G, ρ, _, good, h1, fun u H1 G1 s1 r1 => ⟨G0, H0, G1, ρ, _, good.step s1, h2, fun v H2 G2 s2 r2 => ?_⟩⟩
  split at hf
  · cases hf
    exact ⟨_, _, by rw [rep_int.mp r1, rep_int.mp r2], k _ _ G2 (s1.trans s2) (rep_int.mpr rfl)⟩
  · cases hf
theorem op_catS : OpR X (binaryOp .Add) (fun x y H Q => ∃ l b xs zs, x = .ref l ∧ y = .ref b ∧ SqL X.K H l xs ∧ SqL X.K H b zs ∧ xs.length + zs.length ≤ sizeLine ∧ ∀ p, H p = none → Q (.ref p) (upd H p (.lst (xs ++ zs)))) := by
  intro pins s σ H x y v u Q I rx ry h
  obtain ⟨l, b, xs, zs, rfl, rfl, hH, hB, hz, q⟩ := h
  cases rx
  cases ry
  obtain ⟨its, r, pl, _⟩ := I.list hH
  obtain ⟨its2, r2, pl2, _⟩ := I.list hB
  obtain ⟨⟨cls, dd, data, sl⟩, ho, hc, n, hd⟩ := pl.isList
  obtain ⟨⟨cls2, dd2, data2, sl2⟩, ho2, hc2, n2, hd2⟩ := pl2.isList
  simp only at hc hd hc2 hd2
  subst hc hd hc2 hd2
  have hl := r.length
  have hl2 := r2.length
  have e : its.toArray ++ its2.toArray = (its ++ its2).toArray := by simp
  refine concat_meets ⟨_, ho, rfl⟩ ⟨_, ho2, rfl⟩ noFill_list_add seq_list_add PySem.F.slot_list_add PySem.F.entry_list_add (PySem.F.args_list_add_2 _ _) (list_addW l b its.toArray its2.toArray n n2 dd dd2 sl sl2 (by rw [List.size_toArray, List.size_toArray]; omega)) ⟨ho, ho2, ?_⟩
  rw [e]
  exact ⟨.ref _, _, I.lnew (t' := s.toks) (r.append r2) (by rw [List.length_append]; omega), rfl, q _ I.fresh⟩
theorem pl_catS (ha : PSrc X a ga) (hb : PSrc X b gb) : PFr X (.BinOp a .Add b pos) (lCat ga gb) := by
  refine PE.toR (pe_op op_catS ha hb) ?_
  rintro σ H Q ⟨G0, H0, G, ρ, d, good, hf, k⟩
  unfold lCat at hf
  obtain ⟨xs, h1, hf⟩ := Option.bind_eq_some_iff.mp hf
  obtain ⟨ys, h2, hf⟩ := Option.bind_eq_some_iff.mp hf
  obtain ⟨rfl, h3⟩ := okL_inv hf
  refine ⟨G0, H0, G, ρ, _, good, h1, fun p vs H1 G1 s1 hq rs => ⟨G0, H0, G1, ρ, _, good.step s1, h2, fun q us H2 G2 s2 hq2 rs2 => ?_⟩⟩
  refine ⟨p, q, vs, us, rfl, rfl, (s1.sub.trans s2.hh).seq hq, s2.sub.seq hq2, ?_, fun l hl => ?_⟩
  · rw [← rs.length, ← rs2.length, ← List.length_append]; exact Nat.le_of_lt (lim_ok h3)
  · have s3 := Step.own (o := .lst (vs ++ us)) s2.sub hl
    exact k l _ _ G2 ((s1.trans s2).trans s3) ((s1.trans s2).hh.free hl) upd_same (s2.sub.free hl) ((rs.mono s2.gg).append rs2)
end
structure FunD (K : PySem.W.Frag) (x qual : Str) (st : Stmt) (f : Addr) (fd : FuncData) : Prop where
  ex : ∃ (oc : Value) (od : Option Addr) (dV kV doc pm : Value) (an : Option Addr) (cdv ct : Value) (osl : Array (Option Value)),
    fd = PySem.W.fnOf x qual (defArgs st) (defBody st) (defScope st) dV kV doc pm an cdv ct ∧ K.lookup f = some ⟨oc, od, .func fd, osl⟩ ∧ PySem.W.codeIn K cdv qual = true
  kp : PySem.W.keepIn K (.ref f) = true
section
variable {P : Program} {w : World} {K : PySem.W.Frag} {mg : Str → Option Value} {base : Heap} {x qual : Str} {st : Stmt} {f : Addr} {fd : FuncData} {N ps : List Str} {k : Nat}
end
section
variable {X : Cx} {e : Expr} {es : List Expr} {ga : Lf} {pos p : Pos}
end
end L2

namespace L2
open PySem PySem.Spec PyProof.Rows

section
variable {X : Cx} {a b c e tg elt iter : Expr} {es ifs : List Expr} {fa fb fc : Ef} {ga gb gi : Lf} {ta tc : Tf} {pos p : Pos} {st : Stmt}
end
section
variable {P : Program} {w : World} {K : PySem.W.Frag} {mg : Str → Option Value} {base : Heap} {x qual : Str} {st : Stmt} {f C : Addr} {fd : FuncData} {N ps ns : List Str} {k : Nat} {sf : Str}
end
section
variable {X : Cx} {a b c e tg elt iter : Expr} {es ifs : List Expr} {fa fb fc : Ef} {ga gb gi : Lf} {ta tc : Tf} {pos p : Pos} {st : Stmt}
noncomputable def gIsC : D → D → Option Bool
  | d, .non => some (isNon d)
  | .bl x, .bl y => some (x == y)
  | .non, .bl _ => some false
  | .int _, .bl _ => some false
  | .str _, .bl _ => some false
  | .tup _, .bl _ => some false
  | .lst _, .bl _ => some false
  | .obj _ _ _, .bl _ => some false
  | .exc _ _ _, .bl _ => some false
  | _, _ => none
theorem op_isB : OpR X (compareOp .Is) (fun x y H Q => ∃ k, y = .bl k ∧ Q (.bl (decide (x = .bl k))) H) := by
  intro pins s σ H x y v u Q I rx ry h
  obtain ⟨k, rfl, q⟩ := h
  cases ry
  cases x with
  | bl z => cases rx; refine is_bool (fin_bl I q ?_); rw [dec_bl]
  | non => cases rx; refine wpAny_is_other (by rfl) (by intro z; cases z) (fin_bl I q (by simp))
  | int i => obtain ⟨t, rfl⟩ := rx; refine wpAny_is_other (by rfl) (by intro z; cases z) (fin_bl I q (by simp))
  | str i => obtain ⟨t, rfl⟩ := rx; refine wpAny_is_other (by rfl) (by intro z; cases z) (fin_bl I q (by simp))
  | byt i => obtain ⟨t, rfl⟩ := rx; refine wpAny_is_other (by rfl) (by intro z; cases z) (fin_bl I q (by simp))
  | flt i => obtain ⟨t, rfl⟩ := rx; refine wpAny_is_other (by rfl) (by intro z; cases z) (fin_bl I q (by simp))
  | ref i => cases rx; refine wpAny_is_other (by rfl) (by intro z; cases z) (fin_bl I q (by simp))
  | ty i => cases rx; refine wpAny_is_other (by rfl) (by intro z; cases z) (fin_bl I q (by simp))
theorem cm_isC : CmR X .Is gIsC := ⟨_, op_isN.or op_isB, fun d d' k G H x y Q h s rx ry q => by
  have fin : ∀ (z : Bool) (v : V), d' = .bl z → x = v → k = decide (v = .bl z) → (fun x y H Q => y = V.non ∧ Q (.bl (decide (x = .non))) H) x y H Q ∨ (∃ k, y = .bl k ∧ Q (.bl (decide (x = .bl k))) H) := fun z v e1 e2 e3 => by
    subst e1; subst e2
    exact .inr ⟨z, rep_bl.mp ry, by rw [← e3]; exact q H G (.refl s)⟩
  cases d' with
  | non =>
    have hk : isNon d = k := by cases d <;> (cases h; rfl)
    refine .inl ⟨rep_non.mp ry, ?_⟩
    rw [rep_isNon rx, hk]; exact q H G (.refl s)
  | bl z =>
    cases d with
    | bl w => cases h; exact fin z _ rfl (rep_bl.mp rx) (by rw [dec_bl])
    | non => cases h; exact fin z _ rfl (rep_non.mp rx) (by simp)
    | int i => cases h; exact fin z _ rfl (rep_int.mp rx) (by simp)
    | str i => cases h; exact fin z _ rfl (rep_str.mp rx) (by simp)
    | tup ds => cases h; obtain ⟨p, _, e, _⟩ := rep_tup.mp rx; exact fin z _ rfl e (by simp)
    | lst ds => cases h; obtain ⟨p, _, e, _⟩ := rep_lst.mp rx; exact fin z _ rfl e (by simp)
    | obj _ _ ds => cases h; obtain ⟨_, p, _, _, _, e, _⟩ := rep_obj.mp rx; exact fin z _ rfl e (by simp)
    | exc _ _ ds => cases h; obtain ⟨_, p, _, _, _, e, _⟩ := rep_exc.mp rx; exact fin z _ rfl e (by simp)
  | _ => cases d <;> cases h⟩
end
section
variable {l : Addr} {its : Array Value} {n : Nat} {dd : Option Addr} {sl : Array (Option Value)} {y : Value} {q : Nat → Bool} {top : Int} {j : Nat}
end
section
variable {X : Cx} {a b c e tg elt iter : Expr} {es ifs : List Expr} {fa fb fc : Ef} {ga gb gi : Lf} {ta tc : Tf} {pos p : Pos} {st : Stmt}
end
end L2

namespace L2
open PySem PySem.Spec PyProof.Rows

section
variable {prog : Program} {w : World} {A : Around} {E : Value → Shared → Prop} {s : Shared}
end
section
variable {X : Cx} {a b c e tg elt iter : Expr} {es ifs : List Expr} {fa fb fc : Ef} {ga gb gi : Lf} {ta tc : Tf} {pos p p2 : Pos} {st : Stmt}
end
end L2

namespace L2
open PySem PySem.Spec PyProof.Rows

section
variable {X : Cx}
end
open PySem.W
section
variable {prog : Program} {w : World} {A : Around} {E : Value → Shared → Prop} {h : Heap} {g : Array GenState} {d : Drawn} {t : Nat} {os : OsState} {a C : Addr} {o : Obj} {K : Frag}
end
end L2
namespace L2
open PySem PySem.Spec PySem.W
section
variable {prog : Program} {w : World} {A : Around} {E : Value → Shared → Prop} {h : Heap} {g : Array GenState} {d : Drawn} {t : Nat} {os : OsState} {K : Frag}
variable {nm q : Str} {C N : Addr} {bs bm : List Value} {hdct : Bool} {sn : List Str} {sub : List Value} {ab : Bool} {col : Option Bool} {dd : Option Addr} {k0 k1 k2 k3 k5 : Option Value}
end
end L2
namespace L2
open PySem PySem.Spec PySem.W
open Builtin Builtin.ObjectAttr
noncomputable def refsThen : List Value → Bool
  | [] => false
  | v :: r => (v :: r) == [.type "ValueError", .type "Exception", .type "BaseException", .type "object"] || match v with | .ref _ => refsThen r | _ => false
section
variable {prog : Program} {w : World} {A : Around} {E : Value → Shared → Prop} {h : Heap} {g : Array GenState} {d : Drawn} {t : Nat} {os : OsState} {K : Frag}
variable {nm q : Str} {C N x : Addr} {bs bm : List Value} {sn : List Str} {sub : List Value} {ab : Bool} {col : Option Bool} {dd : Option Addr} {k0 k1 k2 k3 k5 : Option Value} {newId : String} {name : Str} {v : Value} {o : Obj}
end
section
variable {prog : Program} {w : World} {A : Around} {E : Value → Shared → Prop} {h : Heap} {g : Array GenState} {d : Drawn} {t : Nat} {os : OsState} {K : Frag} {a C dx : Addr} {o : Obj} {name : Str} {v : Value} {mA : Str → Option Value}
variable {nm q : Str} {N : Addr} {bs bm : List Value} {sn : List Str} {sub : List Value} {ab : Bool} {col : Option Bool} {dd : Option Addr} {k0 k1 k2 k3 k5 : Option Value} {newId : String}
end
end L2

namespace L2
open PySem PySem.Spec PyProof.Rows

structure XKit (K : PySem.W.Frag) (C : Addr) : Prop where
  cl : (PySem.W.clsIn K C).isSome = true
  ga : PySem.W.findIn K (.ref C) "__getattribute__" = some (some (.builtin "BaseException.__getattribute__"))
  gt : PySem.W.findIn K (.ref C) "__getattr__" = some none
  gc : PySem.W.findIn K (.ref C) "__class__" = some (some (.builtin "object.__class__"))
  so : PySem.W.subIn K (.ref C) (.type "object") = some true
  sb : PySem.W.subIn K (.ref C) (.type "BaseException") = some true
noncomputable def XObj (K : PySem.W.Frag) (C : Addr) : Prop := ∃ nm q N bs bm sn sub ab col dd k0 k1 k2 k3 k5, K.lookup C = some (excClassObj nm q C N bs bm true sn sub ab col dd k0 k1 k2 k3 k5 "ValueError.__new__") ∧ refsThen bm = true
section
variable {X : Cx} {a b c e tg elt iter : Expr} {es ifs : List Expr} {fa fb fc : Ef} {ga gb gi : Lf} {ta tc : Tf} {pos p : Pos} {st : Stmt}
structure XSt (K : PySem.W.Frag) (C : Addr) : Prop where
  kit : XKit K C
  ob : XObj K C
  sa : PySem.W.findIn K (.ref C) "__setattr__" = some (some (.builtin "object.__setattr__"))
end
section
variable {P : Program} {w : World} {K : PySem.W.Frag} {mg : Str → Option Value} {base : Heap} {x qual : Str} {st : Stmt} {f C : Addr} {fd : FuncData} {N ps ns : List Str} {k : Nat} {sf : Str}
end
structure XMk (K : PySem.W.Frag) (C f : Addr) : Prop where
  ob : XObj K C
  init : PySem.W.findIn K (.ref C) "__init__" = some (some (.ref f))
  fn : PySem.W.isFn K (.ref f) = true
  kp : PySem.W.keepIn K (.ref C) = true
section
variable {X : Cx} {a b c e tg elt iter : Expr} {es ifs : List Expr} {fa fb fc : Ef} {ga gb gi : Lf} {ta tc : Tf} {pos p : Pos} {st : Stmt}
end
end L2
namespace L2
open PySem PySem.Spec PyProof.Rows
section
variable {X : Cx} {pos p : Pos}
end
end L2

namespace L2
open PySem PySem.Spec PyProof.Rows

noncomputable def HeadOk (h : Heap) (e : Addr) (v : Value) : Prop := v = .none ∨ ∃ T oT ts, v = .ref T ∧ T ≠ e ∧ h.get? T = some oT ∧ oT.data = .fields ts ∧ ts[3]? = some .none
structure Flew (fs : List Addr) (e : Addr) (c : Value) (od : Option Addr) (vs : Array Value) (sl : Array (Option Value)) (h h' : Heap) : Prop where
  obj : h'.get? e = some { cls := c, dict := od, data := .fields (vs.setIfInBounds 1 (.ref h.objs.size)), slots := sl }
  ne : h.objs.size ≠ e
  head : ∃ oT ts, h'.get? h.objs.size = some oT ∧ oT.data = .fields ts ∧ ts[3]? = some .none
  keep : ∀ b o, h.get? b = some o → b ≠ e → b ∉ fs → some (Value.ref b) ≠ vs[1]? → h'.get? b = some o
  slot : ∀ b o, h.get? b = some o → b ≠ e → b ∈ fs → some (Value.ref b) ≠ vs[1]? → ∃ z, h'.get? b = some { o with slots := z }
section
variable {M : Model} {A : Around} {E : Value → Shared → Prop} {s : Shared}
end
structure Fly (h : Heap) (H : Hp) (h0 : Heap) (C a : Addr) : Prop where
  ob : ∃ vs v, h.get? a = some { cls := .ref C, dict := none, data := .fields vs, slots := #[] } ∧ vs[1]? = some v ∧ HeadOk h a v ∧ ∀ T, v = .ref T → H T = none ∧ h0.get? T = none
  free : H a = none
  new : h0.get? a = none
section
variable {P : Program} {w : World} {K : PySem.W.Frag} {mg : Str → Option Value} {base : Heap} {N : List Str} {qual : Str} {scope : Scope} {f : Addr} {cd : Value} {A : Around} {outer : List Env} {s₀ s : Shared} {H₀ H : Hp} {E : XK} {pins : List (Addr × Obj)} {σ : St} {C a : Addr}
end

section
variable {X : Cx} {E : XK} {C : Addr} {c : Str} {p cpos pos : Pos} {e : Expr} {es : List Expr} {t : TA}
end
end L2

namespace L2
open PySem PySem.Spec PyProof.Rows

section
variable {M : Model} {A : Around} {E : Value → Shared → Prop} {s : Shared}
end
section
variable {X : Cx} {pins : List (Addr × Obj)} {σ : St} {H : Hp} {s : Shared}
end
section
variable {X : Cx} {pins : List (Addr × Obj)} {σ : St}
end
end L2

namespace L2
open PySem PySem.Spec PyProof.Rows

section
variable {X : Cx} {E : XK} {a b e : Expr} {es : List Expr} {ga : Lf} {tt : Tf} {f : Sf} {x xa xb : List B → Option Str} {pos p cpos : Pos} {st : Stmt} {sts rest : List Stmt}
end
section
variable {P : Program} {w : World} {K : PySem.W.Frag} {mg : Str → Option Value} {base : Heap} {x qual : Str} {st : Stmt} {f : Addr} {fd : FuncData} {N ps : List Str} {k : Nat}
end
section
variable {X : Cx} {a b e : Expr} {es : List Expr} {ga : Lf} {tt : Tf} {xa xb : List B → Option Str} {pos p cpos : Pos} {st st' : Stmt}
end
end L2

namespace L2
open PySem PySem.Spec PyProof.Rows
section
variable {prog : Program} {w : World} {A : Around} {E : Value → Shared → Prop} {s : Shared}
structure Z3 (z TI TO i1 i2 i3 l1 l2 l3 : Addr) : Prop where
  TIz : TI ≠ z
  TOz : TO ≠ z
  i1z : i1 ≠ z
  i2z : i2 ≠ z
  i3z : i3 ≠ z
  TITO : TI ≠ TO
  TIi1 : TI ≠ i1
  TIi2 : TI ≠ i2
  TIi3 : TI ≠ i3
  TOi1 : TO ≠ i1
  TOi2 : TO ≠ i2
  TOi3 : TO ≠ i3
  i12 : i1 ≠ i2
  i13 : i1 ≠ i3
  i23 : i2 ≠ i3
  a1 : l1 ≠ z
  a2 : l1 ≠ TO
  a3 : l1 ≠ i1
  a4 : l1 ≠ i2
  a5 : l1 ≠ i3
  b1 : l2 ≠ z
  b2 : l2 ≠ TO
  b3 : l2 ≠ i1
  b4 : l2 ≠ i2
  b5 : l2 ≠ i3
  c1 : l3 ≠ z
  c2 : l3 ≠ TO
  c3 : l3 ≠ i1
  c4 : l3 ≠ i2
  c5 : l3 ≠ i3
end
section
variable {prog : Program} {w : World} {A : Around} {E : Value → Shared → Prop} {s : Shared}
end
section
variable {X : Cx} {a b c e tg elt iter : Expr} {fa fb fc : Ef} {ga : Lf} {pos p : Pos}
end
end L2

namespace L2
open PySem PySem.Spec PyProof.Rows
section
variable {X : Cx} {a b c e : Expr} {es : List Expr} {fa fb fc : Ef} {ga gb : Lf} {pos p : Pos}
end
section
variable {prog : Program} {w : World} {A : Around} {E : Value → Shared → Prop} {s : Shared}
end
section
variable {X : Cx} {a b c e : Expr} {es : List Expr} {fa fb fc : Ef} {ga gb : Lf} {pos p : Pos}
end
end L2

namespace L2
open PySem PySem.Spec PyProof.Rows
section
variable {prog : Program} {w : World} {A : Around} {E : Value → Shared → Prop} {s : Shared}
end
section
variable {X : Cx} {a b c e tg elt iter : Expr} {es : List Expr} {fa fb fc : Ef} {ga gb : Lf} {pos p : Pos}
end
end L2

namespace L2
open PySem PySem.Spec PyProof.Rows
section
variable {X : Cx} {a b c e tg elt iter : Expr} {es : List Expr} {fa fb fc : Ef} {ga gb : Lf} {pos p : Pos}
end
end L2
namespace Att
open PySem PySem.W PySem.Spec PyProof.Rows
end Att
namespace Att
open PySem PySem.W PySem.Calls PyProof.Rows
end Att
namespace L2
open PySem PySem.Spec PyProof.Rows
end L2
namespace L2
open PySem PySem.Spec PyProof.Rows
section
variable {X : Cx} {a b c e : Expr} {fa fb fc : Ef} {pos : Pos}
end
end L2

namespace L2
open PySem PySem.Spec PyProof.Rows

section
variable {X : Cx} {e : Expr} {es : List Expr} {fa : Ef} {p q : List B → Bool} {pos : Pos} {k : Nat}
end
end L2

namespace L2
open PySem PySem.Spec PyProof.Rows

section
variable {X : Cx} {a b c e : Expr} {es : List Expr} {fa : Ef} {pos p : Pos}
end
end L2

namespace L2
open PySem PySem.Spec PyProof.Rows
section
variable {X : Cx} {E : XK} {e : Expr} {es : List Expr} {fa : Ef} {p q : List B → Bool} {pos : Pos} {x : List B → Option Str}
end
section
variable {P : Program} {w : World} {K : PySem.W.Frag} {mg : Str → Option Value} {base : Heap} {N : List Str} {qual : Str} {scope : Scope} {f : Addr} {cd : Value} {A : Around} {outer : List Env} {s₀ : Shared} {H₀ : Hp} {E : XK}
end
section
variable {X : Cx} {E : XK} {a e : Expr} {es : List Expr} {ga : Lf} {tt : Tf} {x xa xb : List B → Option Str} {pos p cpos : Pos} {st st' : Stmt} {sts rest : List Stmt}
end
section
variable {P : Program} {w : World} {K : PySem.W.Frag} {mg : Str → Option Value} {base : Heap} {x qual : Str} {st : Stmt} {f : Addr} {fd : FuncData} {N ps : List Str} {k : Nat}
end
end L2

namespace L2
open PySem PySem.Spec PyProof.Rows
structure FlyV (h : Heap) (H : Hp) (h0 : Heap) (C a : Addr) (od : Option Addr) : Prop where
  ob : ∃ vs v, h.get? a = some { cls := .ref C, dict := od, data := .fields vs, slots := #[] } ∧ vs[1]? = some v ∧ HeadOk h a v ∧ ∀ T, v = .ref T → H T = none ∧ h0.get? T = none
  tr : H a = some (.ext (Xe C a od))
  new : h0.get? a = none
section
variable {P : Program} {w : World} {K : PySem.W.Frag} {mg : Str → Option Value} {base : Heap} {N : List Str} {qual : Str} {scope : Scope} {f : Addr} {cd : Value} {A : Around} {outer : List Env} {s₀ s : Shared} {H₀ H : Hp} {E : XK} {pins : List (Addr × Obj)} {σ : St} {C a : Addr} {od : Option Addr}
end
end L2

namespace L2
open PySem PySem.Spec PyProof.Rows
section
variable {X : Cx} {a b c e tg elt iter : Expr} {es ifs : List Expr} {fa fb fc : Ef} {ga gb gi : Lf} {ta tc : Tf} {pos p : Pos} {st : Stmt}
end
section
variable {P : Program} {w : World} {K : PySem.W.Frag} {mg : Str → Option Value} {base : Heap} {x qual : Str} {st : Stmt} {f C : Addr} {fd : FuncData} {N ps ns : List Str} {k : Nat} {sf : Str}
end
section
variable {X : Cx}
end
section
variable {P : Program} {w : World} {K : PySem.W.Frag} {mg : Str → Option Value} {base : Heap} {N : List Str} {qual : Str} {scope : Scope} {f : Addr} {cd : Value} {A : Around} {outer : List Env} {s₀ : Shared} {H₀ : Hp} {E : XK}
end
section
variable {M : Model} {A : Around} {E : Value → Shared → Prop} {s : Shared} {env : Env} {nm q : Str} {C N : Addr} {bs bm : List Value} {hdct : Bool} {sn : List Str} {sub : List Value} {ab : Bool} {col : Option Bool} {dd : Option Addr} {k0 k1 k2 k3 k5 : Option Value} {newId : String}
end
section
variable {X : Cx} {E : XK} {a b e : Expr} {es : List Expr} {ga : Lf} {tt : Tf} {f : Sf} {x y xa xb : Ef} {pos p cpos : Pos} {st : Stmt} {sts rest : List Stmt}
end
section
variable {P : Program} {w : World} {K : PySem.W.Frag} {mg : Str → Option Value} {base : Heap} {x qual : Str} {st : Stmt} {f : Addr} {fd : FuncData} {N ps : List Str} {k : Nat}
end
end L2

namespace L2
open PySem PySem.Spec PyProof.Rows
section
variable {X : Cx} {pins : List (Addr × Obj)} {σ : St}
end
section
variable {X : Cx} {a b e : Expr} {es : List Expr} {ga : Lf} {tt : Tf} {xa xb : Ef} {pos p cpos : Pos} {st st' : Stmt}
end
end L2
namespace L2
open PySem PySem.Spec PyProof.Rows
theorem pss_consD {X : Cx} {st : Stmt} {rest : List Stmt} {B f g : Sf} (e : B = sSeq f g) (h1 : PFS X st f) (h2 : PFSs X rest g) : PFSs X (st :: rest) B := by
  subst e
  exact pss_consF h1 h2
end L2
namespace L2
open PySem PySem.Spec PyProof.Rows
theorem pss_consE {X : Cx} {st : Stmt} {rest : List Stmt} (B : Sf) {f g : Sf} (e : B = sSeq f g) (h1 : PFS X st f) (h2 : PFSs X rest g) : PFSs X (st :: rest) B := pss_consD e h1 h2
end L2

namespace L2
open PySem PySem.Spec PyProof.Rows
structure FnT (K : PySem.W.Frag) (mg : Str → Option Value) (x : Str) (st : Stmt) (ps : List Str) where
  f : Addr
  fd : FuncData
  F : Fun K x x st f fd
  b : Binds K fd ps []
  m : mg x = some (.ref f)
noncomputable def FnAt (K : PySem.W.Frag) (x : Str) (st : Stmt) : Prop := ∃ (f : Addr) (od an : Option Addr) (sl : Array (Option Value)) (oc kV dc pm cd ct : Value), PySem.W.nsIn K mainGlobals x = some (some (.ref f)) ∧ K.lookup f = some ⟨oc, od, .func (PySem.W.fnOf x x (defArgs st) (defBody st) (defScope st) .none kV dc pm an cd ct), sl⟩ ∧ PySem.W.codeIn K cd x = true ∧ PySem.W.keepIn K (.ref f) = true
noncomputable abbrev fnQ (x : Str) (st : Stmt) (kV dc pm : Value) (an : Option Addr) (cd ct : Value) : FuncData := PySem.W.fnOf x x (defArgs st) (defBody st) (defScope st) .none kV dc pm an cd ct
noncomputable def Bd (x : Str) (st : Stmt) (ps : List Str) : Prop := ∀ (kV doc pm : Value) (an : Option Addr) (cdv ct : Value) (us : List Value), us.length = ps.length → bindArgs (fnQ x st kV doc pm an cdv ct) ⟨us, []⟩ = pure (ps.zip us)
section
variable {x a b c d e : Str} {st : Stmt}
theorem bd1 (h : ∀ kV dc pm an cd ct u, bindArgs (fnQ x st kV dc pm an cd ct) ⟨[u], []⟩ = pure [(a, u)]) : Bd x st [a] := fun _ _ _ _ _ _ us hl => match us, hl with | [_], _ => h _ _ _ _ _ _ _
theorem bd2 (h : ∀ kV dc pm an cd ct u v, bindArgs (fnQ x st kV dc pm an cd ct) ⟨[u, v], []⟩ = pure [(a, u), (b, v)]) : Bd x st [a, b] := fun _ _ _ _ _ _ us hl => match us, hl with | [_, _], _ => h _ _ _ _ _ _ _ _
theorem bd3 (h : ∀ kV dc pm an cd ct u v z, bindArgs (fnQ x st kV dc pm an cd ct) ⟨[u, v, z], []⟩ = pure [(a, u), (b, v), (c, z)]) : Bd x st [a, b, c] := fun _ _ _ _ _ _ us hl => match us, hl with | [_, _, _], _ => h _ _ _ _ _ _ _ _ _
end
section
variable {K : PySem.W.Frag} {h : Heap} {mg : Str → Option Value} {x : Str} {st : Stmt} {ps : List Str}
noncomputable def fn_t (X : K.In h) (G : h.Ns mainGlobals mg) (g : FnAt K x st) (hb : Bd x st ps) : FnT K mg x st ps := Classical.choice (by
  obtain ⟨f, od, an, sl, oc, kV, dc, pm, cd, ct, a, l, c, k⟩ := g
  exact ⟨⟨f, _, fun_mk l c k, (fun_mk l c k).binds hb, PySem.W.mg_of X G a⟩⟩)
theorem all_of {P : Program} {w : World} {k : Nat} {sp : Sp} {p : Str} {fa : Addr} (t : FnT K mg x st [p]) (hb : Bd x st [p]) (hfa : mg x = some (.ref fa)) (ok : ∀ base : Heap, FnOk P w K mg base CX0 k t.f t.fd [p] sp) :
    ∃ fd : FuncData, (∀ (s : Shared) (v : Value), BindsTo s fd ⟨[v], []⟩ [(p, v)]) ∧ ∀ base : Heap, K.In base → base.Ns mainGlobals mg → FnOk P w K mg base CX0 k fa fd [p] sp := by
  have e := hfa.symm.trans t.m
  cases e
  refine ⟨t.fd, fun s v => ?_, fun base _ _ => ok base⟩
  obtain ⟨oc, od, kV, doc, pm, an, cdv, ct, osl, e, lk, hcd⟩ := t.F.ex
  rw [e]
  exact .of_eq (hb kV doc pm an cdv ct [v] rfl)
end
noncomputable abbrev OkT (P : Program) (w : World) (base : Heap) {K : PySem.W.Frag} {mg : Str → Option Value} {x : Str} {st : Stmt} {ps : List Str} (t : FnT K mg x st ps) (k n : Nat) (d : List D → Option D) : Prop := FnOk P w K mg base CX0 k t.f t.fd ps (spF K n d)
noncomputable abbrev OkTL (P : Program) (w : World) (base : Heap) {K : PySem.W.Frag} {mg : Str → Option Value} {x : Str} {st : Stmt} {ps : List Str} (t : FnT K mg x st ps) (k n : Nat) (d : List D → Option (List D)) : Prop := FnOk P w K mg base CX0 k t.f t.fd ps (spL K n d)
section
variable {X : Cx} {e : Expr} {es : List Expr} {ga : Lf} {pos p : Pos} {x : Str} {st : Stmt} {ps : List Str}
theorem pf_c {j k n : Nat} {t : FnT X.K X.mg x st ps} {fD : List D → Option D} (F : FnOk X.prog X.w X.K X.mg X.base CX0 j t.f t.fd ps (spF X.K n fD)) (hr : Room k X.A) (ha : PFA X (e :: es) ga) (hj : j ≤ k := by omega) (hg : Gl X x := by rfl) (hdb : (x == ("__debug__" : Str)) = false := by decide) (he : starEach (e :: es) X.env = (false, eval e X.env) :: starEach es X.env := by rfl) (hpl : (backTo pos (starEach es X.env)).any (·.1) = false := by rfl) :
    PF X (.Call (.Name x p) (e :: es) [] pos) (eCall n fD ga) := pf_call F (hr.mono hj) t.m t.F.kp t.b hg ha hdb he hpl
theorem pl_c {j k n : Nat} {t : FnT X.K X.mg x st ps} {fD : List D → Option (List D)} (F : FnOk X.prog X.w X.K X.mg X.base CX0 j t.f t.fd ps (spL X.K n fD)) (hr : Room k X.A) (ha : PFA X (e :: es) ga) (hj : j ≤ k := by omega) (hg : Gl X x := by rfl) (hdb : (x == ("__debug__" : Str)) = false := by decide) (he : starEach (e :: es) X.env = (false, eval e X.env) :: starEach es X.env := by rfl) (hpl : (backTo pos (starEach es X.env)).any (·.1) = false := by rfl) :
    PFr X (.Call (.Name x p) (e :: es) [] pos) (lCall n fD ga) := pl_call F (hr.mono hj) t.m t.F.kp t.b hg ha hdb he hpl
end
theorem sc_of {N P : List Str} {sc : Scope} (h : (sc.kind == .function && !sc.isCoroutine && !sc.isGenerator && decide (N.take P.length = P) && decide N.Nodup && decide (∀ x ∈ P, sc.names.lookup x = some .local ∨ sc.names.lookup x = some .cell) && decide (∀ y ∈ sc.names, y.2 ≠ .free)) = true) : FnScope N P sc := by
  simp only [Bool.and_eq_true, decide_eq_true_eq, Bool.not_eq_true'] at h
  obtain ⟨⟨⟨⟨⟨⟨h1, h2⟩, h3⟩, h4⟩, h5⟩, h6⟩, h7⟩ := h
  refine ⟨?_, h2, h3, h5, h4, h6, h7⟩
  generalize sc.kind = k at h1
  cases k <;> first | rfl | cases h1
end L2

namespace L2
open PySem PySem.Spec PyProof.Rows
section
variable {X : Cx} {a b c e : Expr} {es : List Expr} {fa fb fc : Ef} {ga gb : Lf} {pos p : Pos}
end
end L2

namespace L2
open PySem PySem.Spec PyProof.Rows
inductive All2 {α β : Type} (R : α → β → Prop) : List α → List β → Prop
  | nil : All2 R [] []
  | cons {a b l m} : R a b → All2 R l m → All2 R (a :: l) (b :: m)
section
variable {prog : Program} {w : World} {E : Value → Shared → Prop}
end
end L2

namespace L2
open PySem PySem.Spec PyProof.Rows
section
variable {X : Cx} {pins : List (Addr × Obj)} {σ : St} {G H : Hp} {s : Shared}
end
section
variable {K : PySem.W.Frag} {G0 H0 G H : Hp} {σ : St} {ρ : List B}
end
section
variable {X : Cx} {a b c e : Expr} {fa fb fc : Ef} {pos p p1 p2 : Pos} {k : Nat}
end
end L2

namespace L2
open PySem PySem.Spec PyProof.Rows
section
variable {prog : Program} {w : World} {A : Around} {E : Value → Shared → Prop} {s : Shared}
theorem call_tree_kw {id : String} {b : Builtin} {args : List Value} {kw : List (Str × Value)} {Q : Value → Shared → Prop} (hk : builtinKind id = none) (hp : plainId id = true)
    (hb : entryFor table id = some b) (ha : argsOk id ⟨args, kw⟩)
    (hc : wpAny (model prog w) A.in1 (b ⟨args, kw⟩) (fun fin s' => match fin with
      | .done f => (match (Except.ok f : Result) with | .ok (.ret v) => Q v s' | .ok _ => False | .error e => E e s')
      | .again c' => c'.quiet = true ∧ codeAny (model prog w) A c' (fun r s' => match r with | .ok (.ret v) => Q v s' | .ok _ => False | .error e => E e s') s') E s) :
    wpAny (model prog w) A (call (.builtin id) args kw) Q E s := by
  refine wpAny_call (codeAny_call_builtin hp hb ?_)
  simp only [checkBuiltinCall, hk]
  cases hsig : Manifest.signature? id with
  | none => exact wpAny_pure hc
  | some sig =>
    have h2 : Bind.checkArgs id sig ⟨args, kw⟩ = pure () := by simpa only [argsOk, hsig] using ha
    show wpAny _ A.in1 (Bind.checkArgs id sig ⟨args, kw⟩) _ _ s
    rw [h2]; exact wpAny_pure hc
end
section
variable {X : Cx} {a : Expr} {ga : Lf} {pos p : Pos}
end
end L2

namespace L2
open PySem PySem.Spec PyProof.Rows
section
variable {X : Cx} {a b c e : Expr} {fa fb : Ef} {ga : Lf} {pos p : Pos}
end
end L2

namespace L2
open PySem PySem.Spec PyProof.Rows
section
variable {prog : Program} {w : World} {A : Around} {R : Result → Shared → Prop} {I : Addr} {fp wr : List Addr} {n : Nat} {P : Nat → Value → Prop} {St : Nat → Heap → Prop}
end
section
variable {prog : Program} {w : World} {A : Around} {E : Value → Shared → Prop} {s : Shared}
end
section
variable {X : Cx} {a : Expr} {ga : Lf} {pos p : Pos}
end
end L2

namespace L2
open PySem PySem.Spec PyProof.Rows

noncomputable def ItzL (K : PySem.W.Frag) (a b : Addr) : It :=
  ⟨fun i H => ∃ xs ys x y, SqL K H a xs ∧ SqL K H b ys ∧ xs[i]? = some x ∧ ys[i]? = some y, fun i H x H' => ∃ p v u, H p = none ∧ x = .ref p ∧ H' = upd H p (.tup [v, u]) ∧ (∀ xs, SqL K H a xs → xs[i]? = some v) ∧ ∀ ys, SqL K H b ys → ys[i]? = some u,
    fun i H => ∃ xs ys, SqL K H a xs ∧ SqL K H b ys ∧ (xs.length ≤ i ∨ ys.length ≤ i)⟩
theorem turn_zipL {P : Program} {w : World} {K : PySem.W.Frag} {elts : List Expr} {k : Nat} {pos : Pos} (a b n : Addr) : Turn P w K (.Tuple elts k pos) (ItzL K a b) [n + 4, n + 2, n + 3, n, n + 1] (n + 4)
    (fun i h => IsZip h (n + 4) (n + 2) (n + 3) .none ∧ IsPair h (n + 2) (.ref n) (.ref (n + 1)) ∧ (∃ p q, IsPair h (n + 3) p q) ∧ h.IsListIter n a i ∧ h.IsListIter (n + 1) b i) where
  mem := by simp
  obj := fun i h st c hc => by
    obtain ⟨h1, h2, ⟨p, q, h3⟩, ⟨o1, e1, _, d1⟩, ⟨o2, e2, _, d2⟩⟩ := st
    simp only [List.mem_cons, List.not_mem_nil, or_false] at hc
    rcases hc with z | z | z | z | z
    · subst z; exact ⟨_, h1, fun v q => nomatch q⟩
    · subst z; exact ⟨_, h2, fun v q => nomatch q⟩
    · subst z; exact ⟨_, h3, fun v q => nomatch q⟩
    · subst z; exact ⟨o1, e1, fun v q => by rw [d1] at q; cases q⟩
    · subst z; exact ⟨o2, e2, fun v q => by rw [d2] at q; cases q⟩
  keep := fun i h h' st kk => by
    obtain ⟨h1, h2, ⟨p, q, h3⟩, ⟨o1, e1, r1⟩, ⟨o2, e2, r2⟩⟩ := st
    exact ⟨kk _ (by simp) _ h1, kk _ (by simp) _ h2, ⟨p, q, kk _ (by simp) _ h3⟩, ⟨o1, kk _ (by simp) _ e1, r1⟩, ⟨o2, kk _ (by simp) _ e2, r2⟩⟩
  item := by
    intro X hP hw hK hc i pins s σ H E I hf st hg
    subst hP hw hK
    obtain ⟨xs, ys, x, y, hq, hq', hx, hy⟩ := hg
    obtain ⟨its, rv, p1, hz⟩ := I.list hq
    obtain ⟨jts, rv', p2, hz'⟩ := I.list hq'
    obtain ⟨u, hu, ru⟩ := rv.get hx
    obtain ⟨u', hu', ru'⟩ := rv'.get hy
    obtain ⟨h1, h2, ⟨p, q, h3⟩, h4, h5⟩ := st
    have apart : ∀ c ∈ [n + 4, n + 2, n + 3, n, n + 1], ∀ v : List V, ∀ d : Addr, SqL X.K H d v → d ≠ c := fun c hc v d hd z => by
      have e := (hf c hc).1
      obtain ⟨its, _, ⟨o, e1, e2, _⟩, _⟩ := I.list hd
      rcases hd with (hd | ⟨ob, hd⟩) | hd
      · rw [z, e] at hd; cases hd
      · rw [z, e] at hd; cases hd
      · obtain ⟨ob, _, _, hk, _⟩ := hd
        have e3 := I.ok.mod.kin d ob hk
        obtain ⟨_, q1, _, q3, _⟩ := hf c hc
        rcases q3 with q3 | q3
        · exact I.ok.noex d ob e3 (z ▸ q3)
        · exact absurd (Nat.lt_of_lt_of_le (Heap.lt_size (I.ok.bs d ob e3).1) (z ▸ q3)) (Nat.lt_irrefl _)
    have D : ZipApart (n + 4) (n + 2) (n + 3) n (n + 1) a b := ⟨zne 2 4 (by decide), zne 3 4 (by decide), zne 0 4 (by decide), zne 1 4 (by decide), zne 2 3 (by decide), zne 2 0 (by decide), zne 2 1 (by decide), zne 3 0 (by decide), zne 3 1 (by decide), zne 0 1 (by decide), apart _ (by simp) xs a hq, apart _ (by simp) xs a hq, apart _ (by simp) xs a hq, apart _ (by simp) xs a hq, apart _ (by simp) ys b hq', apart _ (by simp) ys b hq', apart _ (by simp) ys b hq', apart _ (by simp) ys b hq'⟩
    refine wpAny_pyNext_zip_item D h1 h2 h3 h4 h5 p1.isList p2.isList (x := u) (y := u') (by simpa using hu) (by simpa using hu') fun g g1 g2 g3 g4 g5 _ hk => ?_
    have hk' : ∀ c o, c ∉ [n + 4, n + 2, n + 3, n, n + 1] → s.heap.get? c = some o → g.get? c = some o := fun c o hc e => hk c o (fun z => hc (by simp [z])) (fun z => hc (by simp [z])) (fun z => hc (by simp [z])) (fun z => hc (by simp [z])) e
    have I1 : Inv X pins σ (upd H s.heap.objs.size (.tup [x, y])) { s with heap := g } := I.turnedNew (t' := s.toks) hk' hf (Nat.le_refl _) ⟨by show 2 ≤ sizeLine; exact Nat.le_of_lt (lim_ok (by decide)), [u, u'], .cons ru (.cons ru' .nil), ⟨_, g5, rfl, _, rfl⟩⟩
    refine ⟨_, rfl, wpAny_letOwnedTupleGo_zip g1 fun g' z' t' => ?_⟩
    have t' : Heap.SameBut (n + 4) g g' := t'
    have neT : ∀ c ∈ [n + 4, n + 2, n + 3, n, n + 1], c ≠ s.heap.objs.size := fun c hc z => by
      have lt : c < s.heap.objs.size := by
        obtain ⟨o1, e1, _⟩ := h4
        obtain ⟨o2, e2, _⟩ := h5
        simp only [List.mem_cons, List.not_mem_nil, or_false] at hc
        rcases hc with q | q | q | q | q
        · rw [q]; exact Heap.lt_size h1
        · rw [q]; exact Heap.lt_size h2
        · rw [q]; exact Heap.lt_size h3
        · rw [q]; exact Heap.lt_size e1
        · rw [q]; exact Heap.lt_size e2
      rw [z] at lt
      exact Nat.lt_irrefl _ lt
    have hf1 : ∀ c ∈ [n + 4, n + 2, n + 3, n, n + 1], FpOk X pins (upd H s.heap.objs.size (.tup [x, y])) c := fun c hc => ⟨by rw [upd_ne (neT c hc)]; exact (hf c hc).1, (hf c hc).2⟩
    have I2 := I1.turnedL (h' := g') (t' := s.toks) (fp := [n + 4, n + 2, n + 3, n, n + 1]) (fun c o hc e => (t'.2 c (fun z => hc (by simp [z]))).trans e) hf1
    have g2' : IsPair g (n + 2) (.ref n) (.ref (n + 1)) := hk _ _ D.TIz D.TITO D.TIi1 D.TIi2 h2
    obtain ⟨o3, e3, r3⟩ := g3
    obtain ⟨o4, e4, r4⟩ := g4
    exact ⟨.ref s.heap.objs.size, _, I2, rfl, ⟨s.heap.objs.size, x, y, I.fresh, rfl, rfl, fun zs hs => by rw [I.list_inj hs hq]; exact hx, fun zs hs => by rw [I.list_inj hs hq']; exact hy⟩,
      ⟨z', (t'.2 _ D.TIz).trans g2', ⟨_, _, (t'.2 _ D.TOz).trans g2⟩, ⟨o3, (t'.2 _ D.i1z).trans e3, r3⟩, ⟨o4, (t'.2 _ D.i2z).trans e4, r4⟩⟩, fun c hc => (hf1 c hc).1⟩
  done := by
    intro X hP hw hK hc i pins s σ H E I hf st hg
    subst hP hw hK
    obtain ⟨xs, ys, hq, hq', hx⟩ := hg
    obtain ⟨its, rv, p1, hz⟩ := I.list hq
    obtain ⟨jts, rv', p2, hz'⟩ := I.list hq'
    obtain ⟨h1, h2, ⟨p, q, h3⟩, h4, h5⟩ := st
    have apart : ∀ c ∈ [n + 4, n + 2, n + 3, n, n + 1], ∀ v : List V, ∀ d : Addr, SqL X.K H d v → d ≠ c := fun c hc v d hd z => by
      have e := (hf c hc).1
      rcases hd with (hd | ⟨ob, hd⟩) | hd
      · rw [z, e] at hd; cases hd
      · rw [z, e] at hd; cases hd
      · obtain ⟨ob, _, _, hk, _⟩ := hd
        have e3 := I.ok.mod.kin d ob hk
        obtain ⟨_, q1, _, q3, _⟩ := hf c hc
        rcases q3 with q3 | q3
        · exact I.ok.noex d ob e3 (z ▸ q3)
        · exact absurd (Nat.lt_of_lt_of_le (Heap.lt_size (I.ok.bs d ob e3).1) (z ▸ q3)) (Nat.lt_irrefl _)
    have D : ZipApart (n + 4) (n + 2) (n + 3) n (n + 1) a b := ⟨zne 2 4 (by decide), zne 3 4 (by decide), zne 0 4 (by decide), zne 1 4 (by decide), zne 2 3 (by decide), zne 2 0 (by decide), zne 2 1 (by decide), zne 3 0 (by decide), zne 3 1 (by decide), zne 0 1 (by decide), apart _ (by simp) xs a hq, apart _ (by simp) xs a hq, apart _ (by simp) xs a hq, apart _ (by simp) xs a hq, apart _ (by simp) ys b hq', apart _ (by simp) ys b hq', apart _ (by simp) ys b hq', apart _ (by simp) ys b hq'⟩
    have l1 := rv.length
    have l2 := rv'.length
    refine wpAny_pyNext_zip_end (I.ok.hd hc) D h1 h2 h3 h4 h5 p1.isList p2.isList ?_ fun g hk => ⟨rfl, I.turnedL (t' := s.toks) (fp := [n + 4, n + 2, n + 3, n, n + 1]) (fun c o hc e => hk c o (fun z => hc (by simp [z])) (fun z => hc (by simp [z])) (fun z => hc (by simp [z])) (fun z => hc (by simp [z])) e) hf⟩
    rcases hx with q | q
    · exact .inl (by simp; omega)
    · exact .inr (by simp; omega)
  self := fun _ _ _ _ _ st h => wpAny_pyIter_zip st.1 h
theorem yields_zipL {K : PySem.W.Frag} {G : Hp} {a b : Addr} {vs us : List V} {ds es : List D} (h : SqL K G a vs) (r : Reps K G ds vs) (h' : SqL K G b us) (r' : Reps K G es us) : Yields K (ItzL K a b) G (zipD ds es) := by
  intro i G2 H2 s1 s2
  have q : SqL K H2 a vs := (s1.trans s2).seq h
  have q' : SqL K H2 b us := (s1.trans s2).seq h'
  refine ⟨fun d hd => ?_, fun hi => ⟨vs, us, q, q', ?_⟩⟩
  · obtain ⟨x, y, h1, h2, rfl⟩ := zipD_get hd
    obtain ⟨v, e1, rv⟩ := r.get h1
    obtain ⟨u, e2, ru⟩ := r'.get h2
    refine ⟨⟨vs, us, v, u, q, q', e1, e2⟩, fun x' H3 yy => ?_⟩
    obtain ⟨p, v', u', hp, rfl, rfl, y1, y2⟩ := yy
    have f1 := y1 vs q
    rw [e1] at f1; cases f1
    have f2 := y2 us q'
    rw [e2] at f2; cases f2
    have s3 := Step.laid (o := .tup [v, u]) s2 hp
    exact ⟨_, s3, rep_tup.mpr ⟨p, _, rfl, .of upd_same, reps_cons.mpr ⟨_, _, rfl, (rv.mono s1).mono s3.gg, reps_cons.mpr ⟨_, _, rfl, (ru.mono s1).mono s3.gg, reps_nil.mpr rfl⟩⟩⟩⟩
  · rw [zipD_len] at hi
    rw [← r.length, ← r'.length]
    omega
section
variable {X : Cx} {a b c e tg elt iter : Expr} {fa fb : Ef} {pos p : Pos}
noncomputable def iZipL (f g : Ef) : Lf := fun ρ => (f ρ).bind fun x => (g ρ).bind fun y => match x, y with | .lst xs, .lst ys => some (zipD xs ys) | _, _ => none
theorem pi_zipL {elts : List Expr} {k : Nat} {pos' : Pos} (hg : Gl X "zip") (hm : X.mg "zip" = none) (ha : PF X a fa) (hb : PF X b fb) (hs : starEach [a, b] X.env = [(false, eval a X.env), (false, eval b X.env)] := by rfl) (hs2 : starEach [b] X.env = [(false, eval b X.env)] := by rfl) :
    PFI X (.Tuple elts k pos') (.Call (.Name "zip" p) [a, b] [] pos) (iZipL fa fb) := by
  intro pins s σ H R I q
  obtain ⟨G0, H0, G, ρ, ds, good, hf, kk⟩ := q
  unfold iZipL at hf
  obtain ⟨x, h1, hf⟩ := Option.bind_eq_some_iff.mp hf
  obtain ⟨y, h2, hf⟩ := Option.bind_eq_some_iff.mp hf
  cases x with
  | lst xs =>
    cases y with
    | lst ys =>
      cases hf
      have hA := pa_cons ha (pa_cons hb pa_nil (by rw [hs2]; rfl)) (by rw [hs, hs2]) pos pins s σ H (fun vs H' => ∃ a b us ws G', vs = [.ref a, .ref b] ∧ Step G H G' H' ∧ SqL X.K G' a us ∧ Reps X.K G' xs us ∧ SqL X.K G' b ws ∧ Reps X.K G' ys ws) I
        ⟨G0, H0, G, ρ, _, good, h1, fun v H1 G1 s1 r1 => ⟨G0, H0, G1, ρ, _, good.step s1, h2, fun u H2 G2 s2 r2 => by
          obtain ⟨a, us, rfl, q1, q2⟩ := rep_lst.mp (r1.mono s2.gg)
          obtain ⟨b, ws, rfl, q3, q4⟩ := rep_lst.mp r2
          exact ⟨a, b, us, ws, G2, rfl, s1.trans s2, q1, q2, q3, q4⟩⟩⟩
      refine Call_ (ld_blt I hg hm (by rfl) (PyProof.Rows.callWith_type1 (thn hA fun us s1 ⟨vs, H1, I1, r1, l1, l2, ws, zs, G1, e1, st1, q1, q2, q3, q4⟩ => ?_) (by rw [hs, hs2]) (by rw [hs2]; rfl)))
      subst e1
      obtain ⟨u, u', rfl, ru, ru'⟩ := vals2 r1
      cases ru
      cases ru'
      obtain ⟨its, rv, p1, _⟩ := I1.list (st1.sub.seq q1)
      obtain ⟨jts, rv', p2, _⟩ := I1.list (st1.sub.seq q3)
      refine call_zip_2 p1.isList p2.isList fun h' z1 z2 z3 z4 z5 _ hk => ?_
      have I2 : Inv X pins σ H1 { s1 with heap := h' } := I1.kept (t' := s1.toks) hk
      refine wpAny_pyIter_zip z1 ?_
      refine ⟨_, [s1.heap.objs.size + 4, s1.heap.objs.size + 2, s1.heap.objs.size + 3, s1.heap.objs.size, s1.heap.objs.size + 1], _, _, H1, rfl, I2, turn_zipL l1 l2 s1.heap.objs.size, ⟨z1, z2, ⟨_, _, z3⟩, z4, z5⟩, fun b hb => ?_, kk _ H1 G1 st1 (yields_zipL q1 q2 q3 q4)⟩
      have hb' : s1.heap.objs.size ≤ b := by
        simp only [List.mem_cons, List.not_mem_nil, or_false] at hb
        rcases hb with z | z | z | z | z <;> (rw [z]; first | exact Nat.le_refl _ | exact Nat.le_add_right _ _)
      exact I1.fpOk hb' (I1.hok.fresh hb')
    | _ => cases hf
  | _ => cases hf
end

theorem Good.lend {K : PySem.W.Frag} {G0 H0 G H : Hp} {σ : St} {ρ : List B} (g : Good K G0 H0 G H σ ρ) {i : Nat} {ds : List D} (e : ρ[i]? = some (.ow ds)) : ∃ p vs, G p = none ∧ H p = some (.lst vs) ∧ Good K G0 H0 (upd G p (.lst vs)) H σ (frzB i ρ) := by
  have fe : frzB i ρ = ρ.set i (.fz (.lst ds)) := by unfold frzB; rw [e]
  rw [fe]
  · skip
    obtain ⟨p, vs, h1, h2, h3, h4, h5⟩ := g.addr e
    have sG : SameT G (upd G p (.lst vs)) := SameT.new g.sub.ta h3
    have st : Step G0 H0 (upd G p (.lst vs)) H := by
      refine ⟨g.st.hh, g.st.gg.trans sG, ⟨sG.tb, g.st.sub.tb, fun b o q => ?_⟩, fun b hb => ?_⟩
      · by_cases z : b = p
        · subst z; rw [upd_same] at q; rw [h2]; exact .inl q
        · rw [upd_ne z] at q; exact g.st.sub.le b o q
      · rw [upd_ne (fun z : b = p => hb (by rw [z]; exact h4))]; exact g.st.new b hb
    have vals : Paired (RB K H0 (upd G p (.lst vs)) H) σ (ρ.set i (.fz (.lst ds))) := by
      have key : ∀ (l : List (Option V)) (r : List B) (n : Nat), Paired (RB K H0 G H) l r → (∀ j es, n + j ≠ i → r[j]? = some (.ow es) → l[j]? ≠ some (some (.ref p))) → (∀ j, n + j = i → l[j]? = some (some (.ref p))) →
          Paired (RB K H0 (upd G p (.lst vs)) H) l (if i < n then r else r.set (i - n) (.fz (.lst ds))) := by
        intro l r n q
        induction q generalizing n with
        | nil => intro _ _; split <;> exact .nil
        | @cons o b l' r' q t ih =>
          intro hne hat
          have tl := ih (n + 1) (fun j es z e => by have := hne (j + 1) es (by omega) (by simpa using e); simpa using this) (fun j z => by have := hat (j + 1) (by omega); simpa using this)
          have keepq : (∀ es, b = .ow es → o ≠ some (.ref p)) → RB K H0 (upd G p (.lst vs)) H o b := fun hb => by
            cases q with
            | no => exact .no
            | fz r => exact .fz (r.mono sG)
            | @ow c vs' ds' c1 c2 c3 c4 =>
              have : c ≠ p := fun z => hb _ rfl (by rw [z])
              exact .ow c1 (by rw [upd_ne this]; exact c2) c3 (c4.mono sG)
            | @od c _ _ _ _ c1 c2 c3 c4 c5 c6 =>
              have : c ≠ p := fun z => by rw [z, h2] at c1; cases c1
              exact .od c1 (by rw [upd_ne this]; exact c2) c3 (c4.mono sG) c5 c6
          by_cases h1 : i < n
          · rw [if_pos h1]
            rw [if_pos (by omega)] at tl
            exact .cons (keepq fun es e z => hne 0 es (by omega) (by simp [e]) (by simp [z])) tl
          · rw [if_neg h1]
            by_cases h2 : i = n
            · subst h2
              rw [if_pos (by omega)] at tl
              have := hat 0 (by omega)
              simp at this
              subst this
              rw [Nat.sub_self]
              exact .cons (.fz (rep_lst.mpr ⟨p, vs, rfl, .of upd_same, h5.mono sG⟩)) tl
            · rw [if_neg (by omega)] at tl
              have e : i - n = (i - (n + 1)) + 1 := by omega
              rw [e]
              exact .cons (keepq fun es e z => hne 0 es (by omega) (by simp [e]) (by simp [z])) tl
      have v := key σ ρ 0 g.vals (fun j es' z e' w => by have := g.apart j i p es' ds e' e w h1; omega) (fun j z => by rw [show j = i by omega]; exact h1)
      rw [if_neg (Nat.not_lt_zero _), Nat.sub_zero] at v
      exact v
    refine ⟨p, vs, h3, h2, st, vals, fun j k b d1 d2 e1 e2 e3 e4 => ?_⟩
    obtain ⟨_, f1⟩ := getElem?_set_fz e1
    obtain ⟨_, f2⟩ := getElem?_set_fz e2
    exact g.apart j k b d1 d2 f1 f2 e3 e4

mutual
noncomputable def flat : D → Bool
  | .non => true
  | .bl _ => true
  | .int _ => true
  | .str _ => true
  | .tup ds => flats ds
  | _ => false
noncomputable def flats : List D → Bool
  | [] => true
  | d :: r => flat d && flats r
end
noncomputable def outB (G : Hp) (p : Addr) : Hp := fun a => if a = p then none else G a
theorem outB_ne {G : Hp} {p a : Addr} (h : a ≠ p) : outB G p a = G a := if_neg h
theorem outB_self {G : Hp} {p : Addr} : outB G p p = none := if_pos rfl
theorem SqT.out {K : PySem.W.Frag} {G : Hp} {p a : Addr} {us vs : List V} (hp : G p = some (.lst us)) (h : SqT K G a vs) : SqT K (outB G p) a vs := by
  rcases h with (h | ⟨o, h⟩) | h
  · exact .inl (.inl (by rw [outB_ne (fun z => by rw [z, hp] at h; cases h)]; exact h))
  · exact .inl (.inr ⟨o, by rw [outB_ne (fun z => by rw [z, hp] at h; cases h)]; exact h⟩)
  · exact .inr h
mutual
theorem Rep.out {K : PySem.W.Frag} {G : Hp} {p : Addr} {us : List V} (hp : G p = some (.lst us)) : ∀ (d : D) (v : V), flat d = true → Rep K G d v → Rep K (outB G p) d v
  | .non, _, _, h => by unfold Rep at h ⊢; exact h
  | .bl _, _, _, h => by unfold Rep at h ⊢; exact h
  | .int _, _, _, h => by unfold Rep at h ⊢; exact h
  | .str _, _, _, h => by unfold Rep at h ⊢; exact h
  | .tup ds, _, f, h => by
    unfold Rep at h ⊢
    obtain ⟨a, vs, h1, h2, h3⟩ := h
    exact ⟨a, vs, h1, SqT.out hp h2, Reps.out hp ds vs (by unfold flat at f; exact f) h3⟩
  | .lst ds, _, f, _ => by unfold flat at f; cases f
  | .obj C ns ds, _, f, _ => by unfold flat at f; cases f
  | .exc C ns ds, _, f, _ => by unfold flat at f; cases f
theorem Reps.out {K : PySem.W.Frag} {G : Hp} {p : Addr} {us : List V} (hp : G p = some (.lst us)) : ∀ (ds : List D) (vs : List V), flats ds = true → Reps K G ds vs → Reps K (outB G p) ds vs
  | [], _, _, h => by unfold Reps at h ⊢; exact h
  | d :: r, _, f, h => by
    unfold Reps at h ⊢
    obtain ⟨v, vr, h1, h2, h3⟩ := h
    unfold flats at f
    rw [Bool.and_eq_true] at f
    exact ⟨v, vr, h1, Rep.out hp d v f.1 h2, Reps.out hp r vr f.2 h3⟩
end
theorem TB.out {H : Hp} {p : Addr} {us : List V} (h : TB H) (hp : H p = some (.lst us)) : TB (outB H p) := by
  have ne : ∀ {b : Addr} {u : HO}, H b = some u → (∀ us, u ≠ .lst us) → b ≠ p := fun e n z => by rw [z, hp] at e; exact n _ (Option.some.inj e).symm
  refine ⟨fun P ps e => ?_, fun P hP => ?_⟩
  · have z : P ≠ p := fun z => by rw [z, outB_self] at e; cases e
    rw [outB_ne z] at e
    obtain ⟨h1, h2⟩ := h.1 P ps e
    refine ⟨h1, fun pos cv q => ?_⟩
    obtain ⟨c, o', u, vs, t, r1, r2, r3, r4⟩ := h2 pos cv q
    exact ⟨c, o', u, vs, t, r1, by rw [outB_ne (ne r2 fun _ z => nomatch z)]; exact r2, r3, r4⟩
  · obtain ⟨ps, e⟩ := h.2 P hP
    exact ⟨ps, by rw [outB_ne (ne e fun _ z => nomatch z)]; exact e⟩
theorem Step.back {G H G1 H' : Hp} {p : Addr} {us : List V} (s : Step (upd G p (.lst us)) H G1 H') (hG : G p = none) (hH : H p = some (.lst us)) : Step G H (outB G1 p) H' ∧ G1 p = some (.lst us) := by
  have h1 : G1 p = some (.lst us) := s.gg.get upd_same
  have tG : TB G := by
    have e : outB (upd G p (.lst us)) p = G := funext fun b => by
      by_cases hb : b = p
      · rw [hb, outB_self, hG]
      · rw [outB_ne hb, upd_ne hb]
    exact e ▸ s.gg.ta.out upd_same
  have t1 := s.gg.tb.out h1
  refine ⟨⟨s.hh, ⟨tG, t1, fun b u e => ?_⟩, ⟨t1, s.sub.tb, fun b u e => ?_⟩, fun a ha => ?_⟩, h1⟩
  · have hb : b ≠ p := fun z => by rw [z, hG] at e; cases e
    rw [outB_ne hb]
    exact s.gg.le b u (by rw [upd_ne hb]; exact e)
  · by_cases hb : b = p
    · rw [hb, outB_self] at e; cases e
    · rw [outB_ne hb] at e; exact s.sub.le b u e
  · by_cases hb : a = p
    · rw [hb, outB_self, hG]
    · rw [outB_ne hb, s.new a ha, upd_ne hb]
section
variable {X : Cx} {e : Expr} {fa : Ef} {ga : Lf} {ta : Tf}
noncomputable def isOw (i : Nat) (ρ : List B) : Bool := match ρ[i]? with | some (.ow _) => true | _ => false
theorem isOw_inv {i : Nat} {ρ : List B} (h : isOw i ρ = true) : ∃ ds, ρ[i]? = some (.ow ds) := by
  unfold isOw at h
  split at h
  · exact ⟨_, by assumption⟩
  · cases h
noncomputable def tLend (i : Nat) (t : Tf) : Tf := fun ρ => if isOw i ρ then t (frzB i ρ) else none
theorem pt_lend (i : Nat) (h : PFT X e ta) : PFT X e (tLend i ta) := by
  refine PT.to h ?_
  rintro σ H Q ⟨G0, H0, G, ρ, b, good, hf, k⟩
  unfold tLend at hf
  split at hf
  · rename_i ho
    obtain ⟨ds, ho⟩ := isOw_inv ho
    obtain ⟨p, vs, hG, hH, good'⟩ := good.lend ho
    exact ⟨G0, H0, _, _, b, good', hf, fun H' G1 s => k H' _ (s.back hG hH).1⟩
  · cases hf
noncomputable def lLend (i : Nat) (g : Lf) : Lf := fun ρ => if isOw i ρ then (g (frzB i ρ)).bind fun ds => if flats ds then some ds else none else none
theorem pl_lend (i : Nat) (h : PFr X e ga) : PFr X e (lLend i ga) := by
  refine PE.toR h ?_
  rintro σ H Q ⟨G0, H0, G, ρ, d, good, hf, k⟩
  unfold lLend at hf
  split at hf
  · rename_i ho
    obtain ⟨ds, ho⟩ := isOw_inv ho
    obtain ⟨d', h1, hf⟩ := Option.bind_eq_some_iff.mp hf
    split at hf
    · rename_i fl
      cases hf
      obtain ⟨p, vs, hG, hH, good'⟩ := good.lend ho
      exact ⟨G0, H0, _, _, _, good', h1, fun a us H' G1 s hn ha g1 rs => by
        obtain ⟨st, hp⟩ := s.back hG hH
        have ne : a ≠ p := fun z => by rw [z, hH] at hn; cases hn
        exact k a us H' _ st hn ha (by rw [outB_ne ne]; exact g1) (Reps.out hp _ _ fl rs)⟩
    · cases hf
  · cases hf
noncomputable def tTru (f : Ef) : Tf := fun ρ => (f ρ).bind fun x => match x with | .lst ds => some (!ds.isEmpty) | _ => none
theorem pt_truF (ha : PF X e fa) (he : ∀ whole, isTrue e X.env whole = (do let v ← whole; standAt e.pos; holding [v] (truthy v)) := by intro _; rfl) : PFT X e (tTru fa) := by
  refine PT.to (pt_truth ha he) ?_
  rintro σ H Q ⟨G0, H0, G, ρ, c, good, hf, k⟩
  unfold tTru at hf
  obtain ⟨x, h1, hf⟩ := Option.bind_eq_some_iff.mp hf
  cases x with
  | lst ds =>
    cases hf
    refine ⟨G0, H0, G, ρ, _, good, h1, fun v H1 G1 s1 r1 => ?_⟩
    obtain ⟨p, vs, rfl, q, rs⟩ := rep_lst.mp r1
    have hl := rs.length
    refine ⟨_, .inl ⟨vs, s1.sub.seq q, ?_⟩, k _ G1 s1⟩
    cases ds <;> cases vs <;> first | rfl | cases hl
  | _ => cases hf
end
end L2

namespace L2
open PySem PySem.Spec PyProof.Rows

section
variable {X : Cx} {pins : List (Addr × Obj)} {σ : St} {H G : Hp} {s : Shared}
end
section
variable {X : Cx} {k : Nat}
end
end L2

namespace L2
open PySem PySem.Spec PyProof.Rows
section
variable {prog : Program} {w : World} {A : Around} {E : Value → Shared → Prop} {s : Shared}
end
section
variable {X : Cx} {a : Expr} {fa : Ef} {pos p : Pos}
end
end L2

namespace L2
open PySem PySem.W PyProof.Rows
noncomputable def evT {α : Type} (lt : Nat → Nat → Bool) : KasT α → α
  | .ret a => a
  | .ask i j k => evT lt (k (lt i j))
theorem evT_bind {α β : Type} (lt : Nat → Nat → Bool) (f : α → KasT β) : ∀ t : KasT α, evT lt (t.bind f) = evT lt (f (evT lt t))
  | .ret _ => rfl
  | .ask i j k => evT_bind lt f (k (lt i j))
structure SWO (lt : Nat → Nat → Bool) : Prop where
  irr : ∀ a, lt a a = false
  tr : ∀ a b c, lt a b = true → lt b c = true → lt a c = true
  neg : ∀ a b c, lt a c = true → lt a b = true ∨ lt b c = true
noncomputable def Lx (lt : Nat → Nat → Bool) (a b : Nat) : Prop := lt a b = true ∨ (lt a b = false ∧ lt b a = false ∧ a < b)
section
variable {lt : Nat → Nat → Bool} (W : SWO lt)
include W
theorem SWO.asym {a b : Nat} (h : lt a b = true) : lt b a = false := by
  cases e : lt b a
  · rfl
  · have := W.tr _ _ _ h e; rw [W.irr] at this; cases this
theorem SWO.eqr {a b c : Nat} (h : lt a b = true) (h1 : lt c b = false) : lt a c = true := by
  rcases W.neg a c b h with e | e
  · exact e
  · rw [h1] at e; cases e
theorem SWO.eql {a b c : Nat} (h : lt a b = true) (h1 : lt a c = false) : lt c b = true := by
  rcases W.neg a c b h with e | e
  · rw [h1] at e; cases e
  · exact e
theorem SWO.ntr {a b c : Nat} (h1 : lt a b = false) (h2 : lt b c = false) : lt a c = false := by
  cases e : lt a c
  · rfl
  · rcases W.neg a b c e with z | z
    · rw [h1] at z; cases z
    · rw [h2] at z; cases z
theorem Lx.trans {a b c : Nat} (h1 : Lx lt a b) (h2 : Lx lt b c) : Lx lt a c := by
  rcases h1 with h1 | ⟨x1, x2, x3⟩ <;> rcases h2 with h2 | ⟨y1, y2, y3⟩
  · exact .inl (W.tr _ _ _ h1 h2)
  · exact .inl (W.eqr h1 y2)
  · exact .inl (W.eql h2 x2)
  · exact .inr ⟨W.ntr x1 y1, W.ntr y2 x2, by omega⟩
theorem Lx.le {a b : Nat} (h : Lx lt a b) : lt b a = false := by
  rcases h with h | ⟨_, h, _⟩
  · exact W.asym h
  · exact h
theorem Lx.of {a b : Nat} (h : lt b a = false) (hab : a < b) : Lx lt a b := by
  cases e : lt a b
  · exact .inr ⟨e, h, hab⟩
  · exact .inl e
end
noncomputable abbrev gg (p : Array Nat) (k : Nat) : Nat := p.getD k 0
theorem gg_eq (p : Array Nat) (k : Nat) : gg p k = (p[k]?).getD 0 := by unfold gg; simp [Array.getD_eq_getD_getElem?]
theorem gg_rev {p : Array Nat} {i j : Nat} (hj : j ≤ p.size) (k : Nat) : gg (kas_rev p i j) k = if i ≤ k ∧ k < j then gg p (i + j - 1 - k) else gg p k := by
  rw [gg_eq, gg_eq, gg_eq]
  unfold kas_rev
  rw [getElem?_mirror_all hj]
  split <;> rfl
theorem gg_bub {p : Array Nat} {k l : Nat} (hk : k < p.size) (hl : l ≤ k) (i : Nat) : gg (bubble p k (k - l)) i = if i = l then gg p k else if l < i ∧ i ≤ k then gg p (i - 1) else gg p i := by
  rw [gg_eq, gg_eq, gg_eq, gg_eq, getElem?_bubble hk (k - l) (by omega), show k - (k - l) = l by omega]
  split
  · rfl
  · split <;> rfl
noncomputable def Srt (lt : Nat → Nat → Bool) (p : Array Nat) (a : Nat) : Prop := ∀ i j, i < j → j < a → Lx lt (gg p i) (gg p j)
noncomputable def Dcr (lt : Nat → Nat → Bool) (p : Array Nat) (a : Nat) : Prop := ∀ i j, i < j → j < a → Lx lt (gg p j) (gg p i)
structure Org (N : Nat) (p : Array Nat) (a : Nat) : Prop where
  sz : p.size = N
  pm : p.toList.Perm (List.range N)
  hi : ∀ j, a ≤ j → j < N → gg p j = j
  lo : ∀ i, i < a → gg p i < a
theorem rev_pm {p : Array Nat} {N i j : Nat} (h : p.toList.Perm (List.range N)) : (kas_rev p i j).toList.Perm (List.range N) := (Array.perm_iff_toList_perm.mp (mirror_perm _ _ _ _)).trans h
theorem Org.rev {N a i : Nat} {p : Array Nat} (h : Org N p a) (ha : a ≤ N) : Org N (kas_rev p i a) a := by
  have hs : a ≤ p.size := by rw [h.sz]; exact ha
  refine ⟨by unfold kas_rev; rw [mirror_size]; exact h.sz, rev_pm h.pm, fun j h1 h2 => ?_, fun k hk => ?_⟩
  · rw [gg_rev hs, if_neg (by omega)]; exact h.hi j h1 h2
  · rw [gg_rev hs]
    split
    · exact h.lo _ (by omega)
    · exact h.lo _ hk
theorem Org.next {N a : Nat} {p : Array Nat} (h : Org N p a) (ha : a < N) : Org N p (a + 1) :=
  ⟨h.sz, h.pm, fun j h1 h2 => h.hi j (by omega) h2, fun i hi => by
    by_cases e : i = a
    · subst e; rw [h.hi i (by omega) ha]; omega
    · have := h.lo i (by omega); omega⟩
section
variable {lt : Nat → Nat → Bool} (W : SWO lt) {N : Nat}
include W
theorem srt_next {p : Array Nat} {n : Nat} (h1 : 1 ≤ n) (hn : n < N) (hs : Srt lt p n) (ho : Org N p n) (hlt : lt (gg p n) (gg p (n - 1)) = false) : Srt lt p (n + 1) := by
  have hl : Lx lt (gg p (n - 1)) (gg p n) := Lx.of W hlt (by rw [ho.hi n (by omega) hn]; exact ho.lo _ (by omega))
  intro i j hij hj
  by_cases e : j = n
  · subst e
    by_cases e' : i = j - 1
    · subst e'; exact hl
    · exact Lx.trans W (hs i (j - 1) (by omega) (by omega)) hl
  · exact hs i j hij (by omega)
theorem asc_ev (p : Array Nat) : ∀ (f n : Nat), 1 ≤ n → n + f = N → Srt lt p n → Org N p n →
    n ≤ evT lt (kas_asc p f n) ∧ evT lt (kas_asc p f n) ≤ N ∧ Srt lt p (evT lt (kas_asc p f n)) ∧ Org N p (evT lt (kas_asc p f n)) ∧ (evT lt (kas_asc p f n) < N → lt (gg p (evT lt (kas_asc p f n))) (gg p (evT lt (kas_asc p f n) - 1)) = true)
  | 0, n, h1, hn, hs, ho => ⟨Nat.le_refl _, by show n ≤ N; omega, hs, ho, fun z => by have z : n < N := z; omega⟩
  | f + 1, n, h1, hn, hs, ho => by
    have e : evT lt (kas_asc p (f + 1) n) = if lt (gg p n) (gg p (n - 1)) = true then n else evT lt (kas_asc p f (n + 1)) := by
      show evT lt (if lt (gg p n) (gg p (n - 1)) = true then .ret n else kas_asc p f (n + 1)) = _
      split <;> rfl
    rw [e]
    cases hc : lt (gg p n) (gg p (n - 1))
    · rw [if_neg (by decide)]
      obtain ⟨a1, a2, a3, a4, a5⟩ := asc_ev p f (n + 1) (by omega) (by omega) (srt_next W h1 (by omega) hs ho hc) (ho.next (by omega))
      exact ⟨by omega, a2, a3, a4, a5⟩
    · rw [if_pos rfl]
      exact ⟨Nat.le_refl _, by omega, hs, ho, fun _ => hc⟩
omit W in
theorem dcr_rev {p : Array Nat} {n : Nat} (hn : n ≤ p.size) (h : Dcr lt p n) : Srt lt (kas_rev p 0 n) n := fun i j hij hj => by
  rw [gg_rev hn, gg_rev hn, if_pos (by omega), if_pos (by omega)]
  exact h _ _ (by omega) (by omega)
theorem tail3_ev (p : Array Nat) (n : Nat) (h1 : 1 ≤ n) (hn : n ≤ N) (hd : Dcr lt p n) (ho : Org N p n) :
    n ≤ (evT lt (kas_tail3 n N p)).1 ∧ (evT lt (kas_tail3 n N p)).1 ≤ N ∧ Srt lt (evT lt (kas_tail3 n N p)).2 (evT lt (kas_tail3 n N p)).1 ∧ Org N (evT lt (kas_tail3 n N p)).2 (evT lt (kas_tail3 n N p)).1 := by
  have hs : n ≤ p.size := by rw [ho.sz]; exact hn
  obtain ⟨a1, a2, a3, a4, _⟩ := asc_ev W (kas_rev p 0 n) (N - n) n h1 (by omega) (dcr_rev hs hd) (ho.rev hn)
  unfold kas_tail3
  rw [evT_bind]
  exact ⟨a1, a2, a3, a4⟩
structure Fal (lt : Nat → Nat → Bool) (N : Nat) (p : Array Nat) (n q : Nat) : Prop where
  hq : q + 1 ≤ n
  dn : ∀ i j, i < j → j < n - (q + 1) → Lx lt (gg p j) (gg p i)
  ac : ∀ i j, i < n - (q + 1) → n - (q + 1) ≤ j → j < n → lt (gg p j) (gg p i) = true
  eq : ∀ i j, n - (q + 1) ≤ i → i < j → j < n → lt (gg p i) (gg p j) = false ∧ lt (gg p j) (gg p i) = false ∧ gg p i < gg p j
  og : Org N p n
theorem Fal.last {p : Array Nat} {n q : Nat} (h : Fal lt N p n q) {i : Nat} (hi : n - (q + 1) ≤ i) (hin : i < n) : lt (gg p i) (gg p (n - 1)) = false ∧ lt (gg p (n - 1)) (gg p i) = false := by
  by_cases e : i = n - 1
  · subst e; exact ⟨W.irr _, W.irr _⟩
  · have := h.eq i (n - 1) hi (by omega) (by have := h.hq; omega)
    exact ⟨this.1, this.2.1⟩
theorem Fal.turn {p : Array Nat} {n q : Nat} (h : Fal lt N p n q) (hn : n ≤ N) : Dcr lt (kas_rev p (n - (q + 1)) n) n ∧ Org N (kas_rev p (n - (q + 1)) n) n := by
  have hs : n ≤ p.size := by rw [h.og.sz]; exact hn
  have hq := h.hq
  refine ⟨fun i j hij hj => ?_, h.og.rev hn⟩
  rw [gg_rev hs, gg_rev hs]
  by_cases hj' : n - (q + 1) ≤ j
  · rw [if_pos ⟨hj', hj⟩]
    by_cases hi' : n - (q + 1) ≤ i
    · rw [if_pos ⟨hi', by omega⟩]
      exact .inr (h.eq _ _ (by omega) (by omega) (by omega))
    · rw [if_neg (by omega)]
      exact .inl (h.ac _ _ (by omega) (by omega) (by omega))
  · rw [if_neg (by omega), if_neg (by omega)]
    exact h.dn i j hij (by omega)
theorem fal_less {p : Array Nat} {n : Nat} (h1 : 1 ≤ n) (hn : n < N) (hd : Dcr lt p n) (ho : Org N p n) (hl : ∀ i, i < n → lt (gg p n) (gg p i) = true) : Fal lt N p (n + 1) 0 := by
  refine ⟨by omega, fun i j hij hj => hd i j hij (by omega), fun i j hi hj hj' => ?_, fun i j hi hij hj => by omega, ho.next hn⟩
  have : j = n := by omega
  subst this
  exact hl i (by omega)
theorem Fal.less {p : Array Nat} {n q : Nat} (h : Fal lt N p n q) (hc : lt (gg p n) (gg p (n - 1)) = true) (i : Nat) (hi : i < n) : lt (gg p n) (gg p i) = true := by
  have hq := h.hq
  by_cases hr : n - (q + 1) ≤ i
  · exact W.eqr hc (Fal.last W h hr hi).1
  · exact W.tr _ _ _ hc (h.ac i (n - 1) (by omega) (by omega) (by omega))
theorem Fal.dcr {p : Array Nat} {n : Nat} (h : Fal lt N p n 0) : Dcr lt p n := fun i j hij hj => by
  by_cases e : j = n - 1
  · exact .inl (h.ac i j (by omega) (by omega) hj)
  · exact h.dn i j hij (by omega)
theorem desc_ev : ∀ (f : Nat) (p : Array Nat) (n q : Nat), n + f = N → Fal lt N p n q →
    n ≤ (evT lt (kas_desc f p n q)).2.1 ∧ (evT lt (kas_desc f p n q)).2.1 ≤ N ∧ Fal lt N (evT lt (kas_desc f p n q)).1 (evT lt (kas_desc f p n q)).2.1 (evT lt (kas_desc f p n q)).2.2
  | 0, p, n, q, hn, h => ⟨Nat.le_refl _, by show n ≤ N; omega, h⟩
  | f + 1, p, n, q, hn, h => by
    have hq := h.hq
    have e : evT lt (kas_desc (f + 1) p n q) = if lt (gg p n) (gg p (n - 1)) = true then (if q > 0 then evT lt (kas_desc f (kas_rev p (n - (q + 1)) n) (n + 1) 0) else evT lt (kas_desc f p (n + 1) 0)) else if lt (gg p (n - 1)) (gg p n) = true then (p, n, q) else evT lt (kas_desc f p (n + 1) (q + 1)) := by
      show evT lt (if lt (gg p n) (gg p (n - 1)) = true then (if q > 0 then kas_desc f (kas_rev p (n - (q + 1)) n) (n + 1) 0 else kas_desc f p (n + 1) 0) else .ask (p.getD (n - 1) 0) (p.getD n 0) fun d => if d = true then .ret (p, n, q) else kas_desc f p (n + 1) (q + 1)) = _
      by_cases hc : lt (gg p n) (gg p (n - 1)) = true
      · rw [if_pos hc, if_pos hc]
        split <;> rfl
      · rw [if_neg hc, if_neg hc]
        show evT lt (if lt (gg p (n - 1)) (gg p n) = true then .ret (p, n, q) else kas_desc f p (n + 1) (q + 1)) = _
        split <;> rfl
    rw [e]
    cases hc : lt (gg p n) (gg p (n - 1))
    · rw [if_neg (by decide)]
      cases hd : lt (gg p (n - 1)) (gg p n)
      · rw [if_neg (by decide)]
        have hnn : gg p n = n := h.og.hi n (by omega) (by omega)
        obtain ⟨a1, a2, a3⟩ := desc_ev f p (n + 1) (q + 1) (by omega) ⟨by omega, fun i j hij hj => h.dn i j hij (by omega), fun i j hi hj hj' => by
            by_cases e : j = n
            · subst e; exact W.eql (h.ac i (j - 1) (by omega) (by omega) (by omega)) hd
            · exact h.ac i j (by omega) (by omega) (by omega), fun i j hi hij hj => by
            by_cases e : j = n
            · subst e
              obtain ⟨l1, l2⟩ := Fal.last W h (i := i) (by omega) (by omega)
              exact ⟨W.ntr l1 hd, W.ntr hc l2, by rw [hnn]; exact h.og.lo i (by omega)⟩
            · exact h.eq i j (by omega) hij (by omega), h.og.next (by omega)⟩
        exact ⟨by omega, a2, a3⟩
      · rw [if_pos rfl]
        exact ⟨Nat.le_refl _, by show n ≤ N; omega, h⟩
    · rw [if_pos rfl]
      have hl := fun i hi => Fal.less W h hc i hi
      by_cases hq0 : q > 0
      · rw [if_pos hq0]
        obtain ⟨t1, t2⟩ := Fal.turn W h (by omega)
        have hs : n ≤ p.size := by rw [h.og.sz]; omega
        obtain ⟨a1, a2, a3⟩ := desc_ev f (kas_rev p (n - (q + 1)) n) (n + 1) 0 (by omega) (fal_less W (by omega) (by omega) t1 t2 fun i hi => by
          rw [gg_rev hs, gg_rev hs, if_neg (by omega)]
          split
          · exact hl _ (by omega)
          · exact hl _ hi)
        exact ⟨by omega, a2, a3⟩
      · rw [if_neg hq0]
        have : q = 0 := by omega
        subst this
        obtain ⟨a1, a2, a3⟩ := desc_ev f p (n + 1) 0 (by omega) (fal_less W (by omega) (by omega) (Fal.dcr W h) h.og hl)
        exact ⟨by omega, a2, a3⟩
noncomputable def Done (lt : Nat → Nat → Bool) (N : Nat) (r : Nat × Array Nat) : Prop := 1 ≤ r.1 ∧ r.1 ≤ N ∧ Srt lt r.2 r.1 ∧ Org N r.2 r.1
theorem descPart_ev (p : Array Nat) (n : Nat) (hn : n + 1 ≤ N) (h : Fal lt N p (n + 1) 0) : Done lt N (evT lt (kas_descPart n N p)) := by
  unfold kas_descPart
  rw [evT_bind]
  obtain ⟨a1, a2, a3⟩ := desc_ev W (N - (n + 1)) p (n + 1) 0 (by omega) h
  generalize evT lt (kas_desc (N - (n + 1)) p (n + 1) 0) = r at a1 a2 a3
  obtain ⟨p', m, q⟩ := r
  dsimp only at a1 a2 a3 ⊢
  by_cases hq : q > 0
  · rw [if_pos hq]
    obtain ⟨t1, t2⟩ := Fal.turn W a3 a2
    obtain ⟨b1, b2, b3, b4⟩ := tail3_ev W _ m (by omega) a2 t1 t2
    exact ⟨by omega, b2, b3, b4⟩
  · rw [if_neg hq]
    have : q = 0 := by omega
    subst this
    obtain ⟨b1, b2, b3, b4⟩ := tail3_ev W _ m (by omega) a2 (Fal.dcr W a3) a3.og
    exact ⟨by omega, b2, b3, b4⟩
theorem count_ev (p : Array Nat) (hN : 1 ≤ N) (ho : Org N p 1) : Done lt N (evT lt (kas_count N p)) := by
  unfold kas_count
  rw [evT_bind]
  obtain ⟨a1, a2, a3, a4, a5⟩ := asc_ev W p (N - 1) 1 (by omega) (by omega) (fun i j hij hj => by omega) ho
  generalize evT lt (kas_asc p (N - 1) 1) = n at a1 a2 a3 a4 a5
  by_cases hn : n = N
  · rw [if_pos (by simpa using hn)]
    exact ⟨a1, a2, a3, a4⟩
  · rw [if_neg (by simpa using hn)]
    have hlt := a5 (by omega)
    have hs : n ≤ p.size := by rw [ho.sz]; omega
    by_cases h1 : n > 1
    · rw [if_pos h1]
      show Done lt N (evT lt (if lt (gg p 0) (gg p (n - 1)) = true then .ret (n, p) else kas_descPart n N (kas_rev p 0 n)))
      cases hc : lt (gg p 0) (gg p (n - 1))
      · rw [if_neg (by decide)]
        have hall : ∀ i j, i < j → j < n → lt (gg p i) (gg p j) = false := fun i j hij hj => by
          have z0 : lt (gg p i) (gg p 0) = false := by
            by_cases e : i = 0
            · subst e; exact W.irr _
            · exact Lx.le W (a3 0 i (by omega) (by omega))
          have z1 : lt (gg p (n - 1)) (gg p j) = false := by
            by_cases e : j = n - 1
            · subst e; exact W.irr _
            · exact Lx.le W (a3 j (n - 1) (by omega) (by omega))
          exact W.ntr z0 (W.ntr hc z1)
        refine descPart_ev W _ n (by omega) (fal_less W (by omega) (by omega) (fun i j hij hj => ?_) (a4.rev (by omega)) fun i hi => ?_)
        · rw [gg_rev hs, gg_rev hs, if_pos (by omega), if_pos (by omega)]
          exact a3 _ _ (by omega) (by omega)
        · rw [gg_rev hs, gg_rev hs, if_neg (by omega), if_pos (by omega)]
          by_cases e : 0 + n - 1 - i = n - 1
          · rw [e]; exact hlt
          · exact W.eqr hlt (hall _ _ (by omega) (by omega))
      · rw [if_pos rfl]
        exact ⟨a1, a2, a3, a4⟩
    · rw [if_neg h1]
      have : n = 1 := by omega
      subst this
      refine descPart_ev W _ 1 (by omega) (fal_less W (by omega) (by omega) (fun i j hij hj => by omega) a4 fun i hi => ?_)
      have : i = 0 := by omega
      subst this
      exact hlt
theorem place_ev (p : Array Nat) (k : Nat) (hs : Srt lt p k) : ∀ (f l r : Nat), l ≤ r → r ≤ k → r - l ≤ f → (∀ i, i < l → lt (gg p k) (gg p i) = false) → (∀ i, r ≤ i → i < k → lt (gg p k) (gg p i) = true) →
    evT lt (kas_place p k f l r) ≤ k ∧ (∀ i, i < evT lt (kas_place p k f l r) → lt (gg p k) (gg p i) = false) ∧ (∀ i, evT lt (kas_place p k f l r) ≤ i → i < k → lt (gg p k) (gg p i) = true)
  | 0, l, r, h1, h2, h3, h4, h5 => ⟨by show l ≤ k; omega, h4, fun i hi => h5 i (by have hi : l ≤ i := hi; omega)⟩
  | f + 1, l, r, h1, h2, h3, h4, h5 => by
    unfold kas_place
    by_cases hge : l ≥ r
    · rw [if_pos hge]
      exact ⟨by show l ≤ k; omega, h4, fun i hi => h5 i (by have hi : l ≤ i := hi; omega)⟩
    · rw [if_neg hge]
      show evT lt (if lt (gg p k) (gg p ((l + r) / 2)) = true then kas_place p k f l ((l + r) / 2) else kas_place p k f ((l + r) / 2 + 1) r) ≤ k ∧ _
      cases hc : lt (gg p k) (gg p ((l + r) / 2))
      · have ih := place_ev p k hs f ((l + r) / 2 + 1) r (by omega) h2 (by omega) (fun i hi => by
          by_cases e : i = (l + r) / 2
          · rw [e]; exact hc
          · exact W.ntr hc (Lx.le W (hs i ((l + r) / 2) (by omega) (by omega)))) h5
        have e : evT lt (KasT.ask (p.getD k 0) (p.getD ((l + r) / 2) 0) fun c => if c = true then kas_place p k f l ((l + r) / 2) else kas_place p k f ((l + r) / 2 + 1) r) = evT lt (kas_place p k f ((l + r) / 2 + 1) r) := by
          show evT lt (if lt (gg p k) (gg p ((l + r) / 2)) = true then _ else _) = _
          rw [hc, if_neg (by decide)]
        rw [e, if_neg (by decide)]
        exact ih
      · have ih := place_ev p k hs f l ((l + r) / 2) (by omega) (by omega) (by omega) h4 (fun i hi hik => by
          by_cases e : i = (l + r) / 2
          · rw [e]; exact hc
          · exact W.eqr hc (Lx.le W (hs ((l + r) / 2) i (by omega) hik)))
        have e : evT lt (KasT.ask (p.getD k 0) (p.getD ((l + r) / 2) 0) fun c => if c = true then kas_place p k f l ((l + r) / 2) else kas_place p k f ((l + r) / 2 + 1) r) = evT lt (kas_place p k f l ((l + r) / 2)) := by
          show evT lt (if lt (gg p k) (gg p ((l + r) / 2)) = true then _ else _) = _
          rw [hc, if_pos rfl]
        rw [e, if_pos rfl]
        exact ih
theorem bin_ev : ∀ (f : Nat) (p : Array Nat) (k : Nat), 1 ≤ k → k + f = N → Srt lt p k → Org N p k → Srt lt (evT lt (kas_bin f p k)) N ∧ Org N (evT lt (kas_bin f p k)) N
  | 0, p, k, h1, hk, hs, ho => by
    have : k = N := by omega
    subst this
    exact ⟨hs, ho⟩
  | f + 1, p, k, h1, hk, hs, ho => by
    unfold kas_bin
    rw [evT_bind]
    obtain ⟨a1, a2, a3⟩ := place_ev W p k hs k 0 k (by omega) (Nat.le_refl _) (by omega) (fun i hi => by omega) (fun i h1 h2 => by omega)
    generalize evT lt (kas_place p k k 0 k) = l at a1 a2 a3
    have hks : k < p.size := by rw [ho.sz]; omega
    have hkk : gg p k = k := ho.hi k (Nat.le_refl _) (by omega)
    refine bin_ev f (bubble p k (k - l)) (k + 1) (by omega) (by omega) (fun i j hij hj => ?_) ⟨by rw [bubble_size]; exact ho.sz, (Array.perm_iff_toList_perm.mp (bubble_perm _ _ _)).trans ho.pm, fun j h1 h2 => ?_, fun i hi => ?_⟩
    · have hlo : ∀ i, i < l → Lx lt (gg p i) (gg p k) := fun i hi => Lx.of W (a2 i hi) (by rw [hkk]; exact ho.lo i (by omega))
      rw [gg_bub hks a1, gg_bub hks a1]
      by_cases ei : i = l
      · rw [if_pos ei, if_neg (by omega), if_pos (by omega)]
        exact .inl (a3 _ (by omega) (by omega))
      · rw [if_neg ei]
        by_cases ej : j = l
        · rw [if_pos ej, if_neg (by omega)]
          exact hlo i (by omega)
        · rw [if_neg ej]
          by_cases hi' : l < i ∧ i ≤ k
          · rw [if_pos hi', if_pos (by omega)]
            exact hs _ _ (by omega) (by omega)
          · rw [if_neg hi']
            by_cases hj' : l < j ∧ j ≤ k
            · rw [if_pos hj']
              exact hs _ _ (by omega) (by omega)
            · rw [if_neg hj']
              exact hs _ _ (by omega) (by omega)
    · rw [gg_bub hks a1, if_neg (by omega), if_neg (by omega)]
      exact ho.hi j (by omega) h2
    · rw [gg_bub hks a1]
      by_cases e0 : i = l
      · rw [if_pos e0, hkk]; omega
      · rw [if_neg e0]
        by_cases e1 : l < i ∧ i ≤ k
        · rw [if_pos e1]
          have := ho.lo (i - 1) (by omega)
          omega
        · rw [if_neg e1]
          have := ho.lo i (by omega)
          omega
theorem range_org (hN : 1 ≤ N) : Org N (List.toArray (List.range N)) 1 := by
  have e : ∀ j, j < N → gg (List.toArray (List.range N)) j = j := fun j hj => by rw [gg_eq]; simp [hj]
  refine ⟨by simp, by simp, fun j h1 h2 => e j h2, fun i hi => ?_⟩
  have : i = 0 := by omega
  subst this
  rw [e 0 (by omega)]
  omega
theorem sort_ev (hN : 1 ≤ N) : Srt lt (evT lt (kas_sort N)) N ∧ Org N (evT lt (kas_sort N)) N := by
  unfold kas_sort
  rw [evT_bind]
  obtain ⟨a1, a2, a3, a4⟩ := count_ev W (List.toArray (List.range N)) hN (range_org W hN)
  generalize evT lt (kas_count N (List.toArray (List.range N))) = r at a1 a2 a3 a4
  obtain ⟨m, p⟩ := r
  dsimp only at a1 a2 a3 a4 ⊢
  by_cases hm : m < N
  · rw [if_pos hm]
    have e : max m 1 = m := by omega
    rw [e]
    exact bin_ev W (N - m) p m a1 (by omega) a3 a4
  · rw [if_neg hm]
    have : m = N := by omega
    subst this
    exact ⟨a3, a4⟩
end
end L2

namespace L2
open PySem PySem.W PyProof.Rows
noncomputable def AskIn {α : Type} (N : Nat) (Post : α → Prop) : KasT α → Prop
  | .ret a => Post a
  | .ask i j k => i < N ∧ j < N ∧ ∀ b, AskIn N Post (k b)
theorem AskIn.bind {α β : Type} {N : Nat} {P : α → Prop} {P' : β → Prop} {f : α → KasT β} (hf : ∀ a, P a → AskIn N P' (f a)) : ∀ {t : KasT α}, AskIn N P t → AskIn N P' (t.bind f)
  | .ret a, h => hf a h
  | .ask i j k, h => ⟨h.1, h.2.1, fun b => AskIn.bind hf (h.2.2 b)⟩
theorem evT_wpN {α : Type} {cmp : Nat → Nat → (Bool → Shared → Prop) → Shared → Prop} {lt : Nat → Nat → Bool} {N : Nat} {s : Shared} (hc : ∀ i j C, i < N → j < N → C (lt i j) s → cmp i j C s) : ∀ (t : KasT α) (Q : α → Shared → Prop), AskIn N (fun _ => True) t → Q (evT lt t) s → t.kasWp cmp Q s
  | .ret _, _, _, h => h
  | .ask i j k, Q, a, h => hc i j _ a.1 a.2.1 (evT_wpN hc (k (lt i j)) Q (a.2.2 _) h)
noncomputable def Sm (N : Nat) (p : Array Nat) : Prop := ∀ x ∈ p.toList, x < N
theorem Sm.gg {N : Nat} {p : Array Nat} (h : Sm N p) (hN : 0 < N) (k : Nat) : p.getD k 0 < N := by
  show L2.gg p k < N
  rw [gg_eq]
  by_cases hk : k < p.size
  · have : p[k]? = some p[k] := by simp [hk]
    rw [this]
    exact h _ (by simp)
  · have : p[k]? = none := by simp; omega
    rw [this]; exact hN
theorem Sm.perm {N : Nat} {p q : Array Nat} (h : Sm N p) (e : q.Perm p) : Sm N q := fun x hx => h x ((Array.perm_iff_toList_perm.mp e).subset hx)
section
variable {N : Nat} (hN : 0 < N)
include hN
theorem asc_in {p : Array Nat} (h : Sm N p) : ∀ f n, AskIn N (fun _ => True) (kas_asc p f n)
  | 0, _ => trivial
  | f + 1, n => ⟨h.gg hN _, h.gg hN _, fun b => by
      dsimp only
      split
      · trivial
      · exact asc_in h f (n + 1)⟩
theorem desc_in : ∀ f (p : Array Nat) n q, Sm N p → AskIn N (fun r => Sm N r.1) (kas_desc f p n q)
  | 0, _, _, _, h => h
  | f + 1, p, n, q, h => ⟨h.gg hN _, h.gg hN _, fun b => by
      dsimp only
      split
      · split
        · exact desc_in f _ _ _ (h.perm (mirror_perm ..))
        · exact desc_in f _ _ _ h
      · refine ⟨h.gg hN _, h.gg hN _, fun b => ?_⟩
        dsimp only
        split
        · exact h
        · exact desc_in f _ _ _ h⟩
theorem tail3_in {p : Array Nat} (h : Sm N p) (n m : Nat) : AskIn N (fun r => Sm N r.2) (kas_tail3 n m p) := by
  unfold kas_tail3
  have h' : Sm N (kas_rev p 0 n) := h.perm (mirror_perm ..)
  refine AskIn.bind (P := fun _ => True) (fun m _ => ?_) (asc_in hN h' _ _)
  exact h'
theorem descPart_in {p : Array Nat} (h : Sm N p) (n m : Nat) : AskIn N (fun r => Sm N r.2) (kas_descPart n m p) := by
  unfold kas_descPart
  refine AskIn.bind (P := fun r => Sm N r.1) (fun r hr => ?_) (desc_in hN _ _ _ _ h)
  try dsimp only
  split
  · exact tail3_in hN (hr.perm (mirror_perm ..)) _ _
  · exact tail3_in hN hr _ _
theorem count_in {p : Array Nat} (h : Sm N p) (m : Nat) : AskIn N (fun r => Sm N r.2) (kas_count m p) := by
  unfold kas_count
  refine AskIn.bind (P := fun _ => True) (fun r _ => ?_) (asc_in hN h _ _)
  try dsimp only
  split
  · exact h
  · split
    · refine ⟨h.gg hN _, h.gg hN _, fun b => ?_⟩
      dsimp only
      split
      · exact h
      · exact descPart_in hN (h.perm (mirror_perm ..)) _ _
    · exact descPart_in hN h _ _
theorem place_in {p : Array Nat} (h : Sm N p) (k : Nat) : ∀ f l r, AskIn N (fun _ => True) (kas_place p k f l r)
  | 0, _, _ => trivial
  | f + 1, l, r => by
    unfold kas_place
    split
    · trivial
    · refine ⟨h.gg hN _, h.gg hN _, fun b => ?_⟩
      dsimp only
      split
      · exact place_in h k f _ _
      · exact place_in h k f _ _
theorem bin_in : ∀ f (p : Array Nat) k, Sm N p → AskIn N (fun _ => True) (kas_bin f p k)
  | 0, _, _, _ => trivial
  | f + 1, p, k, h => by
    unfold kas_bin
    exact AskIn.bind (P := fun _ => True) (fun _ _ => bin_in f _ _ (h.perm (bubble_perm ..))) (place_in hN h k _ _ _)
theorem sort_in : AskIn N (fun _ => True) (kas_sort N) := by
  unfold kas_sort
  have h : Sm N (List.toArray (List.range N)) := fun x hx => by simpa using hx
  refine AskIn.bind (P := fun r => Sm N r.2) (fun r hr => ?_) (count_in hN h N)
  try dsimp only
  split
  · exact bin_in hN _ _ _ hr
  · trivial
end
section
variable {prog : Program} {w : World} {A : Around} {E : Value → Shared → Prop} {s : Shared}
end

noncomputable def lxLt (a b : Int × Int) : Bool := decide (a.1 < b.1) || (a.1 == b.1 && decide (a.2 < b.2))
theorem lxLt_iff {a b : Int × Int} : lxLt a b = true ↔ a.1 < b.1 ∨ (a.1 = b.1 ∧ a.2 < b.2) := by
  unfold lxLt
  simp [Bool.or_eq_true, Bool.and_eq_true]
noncomputable abbrev PairV (K : PySem.W.Frag) (H : Hp) : Int × Int → V → Prop := fun p v => ∃ a, v = .ref a ∧ SqT K H a [.int p.1, .int p.2]
section
variable {X : Cx}
theorem pair_at {pins : List (Addr × Obj)} {σ : St} {H : Hp} {s : Shared} (I : Inv X pins σ H s) {p : Int × Int} {v : V} {u : Value} (h : PairV X.K H p v) (r : RelV v u) :
    ∃ a o n t t', u = .ref a ∧ s.heap.get? a = some o ∧ o.cls = .type "tuple" ∧ o.data = .seq #[.int p.1 t, .int p.2 t'] n := by
  obtain ⟨a, rfl, hs⟩ := h
  cases r
  obtain ⟨its, rv, ⟨o, e, c, n, d⟩, _⟩ := I.tuple hs
  obtain ⟨u1, r1, e1, r2⟩ : ∃ u1 r1, its = u1 :: r1 ∧ RelV (.int p.1) u1 ∧ Vals [.int p.2] r1 := by cases rv with | cons x y => exact ⟨_, _, rfl, x, y⟩
  obtain ⟨u2, e2, r3⟩ : ∃ u2, r1 = [u2] ∧ RelV (.int p.2) u2 := by cases r2.2 with | cons x y => cases y; exact ⟨_, rfl, x⟩
  obtain ⟨t, rfl⟩ := r2.1
  obtain ⟨t', rfl⟩ := r3
  subst e1; subst e2
  exact ⟨a, o, n, t, t', rfl, e, c, d⟩
theorem paired_getD {α β : Type} {F : α → β → Prop} {da : α} {db : β} : ∀ {l : List α} {m : List β} {i : Nat}, Paired F l m → i < l.length → F (l.getD i da) (m.getD i db)
  | _, _, _, .nil, h => by simp at h
  | _, _, 0, .cons r _, _ => r
  | _, _, i + 1, .cons _ t, h => by simpa using paired_getD (i := i) t (by simpa using h)
end

noncomputable def dP (p : Int × Int) : D := .tup [.int p.1, .int p.2]
noncomputable def unP : D → Option (Int × Int)
  | .tup [.int a, .int b] => some (a, b)
  | _ => none
noncomputable def unPs : List D → Option (List (Int × Int))
  | [] => some []
  | d :: r => (unP d).bind fun p => (unPs r).map (p :: ·)
theorem unP_eq {d : D} {p : Int × Int} (h : unP d = some p) : d = dP p := by
  unfold unP at h
  split at h
  · cases h; rfl
  · cases h
theorem unPs_eq : ∀ {ds : List D} {ps : List (Int × Int)}, unPs ds = some ps → ds = ps.map dP
  | [], _, h => by cases h; rfl
  | d :: r, ps, h => by
    unfold unPs at h
    obtain ⟨p, h1, h⟩ := Option.bind_eq_some_iff.mp h
    obtain ⟨qs, h2, rfl⟩ := Option.map_eq_some_iff.mp h
    rw [unP_eq h1, unPs_eq h2]; rfl
theorem unPs_map : ∀ ps : List (Int × Int), unPs (ps.map dP) = some ps
  | [] => rfl
  | p :: r => by
    have := unPs_map r
    simp only [List.map_cons, unPs, this]
    rfl
noncomputable def insP (a : Int × Int) : List (Int × Int) → List (Int × Int)
  | [] => [a]
  | b :: r => if lxLt b a then b :: insP a r else a :: b :: r
noncomputable def sortP : List (Int × Int) → List (Int × Int)
  | [] => []
  | a :: r => insP a (sortP r)
theorem insP_perm (a : Int × Int) : ∀ l, (insP a l).Perm (a :: l)
  | [] => List.Perm.refl _
  | b :: r => by
    unfold insP
    split
    · exact ((insP_perm a r).cons b).trans (List.Perm.swap a b r)
    · exact List.Perm.refl _
theorem sortP_perm : ∀ l, (sortP l).Perm l
  | [] => List.Perm.refl _
  | a :: r => (insP_perm a _).trans ((sortP_perm r).cons a)
noncomputable abbrev LeP (a b : Int × Int) : Prop := lxLt b a = false
theorem leP_iff {a b : Int × Int} : LeP a b ↔ a.1 < b.1 ∨ (a.1 = b.1 ∧ a.2 ≤ b.2) := by
  have h := @lxLt_iff b a
  show lxLt b a = false ↔ _
  cases e : lxLt b a
  · simp only [e, Bool.false_eq_true, false_iff, true_iff] at h ⊢; omega
  · simp only [e, true_iff, Bool.true_eq_false, false_iff] at h ⊢; omega
theorem leP_trans {a b c : Int × Int} (h : LeP a b) (h' : LeP b c) : LeP a c := by rw [leP_iff] at *; omega
theorem insP_sorted (a : Int × Int) : ∀ l, l.Pairwise LeP → (insP a l).Pairwise LeP
  | [], _ => List.pairwise_singleton _ _
  | b :: r, h => by
    obtain ⟨h1, h2⟩ := List.pairwise_cons.mp h
    unfold insP
    split
    · rename_i e
      refine List.pairwise_cons.mpr ⟨fun x hx => ?_, insP_sorted a r h2⟩
      rcases List.mem_cons.mp ((insP_perm a r).subset hx) with rfl | hx
      · rw [lxLt_iff] at e; rw [leP_iff]; omega
      · exact h1 x hx
    · rename_i e
      have e' : LeP a b := by simpa using e
      refine List.pairwise_cons.mpr ⟨fun x hx => ?_, h⟩
      rcases List.mem_cons.mp hx with rfl | hx
      · exact e'
      · exact leP_trans e' (h1 x hx)
theorem sortP_sorted : ∀ l, (sortP l).Pairwise LeP
  | [] => List.Pairwise.nil
  | a :: r => insP_sorted a _ (sortP_sorted r)
theorem sortedP_one : ∀ {l m : List (Int × Int)}, l.Perm m → l.Pairwise LeP → m.Pairwise LeP → l = m
  | [], m, h, _, _ => (List.Perm.nil_eq h)
  | a :: r, m, h, h1, h2 => by
    cases m with
    | nil => exact absurd h.length_eq (by simp)
    | cons b t =>
      obtain ⟨p1, p2⟩ := List.pairwise_cons.mp h1
      obtain ⟨q1, q2⟩ := List.pairwise_cons.mp h2
      have e : a = b := by
        have ha : a ∈ b :: t := h.subset (by simp)
        have hb : b ∈ a :: r := h.symm.subset (by simp)
        rcases List.mem_cons.mp ha with e | e
        · exact e
        · rcases List.mem_cons.mp hb with e' | e'
          · exact e'.symm
          · have x := q1 a e
            have y := p1 b e'
            rw [leP_iff] at x y
            exact Prod.ext (by omega) (by omega)
      subst e
      rw [sortedP_one (List.Perm.cons_inv h) p2 q2]
theorem range_map_getD {α : Type} (d : α) : ∀ l : List α, (List.range l.length).map (fun i => l.getD i d) = l := fun l => by
  apply List.ext_getElem
  · simp
  · intro i h1 h2
    simp at h1
    simp [h1]
theorem reps_pairs {K : PySem.W.Frag} {G H : Hp} (s : SameT G H) : ∀ {ps : List (Int × Int)} {vs : List V}, Reps K G (ps.map dP) vs → Paired (PairV K H) ps vs
  | [], vs, h => by rw [reps_nil.mp h]; exact .nil
  | p :: r, vs, h => by
    obtain ⟨v, t, rfl, r1, r2⟩ := reps_cons.mp h
    obtain ⟨a, us, rfl, hs, hr⟩ := rep_tup.mp r1
    obtain ⟨u1, t1, rfl, x1, x2⟩ := reps_cons.mp hr
    obtain ⟨u2, t2, rfl, x3, x4⟩ := reps_cons.mp x2
    rw [reps_nil.mp x4, rep_int.mp x1, rep_int.mp x3] at hs
    exact .cons ⟨a, rfl, s.tup hs⟩ (reps_pairs s r2)
theorem reps_getD {K : PySem.W.Frag} {G : Hp} : ∀ {ds : List D} {vs : List V} {i : Nat}, Reps K G ds vs → i < ds.length → Rep K G (ds.getD i .non) (vs.getD i .non)
  | [], _, _, _, h => by simp at h
  | d :: r, vs, 0, h, _ => by
    obtain ⟨v, t, rfl, r1, _⟩ := reps_cons.mp h
    exact r1
  | d :: r, vs, i + 1, h, hi => by
    obtain ⟨v, t, rfl, _, r2⟩ := reps_cons.mp h
    simpa using reps_getD (i := i) r2 (by simpa using hi)
section
variable {X : Cx} {a : Expr} {ga : Lf} {p pos : Pos}
end
end L2

namespace L2
open PySem PySem.W PyProof.Rows
noncomputable def sortIx (lt : Nat → Nat → Bool) (N : Nat) : List Nat := if N < 2 then List.range N else (evT lt (kas_sort N)).toList
section
variable {X : Cx} {pins : List (Addr × Obj)} {σ : St} {H : Hp} {s : Shared}
theorem Inv.adopt {D kS : Addr} {o : HO} {h' : Heap} (I : Inv X pins σ H s) (k : ∀ b u, b ≠ D → b ≠ kS → s.heap.get? b = some u → h'.get? b = some u) (hD : H D = none) (hK : H kS = none) (hne : D ≠ kS)
    (h1 : ∀ b, b = D ∨ b = kS → X.s₀.heap.objs.size ≤ b ∧ b ≠ X.env.locals ∧ (∀ x c, X.env.cells.lookup x = some c → c ≠ b) ∧ ∀ p ∈ X.pn ++ pins, p.1 ≠ b) (new : ObjOk X.prog X.w (upd H D o) h' D o) :
    Inv X pins σ (upd H D o) { s with heap := h' } := by
  have nD : ∀ b u, H b = some u → b ≠ D := fun b u e z => by rw [z, hD] at e; cases e
  have nK : ∀ b u, H b = some u → b ≠ kS := fun b u e z => by rw [z, hK] at e; cases e
  have hin : ∀ {b : Addr}, b ∉ [D, kS] → b ≠ D ∧ b ≠ kS := fun hb => ⟨fun z => hb (by simp [z]), fun z => hb (by simp [z])⟩
  refine I.step (g' := s.gens) (d' := s.drawn) (t' := s.toks) (ch := [D, kS]) (fun b hb => ?_) (fun b u _ _ hc e _ => k b u (hin hc).1 (hin hc).2 e) (fun b u _ _ hc e _ => ⟨u.slots, k b u (hin hc).1 (hin hc).2 e⟩) (fun b u hc _ n => by rw [upd_ne (hin hc).1]; exact n)
    (fun b u hc e => ⟨u, k b u (hin hc).1 (hin hc).2 e⟩) (fun b xs e => by rw [upd_ne (nD b _ e)]; exact e) (fun b u xs e => by rw [upd_ne (nD b _ e)]; exact e) (fun b ps e => ⟨#[], by rw [upd_ne (nD b _ e), e]; simp⟩) (fun m hm => ?_) (fun b u e => ?_) I.bare
  · have hb' : b = D ∨ b = kS := by simpa using hb
    obtain ⟨a1, a2, a3, a4⟩ := h1 b hb'
    exact ⟨.inr a1, a2, a3, a4⟩
  · obtain ⟨u, es, ep, hu, r⟩ := hm
    exact ⟨u, es, ep, k _ u (Ne.symm (h1 D (.inl rfl)).2.1) (Ne.symm (h1 kS (.inr rfl)).2.1) hu, r⟩
  · by_cases hb : b = D
    · subst hb
      rw [upd_same] at e
      cases e
      exact new
    · rw [upd_ne hb] at e
      refine (I.hok b u e).stay (fun c v hc q => ?_) (fun c q => by rw [upd_ne (nD c _ q)]; exact q) fun c xs q => by rw [upd_ne (nD c _ q)]; exact q
      have hc' : c ≠ D ∧ c ≠ kS := by
        rcases hc with z | z
        · rw [z]; exact ⟨hb, nK b u e⟩
        · exact ⟨nD c _ z, nK c _ z⟩
      exact k c v hc'.1 hc'.2 q
end

section
variable {X : Cx} {pins : List (Addr × Obj)} {σ : St}
noncomputable def Own (X : Cx) (pins : List (Addr × Obj)) (b : Addr) : Prop := X.s₀.heap.objs.size ≤ b ∧ b ≠ X.env.locals ∧ (∀ x c, X.env.cells.lookup x = some c → c ≠ b) ∧ (∀ p ∈ X.pn ++ pins, p.1 ≠ b) ∧ b ∉ X.fs
theorem own_new {H : Hp} {s : Shared} (I : Inv X pins σ H s) {b : Addr} (hb : s.heap.objs.size ≤ b) : Own X pins b := by
  refine ⟨Nat.le_trans I.sz hb, fun z => ?_, fun x c e z => ?_, fun p hp z => ?_, I.nofs hb⟩
  · have := I.lt
    rw [← z] at this
    exact absurd this (Nat.not_lt.mpr hb)
  · obtain ⟨v, o, ho, _⟩ := I.cell x c e
    have := Heap.lt_size ho
    rw [z] at this
    exact absurd this (Nat.not_lt.mpr hb)
  · have := Heap.lt_size (I.pin p hp).1
    rw [z] at this
    exact absurd this (Nat.not_lt.mpr hb)
noncomputable abbrev lstO (us : List Value) (c : Nat) : Obj := seqObj "list" us.toArray c
theorem not_cell (us : List Value) (c : Nat) : ∀ v, (lstO us c).data ≠ .cell v := fun _ h => nomatch h
theorem key_loop {D kS fa : Addr} {e1 : Nat} {us : List Value} (J : Nat → List Value → Hp → Prop) (hD : Own X pins D) (hK : Own X pins kS) (hne : D ≠ kS) (hlen : us.length < 64)
    (hstep : ∀ i x ws H' s' pins', us[i]? = some x → J i ws H' → Inv X pins' σ H' s' → wpAny (model X.prog X.w) X.A.in1.in1 (call (.ref fa) [x]) (fun u s'' => ∃ H'', Inv X pins' σ H'' s'' ∧ J (i + 1) (ws ++ [u]) H'') (fun _ _ => False) s')
    {s : Shared} {H : Hp} (hJ : J 0 [] H) (I : Inv X ((D, lstO [] e1) :: (kS, lstO [] 0) :: pins) σ H s) {P : PySem.Fin → Shared → Prop} {E : Value → Shared → Prop}
    (hfin : ∀ ws c H' s', J us.length ws H' → ws.length = us.length → Inv X ((D, lstO [] e1) :: (kS, lstO ws c) :: pins) σ H' s' → wpAny (model X.prog X.w) X.A.in1.in1 (ksk_end D false us.toArray e1 (.ref kS) ws.toArray) P E s') :
    wpAny (model X.prog X.w) X.A.in1.in1 (ksk_rest D (.ref fa) false us.toArray e1 (.ref kS)) P E s := by
  unfold ksk_rest
  refine wpAny_bind (wpAny_rule ?_)
  first
    | rw [List.forIn_toArray]
    | (rw [← Array.forIn_toList]; simp only [List.toList_toArray])
    | rw [← Array.forIn_toList]
  refine wpAny_bind (ksk_fold (fun i s' => ∃ ws c H', J i ws H' ∧ ws.length = i ∧ Inv X ((D, lstO [] e1) :: (kS, lstO ws c) :: pins) σ H' s') us 0 s ⟨[], 0, H, hJ, rfl, I⟩ (fun j x s' hx hd => ?_) fun s' hd => ?_)
  · obtain ⟨ws, c, H', j1, j2, I'⟩ := hd
    rw [Nat.zero_add] at j1 j2 ⊢
    have hj : j < us.length := (List.getElem?_eq_some_iff.mp hx).1
    refine wpAny_bind (wpAny_attempt (wpAny_mono (hstep j x ws H' s' _ hx j1 I') (fun u s'' hu => ?_) fun _ _ z => z.elim))
    obtain ⟨H'', I'', j3⟩ := hu
    have pk := I''.pin (kS, lstO ws c) (by simp)
    have pd := I''.pin (D, lstO [] e1) (by simp)
    have ea : (List.toArray ws).push u = List.toArray (ws ++ [u]) := by simp
    obtain ⟨c2, hc2⟩ : ∃ c2, (s''.heap.update kS (Obj.mapSeq (·.push u))).get? kS = some (lstO (ws ++ [u]) c2) := ⟨_, by show _ = some (seqObj "list" (List.toArray (ws ++ [u])) _); rw [← ea]; exact get?_update_seq pk.1 (·.push u)⟩
    try dsimp only
    refine wpAny_bind (listUpdate_at pk.1 rfl ?_ (by rw [List.size_toArray, sizeLine_eq]; omega) (Nat.le_trans (Nat.le_of_eq (Array.size_push ..)) (by rw [List.size_toArray, sizeLine_eq]; omega)))
    refine wpAny_pure ⟨rfl, ws ++ [u], c2, H'', j3, by rw [List.length_append, j2]; rfl, ?_⟩
    have Id : Inv X ((D, lstO [] e1) :: pins) σ H'' s'' := I''.pins_of fun p hp => by
      rcases List.mem_cons.mp hp with rfl | hp
      · exact pd
      · exact I''.pin p (by simp [hp])
    have keep : ∀ b o, b ≠ kS → s''.heap.get? b = some o → (s''.heap.update kS (Obj.mapSeq (·.push u))).get? b = some o := fun b o hb e => by rw [Heap.get?_update_ne _ _ _ _ hb]; exact e
    have It := Id.turned (t' := s''.toks) (it := kS) (h' := s''.heap.update kS (Obj.mapSeq (·.push u))) keep pk.2.1 hK.2.1 (.inr hK.1) hK.2.2.1 (fun p hp => by
      rcases List.mem_append.mp hp with z | z
      · exact hK.2.2.2.1 p (List.mem_append_left _ z)
      · rcases List.mem_cons.mp z with rfl | z
        · exact hne
        · exact hK.2.2.2.1 p (List.mem_append_right _ z))
    refine It.pins_of fun p hp => ?_
    rcases List.mem_cons.mp hp with rfl | hp
    · exact It.pin _ (by simp)
    · rcases List.mem_cons.mp hp with rfl | hp
      · exact ⟨hc2, pk.2.1, hK.2.1, hK.2.2.2.2, not_cell _ _⟩
      · exact It.pin p (by simp [hp])
  · obtain ⟨ws, c, H', j1, j2, I'⟩ := hd
    rw [Nat.zero_add] at j1 j2
    have pk := I'.pin (kS, lstO ws c) (by simp)
    try dsimp only
    exact wpAny_bind (listItems_at pk.1 rfl (hfin ws c H' s' j1 j2 I'))
end

section
variable {X : Cx} {pins : List (Addr × Obj)} {σ : St} {D kS : Addr} {e1 : Nat} {H : Hp} {s : Shared} {ws : List Value} {c : Nat} {P : PySem.Fin → Shared → Prop} {E : Value → Shared → Prop}
theorem key_tail {st : SortSt} {out : List Value} (hne : D ≠ kS) (hout : (arrOf st).map (·.2) = List.toArray out) (hf : failedOf st = none) (hz : out.length < 64) (hw : ws.length < 64) (I : Inv X ((D, lstO [] e1) :: (kS, lstO ws c) :: pins) σ H s)
    (h : ∀ h' c3, (∀ b o, b ≠ D → b ≠ kS → s.heap.get? b = some o → h'.get? b = some o) → h'.get? D = some (lstO out c3) → P (.done (.ret .none)) { s with heap := h' }) :
    wpAny (model X.prog X.w) X.A.in1.in1 (ksk_tail D false e1 (.ref kS) st) P E s := by
  have pk := I.pin (kS, lstO ws c) (by simp)
  have pd := I.pin (D, lstO [] e1) (by simp)
  have pd' : (s.heap.update kS (Obj.mapSeq fun _ => (#[] : Array Value))).get? D = some (seqObj "list" #[] e1) := by rw [Heap.get?_update_ne _ _ _ _ hne]; exact pd.1
  obtain ⟨c3, hc3⟩ : ∃ c3, ((s.heap.update kS (Obj.mapSeq fun _ => (#[] : Array Value))).update D (Obj.mapSeq fun _ => List.toArray out)).get? D = some (lstO out c3) := ⟨_, get?_update_seq pd' fun _ => List.toArray out⟩
  unfold ksk_tail
  try dsimp only
  rw [hout]
  refine wpAny_bind (listUpdate_at pk.1 rfl (wpAny_bind (wpAny_letGo (wpAny_bind (seqEpoch_at pd' rfl ?_)))) (by rw [List.size_toArray, sizeLine_eq]; omega) (Nat.zero_le _))
  refine wpAny_bind (listUpdate_at pd' rfl ?_ (Nat.zero_le _) (by show (List.toArray out).size ≤ _; rw [List.size_toArray, sizeLine_eq]; omega))
  rw [hf]
  simp only [bne_self_eq_false, Bool.false_eq_true, if_false]
  refine wpAny_pure (h _ c3 (fun b o h1 h2 e => ?_) hc3)
  rw [Heap.get?_update_ne _ _ _ _ h1, Heap.get?_update_ne _ _ _ _ h2]
  exact e
theorem key_end {us : List Value} {lt : Nat → Nat → Bool} (hne : D ≠ kS) (hl : ws.length = us.length) (h64 : us.length < 64) (I : Inv X ((D, lstO [] e1) :: (kS, lstO ws c) :: pins) σ H s)
    (hq : 2 ≤ us.length → ∃ κ, (∀ (E' : Value → Shared → Prop) Q, Q κ s → wpAny (model X.prog X.w) X.A.in1.in1 (keyKind' ws.toArray) Q E' s) ∧ ∀ i j C, i < us.length → j < us.length → C (lt i j) s → kas_ask X.prog X.w X.A.in1.in1 κ ws i j C s)
    (h : ∀ h' c3, (∀ b o, b ≠ D → b ≠ kS → s.heap.get? b = some o → h'.get? b = some o) → h'.get? D = some (lstO ((sortIx lt us.length).map fun i => us.getD i Value.none) c3) → P (.done (.ret .none)) { s with heap := h' }) :
    wpAny (model X.prog X.w) X.A.in1.in1 (ksk_end D false us.toArray e1 (.ref kS) ws.toArray) P E s := by
  unfold ksk_end
  try dsimp only
  simp only [Bool.false_eq_true, if_false]
  by_cases h2 : us.toArray.size < 2
  · have h2' : us.length < 2 := by simpa using h2
    rw [if_pos h2, if_pos h2]
    refine wpAny_bind (wpAny_pure ?_)
    rw [StateT.run_pure]
    refine wpAny_bind (wpAny_pure ?_)
    have e : (sortIx lt us.length).map (fun i => us.getD i Value.none) = us := by
      unfold sortIx
      rw [if_pos h2', range_map_getD]
    rw [e] at h
    refine key_tail (out := us) hne ?_ rfl h64 (by omega) I h
    apply Array.toList_inj.mp
    show ((ws.toArray.zip us.toArray).map (·.2)).toList = us
    rw [Array.toList_map, ksk_zip]
    have : ∀ (a b : List Value), a.length = b.length → (List.zip a b).map (fun x => x.2) = b := by
      intro a b hab
      exact List.map_snd_zip (by omega)
    exact this ws us hl
  · have h2' : 2 ≤ us.length := by have : ¬ us.length < 2 := by simpa using h2
                                   omega
    rw [if_neg h2, if_neg h2]
    obtain ⟨κ, hk, hc⟩ := hq h2'
    refine wpAny_bind (hk _ _ ?_)
    have run := evT_wpN (cmp := kas_ask X.prog X.w X.A.in1.in1 κ ws) (N := us.length) hc (kas_sort us.length) (fun p s' => p = evT lt (kas_sort us.length) ∧ s' = s) (sort_in (by omega)) ⟨rfl, rfl⟩
    refine wpAny_bind (wpAny_mono (kat_run (ks := ws) (vs := us) (Q := fun st' s' => (arrOf st').map (·.2) = List.toArray ((evT lt (kas_sort us.length)).toList.map fun i => us.getD i Value.none) ∧ (evT lt (kas_sort us.length)).size = us.length ∧ failedOf st' = none ∧ s' = s)
      hl h2' h64 (fun p' st' s' b1 b2 b3 b4 => ⟨by rw [kat_snds hl b2, b4.1], by rw [← b4.1]; exact b1, b3, b4.2⟩) run) ?_ fun _ _ e => e)
    rintro ⟨⟨⟩, st'⟩ s' ⟨har, hps, hf, rfl⟩
    have e : sortIx lt us.length = (evT lt (kas_sort us.length)).toList := by unfold sortIx; rw [if_neg (by omega)]
    rw [e] at h
    exact key_tail hne har hf (by rw [List.length_map, Array.length_toList, hps]; exact h64) (by omega) I h
end

section
variable {X : Cx} {pins : List (Addr × Obj)} {σ : St} {H : Hp} {s : Shared} {E : Value → Shared → Prop}
end
end L2

namespace L2
open PySem PySem.Spec PyProof.Rows
noncomputable abbrev lamE (qual : Str) (scope : Scope) (L f : Addr) (cd : Value) (cl : List (Str × Addr)) : Env := PySem.W.envX qual scope L f cd cl
noncomputable def lamCx (X : Cx) (N : List Str) (qual : Str) (scope : Scope) (f : Addr) (cd : Value) (cl : List (Str × Addr)) (A : Around) (s : Shared) (H : Hp) : Cx :=
  { X with A := A.deeper (lamE qual scope s.heap.objs.size f cd cl), N := N, s₀ := s, H₀ := H, env := lamE qual scope s.heap.objs.size f cd cl, outer := X.stack, stack := lamE qual scope s.heap.objs.size f cd cl :: X.stack, ex := [], fn := fun _ => false, calm := true, pn := [], xe := fun _ _ => False }
structure LamSc (xa xf : Str) (scope : Scope) : Prop where
  kind : scope.kind = .function
  co : scope.isCoroutine = false
  gen : scope.isGenerator = false
  loc : scope.names.lookup xa = some .local
  fr : scope.names.lookup xf = some .free
  only : ∀ x, scope.names.lookup x = some .free → x = xf
  nocell : ∀ x ∈ scope.names, x.2 ≠ .cell
theorem lam_start {X : Cx} {pins : List (Addr × Obj)} {σ : St} {H : Hp} {s : Shared} {A : Around} {xa xf qual : Str} {scope : Scope} {f c : Addr} {cd u u' : Value} {va vf : V} {h₁ : Heap} {tk : Nat}
    (I : Inv X pins σ H s) (S : LamSc xa xf scope) (hA : A.frames = some X.stack) (hh : A.handled = none) (hne : xa ≠ xf) (hc : X.env.cells.lookup xf = some c) (hu : s.heap.IsCell c (some u')) (rf : RelV vf u') (ra : RelV va u)
    (hns : h₁.Ns s.heap.objs.size (fun x => [(xa, u)].reverse.lookup x)) (k : ∀ b o, s.heap.get? b = some o → h₁.get? b = some o) :
    Inv (lamCx X [xa, xf] qual scope f cd [(xf, c)] A s H) [] [some va, some vf] H { s with heap := h₁, toks := tk } := by
  have e0 := I.env0
  have hu' : h₁.IsCell c (some u') := let ⟨o, e, d⟩ := hu; ⟨o, k _ _ e, d⟩
  have noA : ∀ b : Addr, b ∉ (lamCx X [xa, xf] qual scope f cd [(xf, c)] A s H).ex := fun b z => absurd (show b ∈ ([] : List Addr) from z) (by simp)
  have lk : ∀ x c', (lamE qual scope s.heap.objs.size f cd [(xf, c)]).cells.lookup x = some c' → x = xf ∧ c' = c := fun x c' h => by
    have h : List.lookup x [(xf, c)] = some c' := h
    rw [List.lookup_cons] at h
    split at h
    · rename_i e
      cases h
      exact ⟨by simpa using e, rfl⟩
    · cases h
  have lf : (lamE qual scope s.heap.objs.size f cd [(xf, c)]).cells.lookup xf = some c := by show List.lookup xf [(xf, c)] = _; simp
  refine ⟨⟨e0.mod, S.kind, rfl, rfl, Nat.le_refl _, fun y z c' h1 h2 => ?_, fun y hy => ?_, fun y c' hf _ => absurd (show false = true from hf) (by decide), fun _ => hh, Around.frames_deeper hA, .inr ⟨rfl, rfl⟩, fun b z => absurd z (noA b), e0.bs, e0.bsz, fun b _ _ => noA b, fun b z => absurd z (noA b), e0.funs, e0.frf⟩,
    rfl, e0.bare, Un.kept k, ⟨_, hns, fun i y v h1 h2 h3 => ?_⟩, fun y c' h => ?_, e0.hok.fresh (Nat.le_refl _), fun y c' h => ?_, fun p hp => absurd (show p ∈ ([] : List (Addr × Obj)) from hp) (by simp), e0.hok.kept k, rfl⟩
  · rw [(lk _ _ h1).1, (lk _ _ h2).1]
  · have hy : scope.names.lookup y = some .cell ∨ scope.names.lookup y = some .free := hy
    rcases hy with hy | hy
    · exact absurd rfl (S.nocell _ (PySem.mem_of_lookup hy))
    · rw [S.only y hy]; exact ⟨c, lf⟩
  · have h1 : [xa, xf][i]? = some y := h1
    have h2 : [some va, some vf][i]? = some (some v) := h2
    match i, h1, h2 with
    | 0, h1, h2 =>
      cases h1
      cases h2
      exact ⟨u, ra, .inl ⟨S.loc, by simp⟩⟩
    | 1, h1, h2 =>
      cases h1
      cases h2
      exact ⟨u', rf, .inr ⟨.inr S.fr, c, lf, hu'⟩⟩
    | n + 2, h1, _ => simp at h1
  · rw [(lk _ _ h).2]; exact ⟨_, hu'⟩
  · rw [(lk _ _ h).2]; exact I.freeC _ _ hc
noncomputable abbrev lamO (qual : Str) (params : Arguments) (body : Expr) (scope : Scope) (cl : List (Str × Addr)) (pm : Value) (c' : Addr) (ctv : Value) : Obj := PySem.W.kla_obj (Str.ofString "<lambda>") qual params body scope cl pm c' ctv
theorem lam_call {X : Cx} {pins : List (Addr × Obj)} {σ : St} {H : Hp} {s : Shared} {A : Around} {E : Value → Shared → Prop} {xa xf qual : Str} {scope : Scope} {params : Arguments} {body : Expr} {f c c' : Addr} {pm ctv u u' : Value} {va vf : V} {n : Nat} {t : TE} {Q : VK}
    (I : Inv X pins σ H s) (S : LamSc xa xf scope) (hA : A.frames = some X.stack) (hr : Room (n + 1) A) (hne : xa ≠ xf) (hc : X.env.cells.lookup xf = some c) (hu : s.heap.IsCell c (some u')) (rf : RelV vf u') (ra : RelV va u)
    (ho : s.heap.get? f = some (lamO qual params body scope [(xf, c)] pm c' ctv)) (hcd : s.heap.CodeRec (.ref c') qual)
    (hbind : bindArgs (PySem.W.kla_fn (Str.ofString "<lambda>") qual params body scope [(xf, c)] pm (.ref c') ctv) ⟨[u], []⟩ = pure [(xa, u)])
    (hb : Room n (lamCx X [xa, xf] qual scope f (.ref c') [(xf, c)] A s H).A → PE (lamCx X [xa, xf] qual scope f (.ref c') [(xf, c)] A s H) body t) (hq : t [some va, some vf] H Q) :
    wpAny (model X.prog X.w) A (call (.ref f) [u]) (fun u s' => ∃ v H', Inv X pins σ H' s' ∧ RelV v u ∧ Q v H') E s := by
  have lim : s.heap.NoLimit := I.env0.mod.nolimit.keeps fun b o e => (I.env0.bs b o e).1
  refine wpAny_call (PySem.W.kla_callFunE hr.depth ho rfl S.co S.gen rfl hcd ?_)
  rw [hbind]
  refine wpAny_pure (wpAny_newFunctionEnv S.nocell (fun x hx => ?_) (fun h₁ hns hsb => ⟨?_, ?_⟩) S.kind)
  · rw [List.mem_singleton] at hx; rw [hx]; exact S.loc
  · exact lim.fresh _ hsb
  · have k : ∀ b o, s.heap.get? b = some o → h₁.get? b = some o := fun b o e => hsb.extBut b o (Nat.ne_of_lt (Heap.lt_size e)) (Heap.get?_push_of_some _ e)
    have J := lam_start (tk := s.toks + 1) (qual := qual) (f := f) (cd := .ref c') I S hA hr.hd hne hc hu rf ra hns k
    refine PySem.W.kla_codeExpr (wpAny_mono (hb (hr.deeper _) _ _ _ _ _ J hq) (fun v s' ⟨w, H', J', rv, q⟩ => ?_) fun _ _ z => False.elim z)
    exact ⟨w, H', I.call' (ch := []) J'.os J'.base J'.hok J'.bare (fun b z => absurd z (by simp)), rv, q⟩
theorem Inv.grow {X : Cx} {pins : List (Addr × Obj)} {σ : St} {H H' : Hp} {s : Shared} {h' : Heap} {tk : Nat} {P : Addr} {ps more : Array Value} (I : Inv X pins σ H s) (hP : H P = some (.tbl ps)) (hP' : H' P = some (.tbl (ps ++ more))) (eP : h'.get? P = some { cls := .none, data := .fields (ps ++ more) })
    (k : ∀ b u, b ≠ P → s.heap.get? b = some u → h'.get? b = some u) (old : ∀ b u, b ≠ P → H b = some u → H' b = some u) (fr : ∀ b u, s.heap.get? b = some u → H b = none → H' b = none)
    (new : ∀ b u, H b = none → H' b = some u → ∃ o x, u = .frz o (.own x) ∧ h'.get? b = some o) : Inv X pins σ H' { s with heap := h', toks := tk } := by
  have nP : ∀ b, H b = none → b ≠ P := fun b e z => by rw [z, hP] at e; cases e
  have hok : HOk X.prog X.w H' h' := fun b u e => by
    by_cases z : b = P
    · rw [z, hP'] at e; cases e; rw [z]; exact eP
    · cases q : H b with
      | none =>
        obtain ⟨o, x, rfl, e1⟩ := new b u q e
        exact ⟨e1, o, e1⟩
      | some u' =>
        rw [old b u' z q] at e
        cases e
        refine (I.hok b u q).stay (fun c v hc y => k c v ?_ y) (fun c y => old c _ (fun x => by rw [x, hP] at y; cases y) y) fun c xs y => old c _ (fun x => by rw [x, hP] at y; cases y) y
        rcases hc with rfl | hc
        · exact z
        · exact fun x => by rw [x, hP] at hc; cases hc
  refine I.call' (ch := []) (s' := { s with heap := h', toks := tk }) rfl ⟨fun b o e n _ _ => k b o (nP b n) e, fun b o e n _ _ => ⟨o.slots, k b o (nP b n) e⟩, fun b o e n _ => fr b o e n, fun b o e _ => ?_, fun b xs e => old b _ (fun x => by rw [x, hP] at e; cases e) e, fun b o u e => old b _ (fun x => by rw [x, hP] at e; cases e) e, fun b ps' e => ?_⟩ hok I.bare (fun b z => absurd z (by simp))
  · by_cases z : b = P
    · rw [z]; exact ⟨_, eP⟩
    · exact ⟨o, k b o z e⟩
  · by_cases z : b = P
    · rw [z, hP] at e; cases e; rw [z]; exact ⟨more, hP'⟩
    · exact ⟨#[], by rw [old b _ z e]; simp⟩
theorem among_snoc {p : Pos} {x cv : Value} {a b : Int} (l : List Value) (h : TriplesOk l) (e : codeAmong p (l ++ [rawInt a, rawInt b, x]) = some cv) : codeAmong p l = some cv ∨ cv = x := by
  fun_induction TriplesOk l with
  | case1 =>
    simp only [List.nil_append, rawInt, codeAmong] at e
    split at e
    · cases e; exact .inr rfl
    · cases e
  | case2 a t b u y rest ih =>
    simp only [List.cons_append, codeAmong] at e ⊢
    split at e
    · rename_i hc; rw [if_pos hc]; exact .inl e
    · rename_i hc; rw [if_neg hc]; exact ih h e
  | case3 l h1 h2 => exact h.elim
theorem lam_make {X : Cx} {pins : List (Addr × Obj)} {σ : St} {H : Hp} {s : Shared} {E : Value → Shared → Prop} {Q : Value → Shared → Prop} {xf : Str} {scope : Scope} {params : Arguments} {body : Expr} {pos : Pos} {c c0 P : Addr} {ps : Array Value}
    (I : Inv X pins σ H s) (tb : TB H) (hP : H P = some (.tbl ps)) (hcode : X.env.code = .ref c0) (C : PySem.W.CodeHd X.base c0 P) (B : X.base.BuiltinsAt X.mg P) (hcl : closureFor scope X.env = pure [(xf, c)]) (hdef : defaultsOf params X.env = ([], [])) (hqual : X.env.qual ++ Str.ofString "<lambda>" = tabQ)
    (h : ∀ f c' oc uc H' s' pm ctv vs t, Inv X pins σ H' s' → SameT H H' → H f = none → H' f = some (.frz (lamO tabQ params body scope [(xf, c)] pm c' ctv) (.own f)) → H' c' = some (.frz oc uc) → oc.data = .fields vs → vs[1]? = some (.str tabQ t) → Q (.ref f) s') :
    wpAny (model X.prog X.w) X.A (eval (.Lambda params body scope pos) X.env) Q E s := by
  have hPs : s.heap.get? P = some (PySem.W.tabObj ps) := I.hok P _ hP
  have hg : s.heap.Ns mainGlobals X.mg := I.ok.mod.glob.keeps fun b o e => I.bk b o e
  have hgP : mainGlobals ≠ P := fun z => by
    obtain ⟨o, _, _, e, _⟩ := I.ok.mod.glob
    have := (I.bs _ _ e).2
    rw [z, hP] at this; cases this
  have hB : s.heap.BuiltinsAt X.mg P := let ⟨bm, o, b1, b2, b3, b4, b5, b6⟩ := B; ⟨bm, o, b1, b2, b3, b4, I.bk _ _ b5, b6⟩
  obtain ⟨ht, hcs⟩ := tb.1 P ps hP
  refine PySem.W.kla_eval hdef ?_
  rw [show X.env.qual ++ "<lambda>" = tabQ from hqual]
  cases hq : codeAmong pos ps.toList with
  | none =>
    refine PySem.W.kla_makeFunction (mg := X.mg) hcl I.ok.glob hg hcode (C.keeps I.bk) hPs ht hq hgP hB fun c' ctv h' tk hx hge hlt hrec htb => ?_
    obtain ⟨c1, oc, vs, t, e0, e1, e2, e3⟩ := hrec
    cases e0
    have hc0 : H c' = none := I.hok.fresh hge
    have hf0 : H h'.objs.size = none := I.hok.fresh (Nat.le_trans hge (Nat.le_of_lt hlt))
    have ncf : c' ≠ h'.objs.size := Nat.ne_of_lt hlt
    have ncP : c' ≠ P := fun z => by rw [z, hP] at hc0; cases hc0
    have nfP : h'.objs.size ≠ P := fun z => by rw [z, hP] at hf0; cases hf0
    have ab : ∀ b u, s.heap.get? b = some u → b ≠ c' ∧ b ≠ h'.objs.size := fun b u e => by
      have := Heap.lt_size e
      exact ⟨Nat.ne_of_lt (Nat.lt_of_lt_of_le this hge), Nat.ne_of_lt (Nat.lt_of_lt_of_le this (Nat.le_trans hge (Nat.le_of_lt hlt)))⟩
    let H1 : Hp := upd (upd (upd H P (.tbl (ps ++ #[rawInt pos.line, rawInt pos.col, .ref c']))) c' (.frz oc (.own c'))) h'.objs.size (.frz (lamO tabQ params body scope [(xf, c)] ((X.mg "__name__").getD .none) c' ctv) (.own h'.objs.size))
    have eP : H1 P = some (.tbl (ps ++ #[rawInt pos.line, rawInt pos.col, .ref c'])) := by show upd _ _ _ P = _; rw [upd_ne (Ne.symm nfP), upd_ne (Ne.symm ncP), upd_same]
    have ec : H1 c' = some (.frz oc (.own c')) := by show upd _ _ _ c' = _; rw [upd_ne ncf, upd_same]
    have ef : H1 h'.objs.size = some (.frz (lamO tabQ params body scope [(xf, c)] ((X.mg "__name__").getD .none) c' ctv) (.own h'.objs.size)) := upd_same
    have eo : ∀ b, b ≠ P → b ≠ c' → b ≠ h'.objs.size → H1 b = H b := fun b z1 z2 z3 => by show upd _ _ _ b = _; rw [upd_ne z3, upd_ne z2, upd_ne z1]
    have old : ∀ b u, b ≠ P → H b = some u → H1 b = some u := fun b u z e => by rw [eo b z (fun y => by rw [y, hc0] at e; cases e) (fun y => by rw [y, hf0] at e; cases e)]; exact e
    have I' : Inv X pins σ H1 { s with heap := h'.push (lamO tabQ params body scope [(xf, c)] ((X.mg "__name__").getD .none) c' ctv), toks := tk } := by
      refine I.grow hP eP (Heap.get?_push_of_some _ htb) (fun b u z e => Heap.get?_push_of_some _ (hx b u z e)) old (fun b u e n => ?_) fun b u n e => ?_
      · rw [eo b (fun y => by rw [y, hP] at n; cases n) (ab b u e).1 (ab b u e).2]; exact n
      · by_cases z : b = h'.objs.size
        · rw [z, ef] at e; cases e; rw [z]; exact ⟨_, _, rfl, Heap.get?_push_size _ rfl⟩
        · by_cases z2 : b = c'
          · rw [z2, ec] at e; cases e; rw [z2]; exact ⟨_, _, rfl, Heap.get?_push_of_some _ e1⟩
          · rw [eo b (fun y => by rw [y, hP] at n; cases n) z2 z, n] at e; cases e
    have tb1 : TB H1 := ⟨fun P' ps' e => by
      by_cases z : P' = P
      · rw [z, eP] at e
        cases e
        refine ⟨by rw [Array.toList_append]; exact TriplesOk_snoc _ _ _ _ ht, fun pos' cv' e => ?_⟩
        rw [Array.toList_append] at e
        rcases among_snoc _ ht e with y | y
        · obtain ⟨c2, o2, u2, vs2, t2, r1, r2, r3, r4⟩ := hcs pos' cv' y
          exact ⟨c2, o2, u2, vs2, t2, r1, old _ _ (fun x => by rw [x, hP] at r2; cases r2) r2, r3, r4⟩
        · exact ⟨c', oc, _, vs, t, y, ec, e2, e3⟩
      · have n1 : P' ≠ c' := fun y => by rw [y, ec] at e; cases e
        have n2 : P' ≠ h'.objs.size := fun y => by rw [y, ef] at e; cases e
        rw [eo P' z n1 n2] at e
        obtain ⟨g1, g2⟩ := tb.1 P' ps' e
        refine ⟨g1, fun pos' cv' e' => ?_⟩
        obtain ⟨c2, o2, u2, vs2, t2, r1, r2, r3, r4⟩ := g2 pos' cv' e'
        exact ⟨c2, o2, u2, vs2, t2, r1, old _ _ (fun x => by rw [x, hP] at r2; cases r2) r2, r3, r4⟩, fun P' hP' => by
      by_cases z : P' = P
      · rw [z]; exact ⟨_, eP⟩
      · obtain ⟨ps', e⟩ := tb.2 P' hP'
        exact ⟨ps', old _ _ z e⟩⟩
    refine h h'.objs.size c' oc _ H1 _ _ ctv vs t I' ⟨tb, tb1, fun b u e => ?_⟩ hf0 ef ec e2 e3
    by_cases z : b = P
    · rw [z, hP] at e; cases e; exact .inr ⟨_, _, rfl, by rw [z]; exact eP⟩
    · exact .inl (old b u z e)
  | some cv =>
    obtain ⟨c', oc, uc, vs, t, rfl, e1, e2, e3⟩ := hcs pos cv hq
    refine PySem.W.kla_makeFunctionHit (mg := X.mg) hcl I.ok.glob hg hcode (C.keeps I.bk) hPs ht hq hB fun ctv h' tk k hz => ?_
    have hf0 : H h'.objs.size = none := I.hok.fresh hz
    have I1 : Inv X pins σ H { s with heap := h', toks := tk } := I.kept (t' := tk) k
    have I2 := I1.laid (t' := tk) (a := h'.objs.size) (o := .frz (lamO tabQ params body scope [(xf, c)] ((X.mg "__name__").getD .none) c' ctv) (.own h'.objs.size)) (h' := h'.push (lamO tabQ params body scope [(xf, c)] ((X.mg "__name__").getD .none) c' ctv)) (fun b u e => Heap.get?_push_of_some _ e) (Nat.le_refl _) ⟨Heap.get?_push_size _ rfl, _, Heap.get?_push_size _ rfl⟩
    exact h h'.objs.size c' oc uc _ _ _ ctv vs t I2 (SameT.new tb hf0) hf0 upd_same (by rw [upd_ne (ne_of_none e1 hf0)]; exact e1) e2 e3
end L2

namespace L2
open PySem PySem.W PyProof.Rows
section
variable {prog : Program} {w : World} {A : Around} {E : Value → Shared → Prop} {s : Shared}
theorem collect_rng {r : Addr} {a b c : Int} {t u v : Tok} {n : Nat} {Q : List Value → Shared → Prop} (hh : A.handled = none) (hr : IsRange s.heap r a b c t u v) (hsmall : Builtin.Range.small a b c = true) (hn : Builtin.Range.rangeSize a b c = n) (hlen : n ≤ 2 ^ 24)
    (hQ : ∀ h' tk (acc : Array Value), (∀ b o, s.heap.get? b = some o → h'.get? b = some o) → ItemsOf (fun i v => ∃ t, v = .int (a + i * c) t) acc n → Q acc.toList { s with heap := h', toks := tk }) : wpAny (model prog w) A (collect (.ref r)) Q E s := by
  unfold collect
  refine wpAny_bind (wpAny_runValue (codeAny_builtin PySem.F.entry_proto_collect ?_))
  rw [Around.under_plainId PySem.F.plain_proto_collect _]
  change wpAny _ A.in1 (newList [] >>= fun l => again (.builtin "list.__iadd__" ⟨[l, .ref r], []⟩)) _ _ s
  refine wpAny_bind (wpAny_newObj_type (wpAny_pure ⟨plainId_quiet PySem.F.plain_list_iadd _, codeAny_builtin PySem.F.entry_list_iadd ?_⟩))
  rw [Around.under_plainId PySem.F.plain_list_iadd _]
  change wpAny _ A.in1 (Builtin.List.listExtendWith (.ref s.heap.objs.size) (.ref r) (.ref s.heap.objs.size)) _ _ _
  have hr1 : IsRange (s.heap.push { cls := .type "list", data := .seq ([] : List Value).toArray }) r a b c t u v := Heap.get?_push_of_some _ hr
  have fin : ∀ s', (∃ h' tk acc c', s' = { s with heap := h', toks := tk } ∧ (∀ b o, b ≠ s.heap.objs.size → (s.heap.push { cls := .type "list", data := .seq ([] : List Value).toArray }).get? b = some o → h'.get? b = some o) ∧ h'.get? s.heap.objs.size = some { cls := .type "list", dict := none, data := .seq acc c', slots := #[] } ∧ ItemsOf (fun i v => ∃ t, v = .int (a + i * c) t) acc n) →
      wpAny (model prog w) A (load s.heap.objs.size >>= fun o => match o.data with | .seq xs _ => pure xs.toList | _ => unsupported "internal:collect") Q E s' := fun s' ⟨h', tk, acc, c', e, k, hg, it⟩ => by
    subst e
    exact wpAny_bind (wpAny_load hg (wpAny_pure (hQ h' tk acc (fun b o e => k b o (Nat.ne_of_lt (Heap.lt_size e)) (Heap.get?_push_of_some _ e)) it)))
  refine wpAny_mono (wpAny_extend_range (R := fun r s' => r = .ok (.ret (.ref s.heap.objs.size)) ∧ ∃ h' tk acc c', s' = { s with heap := h', toks := tk } ∧ (∀ b o, b ≠ s.heap.objs.size → (s.heap.push { cls := .type "list", data := .seq ([] : List Value).toArray }).get? b = some o → h'.get? b = some o) ∧ h'.get? s.heap.objs.size = some { cls := .type "list", dict := none, data := .seq acc c', slots := #[] } ∧ ItemsOf (fun i v => ∃ t, v = .int (a + i * c) t) acc n)
    (s := { s with heap := s.heap.push { cls := .type "list", data := .seq ([] : List Value).toArray } }) hh hr1 hsmall hn hlen s.heap.objs.size (.ref s.heap.objs.size) 0 (Heap.get?_push_size _ rfl) fun h' tk acc c' k hg it => ⟨rfl, h', tk, acc, c', rfl, k, hg, it⟩) (fun f s' hf => ?_) fun e s' hf => nomatch hf.1
  cases f with
  | done f =>
    obtain ⟨e, h⟩ := hf
    cases e
    exact fin s' h
  | again c' =>
    refine ⟨hf.1, codeAny_mono hf.2 fun r s' h => ?_⟩
    obtain ⟨e, h⟩ := h
    subst e
    exact fin s' h
end
section
variable {X : Cx} {pins : List (Addr × Obj)} {σ : St} {H : Hp} {s : Shared} {E : Value → Shared → Prop}
theorem sorted_rng {r fa : Addr} {a b c : Int} {t u v : Tok} {lt : List Value → Nat → Nat → Bool} {n : Nat} {Q : Value → Shared → Prop} (J : List Value → Nat → List Value → Hp → Prop) (hh : X.A.handled = none) (hr : IsRange s.heap r a b c t u v) (hsmall : Builtin.Range.small a b c = true) (hn : Builtin.Range.rangeSize a b c = n) (h64 : n < 64) (I : Inv X pins σ H s)
    (hJ : ∀ us, J us 0 [] H)
    (hstep : ∀ (us : List Value) (i : Nat) (x : Value) (ws : List Value) (H' : Hp) (s' : Shared) (pins' : List (Addr × Obj)), us.length = n → (∀ (j : Nat) (v : Value), us[j]? = some v → ∃ t, v = .int (a + j * c) t) → us[i]? = some x → J us i ws H' → Inv X pins' σ H' s' → wpAny (model X.prog X.w) X.A.in1.in1 (call (.ref fa) [x]) (fun u s'' => ∃ H'', Inv X pins' σ H'' s'' ∧ J us (i + 1) (ws ++ [u]) H'') (fun _ _ => False) s')
    (hq : ∀ (us ws : List Value) (H' : Hp) (s' : Shared) (pins' : List (Addr × Obj)), us.length = n → J us n ws H' → ws.length = n → Inv X pins' σ H' s' → 2 ≤ n → ∃ κ, (∀ (E' : Value → Shared → Prop) Q, Q κ s' → wpAny (model X.prog X.w) X.A.in1.in1 (keyKind' ws.toArray) Q E' s') ∧ ∀ i j C, i < n → j < n → C (lt ws i j) s' → kas_ask X.prog X.w X.A.in1.in1 κ ws i j C s')
    (hend : ∀ (us ws : List Value) (H' : Hp) (D : Addr) (s' : Shared), us.length = n → (∀ (j : Nat) (v : Value), us[j]? = some v → ∃ t, v = .int (a + j * c) t) → J us n ws H' → H' D = none → (∀ o, (∀ h' : Heap, (∃ c3, h'.get? D = some (lstO ((sortIx (lt ws) n).map fun i => us.getD i Value.none) c3)) → ObjOk X.prog X.w (upd H' D o) h' D o) → Inv X pins σ (upd H' D o) s') → Q (.ref D) s') :
    wpAny (model X.prog X.w) X.A (call (.builtin "sorted") [.ref r] [(Str.ofString "key", .ref fa)]) Q E s := by
  refine call_tree_kw kind_sorted plain_sorted entry_sorted (ksk_s1 _ _) ?_
  unfold Builtin.«sorted»
  refine wpAny_bind (m := checkCount "sorted" 1 1 _) (wpAny_pure (wpAny_bind (collect_rng (by simpa using hh) hr hsmall hn (by omega) fun g tk acc kg it => ?_)))
  have hl : acc.toList.length = n := by rw [Array.length_toList]; exact it.1
  have hit : ∀ (j : Nat) (v : Value), acc.toList[j]? = some v → ∃ t, v = .int (a + j * c) t := fun j v e => it.2 j v (by rw [Array.getElem?_toList] at e; exact e)
  generalize acc.toList = us at hl hit
  have I0 : Inv X pins σ H { s with heap := g, toks := tk } := I.kept (t' := tk) kg
  refine wpAny_bind (wpAny_newList ?_ (by rw [sizeLine_eq]; omega))
  have qD : (g.push (seqObj "list" us.toArray 0)).get? g.objs.size = some (seqObj "list" us.toArray 0) := Heap.get?_push_size _ rfl
  have old : ∀ b o, g.get? b = some o → (g.push (seqObj "list" us.toArray 0)).get? b = some o := fun b o e => Heap.get?_push_of_some _ e
  generalize hh1 : g.push (seqObj "list" us.toArray 0) = h1 at qD old
  have hD0 : g.objs.size ≤ g.objs.size := Nat.le_refl _
  change wpAny _ _ _ _ _ { s with heap := h1, toks := tk }
  obtain ⟨e1, q1⟩ : ∃ e1, (h1.update g.objs.size (Obj.mapSeq fun _ => (#[] : Array Value))).get? g.objs.size = some (seqObj "list" #[] e1) := ⟨_, get?_update_seq qD (fun _ => #[])⟩
  have hDlt : g.objs.size < h1.objs.size := Heap.lt_size qD
  have old2 : ∀ b o, g.get? b = some o → (h1.update g.objs.size (Obj.mapSeq fun _ => (#[] : Array Value))).get? b = some o := fun b o e => by
    rw [Heap.get?_update_ne _ _ _ _ (Nat.ne_of_lt (Heap.lt_size e))]; exact old b o e
  have hkS : ((h1.update g.objs.size (Obj.mapSeq fun _ => (#[] : Array Value))).push (seqObj "tuple" us.toArray 0)).objs.size = h1.objs.size + 1 := by rw [size_push', Heap.size_update]
  refine wpAny_bind (wpAny_holding (wpAny_call_entry_kw slot_list_sort ⟨_, qD, rfl⟩ entry_list_sort ?body (ksk_l1 _ _)))
  rw [ksk_t1]
  unfold ksk_tree
  refine wpAny_bind (listItems_at (n := 0) qD rfl (wpAny_bind (listUpdate_at (n := 0) qD rfl ?_ (by rw [List.size_toArray, sizeLine_eq]; omega) (Nat.zero_le _))))
  refine wpAny_bind (seqEpoch_at q1 rfl (wpAny_bind (wpAny_newTuple ?_ (by show us.length ≤ _; rw [sizeLine_eq]; omega))))
  refine wpAny_bind (wpAny_newList (wpAny_holding ?_) (Nat.zero_le _))
  change wpAny (model X.prog X.w) X.A.in1.in1 (ksk_rest g.objs.size (.ref fa) false us.toArray e1 (.ref ((h1.update g.objs.size (Obj.mapSeq fun _ => (#[] : Array Value))).push (seqObj "tuple" us.toArray 0)).objs.size)) _ _ { s with heap := ((h1.update g.objs.size (Obj.mapSeq fun _ => (#[] : Array Value))).push (seqObj "tuple" us.toArray 0)).push (seqObj "list" #[] 0), toks := tk }
  have qk : (((h1.update g.objs.size (Obj.mapSeq fun _ => (#[] : Array Value))).push (seqObj "tuple" us.toArray 0)).push (seqObj "list" #[] 0)).get? ((h1.update g.objs.size (Obj.mapSeq fun _ => (#[] : Array Value))).push (seqObj "tuple" us.toArray 0)).objs.size = some (lstO [] 0) := Heap.get?_push_size _ rfl
  have hks1 : g.objs.size ≤ ((h1.update g.objs.size (Obj.mapSeq fun _ => (#[] : Array Value))).push (seqObj "tuple" us.toArray 0)).objs.size := by rw [hkS]; exact Nat.le_trans (Nat.le_of_lt hDlt) (Nat.le_succ _)
  have hne : g.objs.size ≠ ((h1.update g.objs.size (Obj.mapSeq fun _ => (#[] : Array Value))).push (seqObj "tuple" us.toArray 0)).objs.size := by rw [hkS]; exact Nat.ne_of_lt (Nat.lt_succ_of_lt hDlt)
  have I1 : Inv X pins σ H { s with heap := ((h1.update g.objs.size (Obj.mapSeq fun _ => (#[] : Array Value))).push (seqObj "tuple" us.toArray 0)).push (seqObj "list" #[] 0), toks := tk } := I0.kept (t' := tk) fun b o e => Heap.get?_push_of_some _ (Heap.get?_push_of_some _ (old2 b o e))
  generalize ((h1.update g.objs.size (Obj.mapSeq fun _ => (#[] : Array Value))).push (seqObj "tuple" us.toArray 0)).objs.size = kS at qk hks1 hne
  have oD := own_new I0 hD0
  have oK := own_new I0 hks1
  have qd : (((h1.update g.objs.size (Obj.mapSeq fun _ => (#[] : Array Value))).push (seqObj "tuple" us.toArray 0)).push (seqObj "list" #[] 0)).get? g.objs.size = some (lstO [] e1) := Heap.get?_push_of_some _ (Heap.get?_push_of_some _ q1)
  refine key_loop (X := X) (pins := pins) (σ := σ) (J us) oD oK hne (by omega) (fun i x ws H' s' pins' e j I' => hstep us i x ws H' s' pins' hl hit e j I') (hJ us) (I1.pins_of fun p hp => ?_) fun ws c H' s' j1 j2 I' => ?_
  · rcases List.mem_cons.mp hp with rfl | hp
    · exact ⟨qd, I0.hok.fresh hD0, oD.2.1, oD.2.2.2.2, not_cell _ _⟩
    · rcases List.mem_cons.mp hp with rfl | hp
      · exact ⟨qk, I0.hok.fresh hks1, oK.2.1, oK.2.2.2.2, not_cell _ _⟩
      · exact I1.pin p (List.mem_append_right _ hp)
  · rw [hl] at j1 j2
    refine key_end (lt := lt ws) hne (by rw [hl]; exact j2) (by omega) I' (fun h2 => by
      rw [hl] at h2 ⊢
      exact hq us ws H' s' _ hl j1 j2 I' h2) fun h' c3 kk hd => ⟨_, rfl, ?_⟩
    refine wpAny_pure ?_
    have pd := I'.pin (g.objs.size, lstO [] e1) (by simp)
    have pk := I'.pin (kS, lstO ws c) (by simp)
    have Ip : Inv X pins σ H' s' := I'.pins_of fun p hp => I'.pin p (by simp [hp])
    rw [hl] at hd
    refine hend us ws H' g.objs.size _ hl hit j1 pd.2.1 fun o ho => ?_
    exact Ip.adopt kk pd.2.1 pk.2.1 hne (fun b hb => by
      rcases hb with rfl | rfl
      · exact ⟨oD.1, oD.2.1, oD.2.2.1, oD.2.2.2.1⟩
      · exact ⟨oK.1, oK.2.1, oK.2.2.1, oK.2.2.2.1⟩) (ho h' ⟨c3, hd⟩)
end
end L2

namespace L2
open PySem PySem.W PyProof.Rows
noncomputable def LamK (K : PySem.W.Frag) (mg : Str → Option Value) (fd : FuncData) (P : Addr) : Prop := ∃ c0, fd.code = .ref c0 ∧ ∀ h : Heap, K.In h → h.Ns mainGlobals mg → CodeHd h c0 P ∧ h.BuiltinsAt mg P
noncomputable def keysOf (fk : Ef) (cap : D) : List Int → Option (List Int)
  | [] => some []
  | i :: r => (fk [.fz (.int i), .fz cap]).bind fun d => match d with | .int k => (keysOf fk cap r).map (k :: ·) | _ => none
theorem keysOf_cons {fk : Ef} {cap : D} {i : Int} {r ks : List Int} (h : keysOf fk cap (i :: r) = some ks) : ∃ k t, ks = k :: t ∧ fk [.fz (.int i), .fz cap] = some (.int k) ∧ keysOf fk cap r = some t := by
  unfold keysOf at h
  obtain ⟨d, h1, h⟩ := Option.bind_eq_some_iff.mp h
  cases d with
  | int k =>
    dsimp only at h
    obtain ⟨t, h2, rfl⟩ := Option.map_eq_some_iff.mp h
    exact ⟨k, t, rfl, h1, h2⟩
  | _ => cases h
theorem keysOf_len {fk : Ef} {cap : D} : ∀ {l ks : List Int}, keysOf fk cap l = some ks → ks.length = l.length
  | [], _, h => by cases h; rfl
  | i :: r, ks, h => by
    obtain ⟨k, t, rfl, _, h2⟩ := keysOf_cons h
    rw [List.length_cons, List.length_cons, keysOf_len h2]
theorem keysOf_at {fk : Ef} {cap : D} : ∀ {l ks : List Int} {j : Nat} {i : Int}, keysOf fk cap l = some ks → l[j]? = some i → ∃ k, ks[j]? = some k ∧ fk [.fz (.int i), .fz cap] = some (.int k)
  | [], _, _, _, _, e => by simp at e
  | i :: r, ks, 0, _, h, e => by
    obtain ⟨k, t, rfl, h1, _⟩ := keysOf_cons h
    cases e
    exact ⟨k, rfl, h1⟩
  | i :: r, ks, j + 1, i', h, e => by
    obtain ⟨k, t, rfl, _, h2⟩ := keysOf_cons h
    exact keysOf_at (j := j) h2 e
noncomputable def sortKs (lo : Int) (ks : List Int) : List D := (sortP ((List.range ks.length).map fun i => (ks.getD i 0, (i : Int)))).map fun p => .int (lo + p.2)
noncomputable def lSortLam (n : Nat) (fa fb fk : Ef) : Lf := fun ρ => (fa ρ).bind fun x => (fb ρ).bind fun y => (getB ρ n).bind fun cap => match x, y with
  | .int i, .int j => if decide (-1000000 ≤ i) && decide (i ≤ 1000000) && decide (-1000000 ≤ j) && decide (j - i < 64) then (keysOf fk cap ((List.range (j - i).toNat).map fun (k : Nat) => i + k)).map (sortKs i) else none
  | _, _ => none
theorem lSortLam_inv {n : Nat} {fa fb fk : Ef} {ρ : List B} {ds : List D} (h : lSortLam n fa fb fk ρ = some ds) : ∃ i j cap ks, fa ρ = some (.int i) ∧ fb ρ = some (.int j) ∧ getB ρ n = some cap ∧ -1000000 ≤ i ∧ i ≤ 1000000 ∧ -1000000 ≤ j ∧ j - i < 64 ∧ keysOf fk cap ((List.range (j - i).toNat).map fun (k : Nat) => i + k) = some ks ∧ ds = sortKs i ks := by
  unfold lSortLam at h
  obtain ⟨x, h1, h⟩ := Option.bind_eq_some_iff.mp h
  obtain ⟨y, h2, h⟩ := Option.bind_eq_some_iff.mp h
  obtain ⟨cap, h3, h⟩ := Option.bind_eq_some_iff.mp h
  cases x with
  | int i =>
    cases y with
    | int j =>
      dsimp only at h
      split at h
      · rename_i hc
        simp only [Bool.and_eq_true, decide_eq_true_eq] at hc
        obtain ⟨ks, h4, rfl⟩ := Option.map_eq_some_iff.mp h
        exact ⟨i, j, cap, ks, h1, h2, h3, hc.1.1.1, hc.1.1.2, hc.1.2, hc.2, h4, rfl⟩
      · cases h
    | _ => cases h
  | _ => cases h
noncomputable def ltK (ks : List Int) (i j : Nat) : Bool := decide (ks.getD i 0 < ks.getD j 0)
theorem ltK_swo (ks : List Int) : SWO (ltK ks) := by
  refine ⟨fun a => ?_, fun a b c => ?_, fun a b c => ?_⟩
  · simp [ltK]
  · simp only [ltK, decide_eq_true_eq]; omega
  · simp only [ltK, decide_eq_true_eq]; omega
theorem sortIx_perm {ks : List Int} {n : Nat} : (sortIx (ltK ks) n).Perm (List.range n) := by
  unfold sortIx
  split
  · exact .refl _
  · exact (sort_ev (ltK_swo ks) (by omega)).2.pm
theorem sortIx_eq (ks : List Int) : sortP ((List.range ks.length).map fun i => (ks.getD i 0, (i : Int))) = (sortIx (ltK ks) ks.length).map fun i => (ks.getD i 0, (i : Int)) := by
  refine sortedP_one ((sortP_perm _).trans ((sortIx_perm (ks := ks)).symm.map _)) (sortP_sorted _) ?_
  rw [List.pairwise_map]
  unfold sortIx
  split
  · rename_i h
    match ks, h with
    | [], _ => exact List.Pairwise.nil
    | [_], _ => exact List.pairwise_singleton _ _
    | _ :: _ :: _, h => simp at h; omega
  · rename_i h
    obtain ⟨a1, a2⟩ := sort_ev (ltK_swo ks) (N := ks.length) (by omega)
    rw [List.pairwise_iff_getElem]
    intro i j hi hj hij
    generalize evT (ltK ks) (kas_sort ks.length) = pp at *
    have hN : pp.toList.length = ks.length := by rw [a2.pm.length_eq, List.length_range]
    have g1 : ∀ k (hk : k < pp.toList.length), gg pp k = pp.toList[k] := fun k hk => by
      rw [gg_eq]
      have : k < pp.size := by simpa using hk
      simp [this]
    have := a1 i j hij (by omega)
    rw [g1 i hi, g1 j hj] at this
    rw [leP_iff]
    unfold Lx ltK at this
    simp only [decide_eq_true_eq, decide_eq_false_iff_not] at this
    omega
theorem sortKs_eq (lo : Int) (ks : List Int) : sortKs lo ks = (sortIx (ltK ks) ks.length).map fun i => .int (lo + (i : Int)) := by
  unfold sortKs
  rw [sortIx_eq, List.map_map]
  rfl
theorem ints_at : ∀ {ws : List Value} {ks : List Int} {i : Nat}, IntsAre ws ks → i < ks.length → ∃ t, ws.getD i Value.none = .int (ks.getD i 0) t
  | _, _, _, .nil, h => by simp at h
  | _, _, 0, .cons n t _, _ => ⟨t, rfl⟩
  | _, _, i + 1, .cons n t r, h => by
    obtain ⟨u, e⟩ := ints_at (i := i) r (by simpa using h)
    exact ⟨u, by simpa using e⟩
theorem ints_snoc {n : Int} {t : Tok} : ∀ {ws : List Value} {ks : List Int}, IntsAre ws ks → IntsAre (ws ++ [.int n t]) (ks ++ [n])
  | _, _, .nil => .cons n t .nil
  | _, _, .cons m u r => .cons m u (ints_snoc r)
section
variable {X : Cx} {a b : Expr} {fa fb fk : Ef} {p p1 p2 pos lp kp : Pos} {xa xf : Str} {scope : Scope} {params : Arguments} {body : Expr} {fd : FuncData} {P : Addr} {n k : Nat}
theorem call_rangeV2 : CallR X (.type "range") (fun xs H Q => ∃ i j, xs = [.int i, .int j] ∧ ∀ p, H p = none → Q (.ref p) (upd H p (.rng i j))) := by
  intro pins s σ H xs us Q I r h
  obtain ⟨i, j, rfl, q⟩ := h
  obtain ⟨u, v, rfl, ru, rv⟩ := vals2 r
  obtain ⟨t, rfl⟩ := ru
  obtain ⟨t', rfl⟩ := rv
  refine call_range_2 ⟨.ref s.heap.objs.size, _, I.laid (o := .rng i j) (fun b o e => Heap.get?_push_of_some _ e) (Nat.le_refl _) ?_, rfl, q _ I.fresh⟩
  exact ⟨_, _, _, Heap.get?_push_size _ rfl⟩
theorem lamSc_of (h : (scope.kind == .function && !scope.isCoroutine && !scope.isGenerator && decide (scope.names.lookup xa = some .local) && decide (scope.names.lookup xf = some .free) && decide (∀ y ∈ scope.names, y.2 = .free → y.1 = xf) && decide (∀ y ∈ scope.names, y.2 ≠ .cell)) = true) : LamSc xa xf scope := by
  simp only [Bool.and_eq_true, decide_eq_true_eq, Bool.not_eq_true'] at h
  obtain ⟨⟨⟨⟨⟨⟨h1, h2⟩, h3⟩, h4⟩, h5⟩, h6⟩, h7⟩ := h
  refine ⟨?_, h2, h3, h4, h5, fun x e => h6 (x, .free) (PySem.mem_of_lookup e) rfl, h7⟩
  generalize scope.kind = k at h1
  cases k <;> first | rfl | cases h1
theorem pl_sortLam (hr : Room (k + 4) X.A) (hg : Gl X "sorted") (hm : X.mg "sorted" = none) (hg' : Gl X "range") (hm' : X.mg "range" = none) (hcode : X.env.code = fd.code) (L : LamK X.K X.mg fd P) (hP : P ∈ tabs) (ha : PF X a fa) (hb : PF X b fb) (hbind : ∀ pm c' ctv c u, bindArgs (PySem.W.kla_fn (Str.ofString "<lambda>") tabQ params body scope [(xf, c)] pm (.ref c') ctv) ⟨[u], []⟩ = pure [(xa, u)]) (S : LamSc xa xf scope)
    (hk : ∀ f c' c A s H, Room k (lamCx X [xa, xf] tabQ scope f (.ref c') [(xf, c)] A s H).A → PF (lamCx X [xa, xf] tabQ scope f (.ref c') [(xf, c)] A s H) body fk) (hcl : ∀ c, X.env.cells.lookup xf = some c → closureFor scope X.env = pure [(xf, c)])
    (hne : xa ≠ xf := by decide) (hN : X.N[n]? = some xf := by rfl) (hc : X.env.scope.names.lookup xf = some .cell := by rfl) (hdef : defaultsOf params X.env = ([], []) := by rfl) (hqual : X.env.qual ++ Str.ofString "<lambda>" = tabQ := by rfl)
    (hs1 : starEach [a, b] X.env = (false, eval a X.env) :: starEach [b] X.env := by rfl) (hs2 : starEach [b] X.env = [(false, eval b X.env)] := by rfl) :
    PFr X (.Call (.Name "sorted" p) [.Call (.Name "range" p1) [a, b] [] p2] [⟨some "key", .Lambda params body scope lp, kp⟩] pos) (lSortLam n fa fb fk) := by
  intro pins s σ H Q I h0
  obtain ⟨G0, H0, G, ρ, ds, good, hf, K⟩ := h0
  obtain ⟨i, j, cap, ks, f1, f2, f3, b1, b2, b3, b4, hks, rfl⟩ := lSortLam_inv hf
  obtain ⟨c0, hc0, hL⟩ := L
  obtain ⟨C, B⟩ := hL X.base I.ok.mod.kin I.ok.mod.glob
  have hlen : ks.length = (j - i).toNat := by rw [keysOf_len hks, List.length_map, List.length_range]
  refine wpAny_Call_Name_kw (ld_blt I hg hm (u := .builtin "sorted") (by rfl) ?_ (by decide) (by decide))
  refine callWith_kw ?_ (by rfl) (by rfl) (by rfl) (by rfl)
  have hra : PE X (.Call (.Name "range" p1) [a, b] [] p2) _ := pe_callTy call_rangeV2 hg' hm' (by rfl) (pa_cons ha (pa_cons hb pa_nil (by rw [hs2]; rfl)) hs1) (by decide) (by decide) hs1 (by rw [hs2]; rfl)
  refine spliced_more (thn (hra pins s σ H (fun v H1 => ∃ r G1, v = .ref r ∧ Step G H G1 H1 ∧ H1 r = some (.rng i j)) I ?_) fun u s1 ⟨v, H1, I1, rv, r, G1, e, st1, hr1⟩ => ?_) (by rfl)
  · refine ⟨G0, H0, G, ρ, _, good, f1, fun x H1 G1 s1 r1 => ⟨G0, H0, G1, ρ, _, good.step s1, f2, fun y H2 G2 s2 r2 => ⟨i, j, by rw [rep_int.mp r1, rep_int.mp r2], fun p hp => ⟨p, G2, rfl, ?_, upd_same⟩⟩⟩⟩
    exact (s1.trans s2).trans (Step.own s2.sub hp)
  subst e
  cases rv
  refine spliced_none ?_
  have good1 := good.step st1
  obtain ⟨P', tP⟩ := st1.sub.tb.2 P hP
  obtain ⟨cv, hn1, repC⟩ := getB_good good1 f3
  obtain ⟨c, hcc⟩ := I1.ok.has xf (.inl hc)
  refine kws_cons (lam_make (c := c) I1 st1.sub.tb tP (hcode.trans hc0) C B (hcl c hcc) hdef hqual fun f c' oc uc H2 s2 pm ctv vs t I2 sm hf0 hf2 hc2 od ov => ?_)
  refine kws_nil ?_
  have st2 : Step G1 H1 G1 H2 := ⟨sm, .refl st1.sub.ta, st1.sub.trans sm, fun _ _ => rfl⟩
  have hr2 : H2 r = some (.rng i j) := sm.get hr1
  obtain ⟨t1, t2, t3, er⟩ := (show ObjOk X.prog X.w H2 s2.heap r (.rng i j) from I2.hok r _ hr2)
  have hsz : Builtin.Range.rangeSize i j 1 = ((j - i).toNat : Nat) := by rw [rangeSize_one]; split <;> omega
  refine sorted_rng (lt := fun _ => ltK ks) (n := (j - i).toNat) (fun us m ws H' => ∃ G', Step G1 H2 G' H' ∧ IntsAre ws (ks.take m)) hr.hd (show IsRange s2.heap r i j 1 t1 t2 t3 from er) (small_one (by omega) (by omega) (by omega) (by omega)) hsz (by omega) I2 (fun us => ⟨G1, .refl st2.sub, by rw [List.take_zero]; exact .nil⟩) ?step ?asks ?fin
  case step =>
    intro us m x ws H' s' pins' hl hit hx hJ I'
    obtain ⟨G', st, iw⟩ := hJ
    obtain ⟨tx, rfl⟩ := hit m x hx
    have hm : m < (j - i).toNat := by rw [← hl]; exact (List.getElem?_eq_some_iff.mp hx).1
    obtain ⟨kk, ek, fk1⟩ := keysOf_at (j := m) (i := i + (m : Nat)) hks (by simp [hm])
    obtain ⟨m1, _, hloc⟩ := I'.loc
    obtain ⟨u', ru', lk⟩ := hloc n xf cv hN hn1 (.inr (.inl hc))
    have hcell : s'.heap.IsCell c (some u') := by
      rcases lk with ⟨z, _⟩ | ⟨_, c2, z, y⟩
      · have z' : X.env.scope.names.lookup xf = some .local := z
        rw [hc] at z'; cases z'
      · rw [hcc] at z; cases z; exact y
    have sH := st2.trans st
    have ho := (show ObjOk X.prog X.w H' s'.heap f (.frz _ _) from I'.hok f _ (st.hh.get hf2)).1
    have hoc := (show ObjOk X.prog X.w H' s'.heap c' (.frz _ _) from I'.hok c' _ (st.hh.get hc2)).1
    refine thn (lam_call (n := k) (t := tF X.K fk) (Q := fun v H'' => ∃ G'', Step G' H' G'' H'' ∧ v = .int kk) (va := .int (i + (m : Nat) * 1)) (vf := cv) (A := X.A.in1.in1) I' S I'.ok.frames ((hr.in1).in1.mono (by omega)) hne hcc hcell ru' ⟨tx, rfl⟩ ho ⟨c', oc, vs, t, rfl, hoc, od, ov⟩ (hbind _ _ _ _ _) (fun hr' => hk _ _ _ _ _ _ hr') ?_) fun u s'' ⟨v, H'', I'', rv, G'', st'', e⟩ => ?_
    · refine ⟨G', H', G', [.fz (.int (i + (m : Nat))), .fz cap], .int kk, ⟨.refl st.sub, .cons (.fz ?_) (.cons (.fz (repC.mono (st2.trans st).gg)) .nil), fun i j a ds es e => ?_⟩, fk1, fun v H'' G'' s'' r => ⟨G'', s'', rep_int.mp r⟩⟩
      · rw [rep_int]; simp
      · match i, e with
        | 0, e => simp at e
        | 1, e => simp at e
        | n + 2, e => simp at e
    · subst e
      obtain ⟨tk, rfl⟩ := rv
      refine ⟨H'', I'', G'', st.trans st'', ?_⟩
      rw [List.take_succ, ek]
      exact ints_snoc iw
  case asks =>
    intro us ws H' s' pins' hl hJ hw I' h2
    obtain ⟨G', st, iw⟩ := hJ
    rw [List.take_of_length_le (by omega)] at iw
    refine ⟨oneType', fun E' Q' hQ => ?_, fun x y C hx hy hC => ?_⟩
    · rw [ksk_kind (keys := ws.toArray) iw (by rw [List.size_toArray]; omega)]
      exact wpAny_pure hQ
    · obtain ⟨t4, e4⟩ := ints_at iw (i := x) (by omega)
      obtain ⟨t5, e5⟩ := ints_at iw (i := y) (by omega)
      unfold kas_ask
      rw [e4, e5]
      exact kat_lt_int hC
  case fin =>
    intro us ws H' D s' hl hit hJ hD hI
    obtain ⟨G', st, iw⟩ := hJ
    have stp : Step G H G' H' := (st1.trans st2).trans st
    have hpm := sortIx_perm (ks := ks) (n := (j - i).toNat)
    have vals : Vals ((sortIx (ltK ks) (j - i).toNat).map fun (m : Nat) => V.int (i + (m : Int))) ((sortIx (ltK ks) (j - i).toNat).map fun m => us.getD m Value.none) := by
      have key : ∀ l : List Nat, (∀ m ∈ l, m < (j - i).toNat) → Vals (l.map fun (m : Nat) => V.int (i + (m : Int))) (l.map fun m => us.getD m Value.none) := by
        intro l
        induction l with
        | nil => intro _; exact .nil
        | cons m r ih =>
          intro hh
          have hm : m < us.length := by rw [hl]; exact hh m (by simp)
          obtain ⟨tx, ex⟩ := hit m us[m] (by simp [hm])
          refine .cons ⟨tx, ?_⟩ (ih fun q hq => hh q (by simp [hq]))
          simp [hm, ex]
      exact key _ fun m hm => by simpa using hpm.subset hm
    refine ⟨.ref D, _, hI (.lst ((sortIx (ltK ks) (j - i).toNat).map fun (m : Nat) => V.int (i + (m : Int)))) fun h' ⟨c3, e3⟩ => ?_, rfl, ?_⟩
    · refine ⟨?_, _, c3, vals, by simpa [seqObj] using e3⟩
      rw [List.length_map, hpm.length_eq, List.length_range]
      exact Nat.le_of_lt (lim_ok (by show (j - i).toNat ≤ 100000; omega))
    · refine K D _ _ G' (stp.trans (Step.own stp.sub hD)) (stp.hh.free hD) upd_same (stp.sub.free hD) ?_
      rw [sortKs_eq, hlen]
      generalize sortIx (ltK ks) (j - i).toNat = l
      induction l with
      | nil => exact reps_nil.mpr rfl
      | cons m r ih => exact reps_cons.mpr ⟨_, _, rfl, rep_int.mpr rfl, ih⟩
end
end L2

namespace L2
open PySem PySem.W PySem.Spec PyProof.Rows
section
variable {P : Program} {w : World} {K : PySem.W.Frag} {mg : Str → Option Value} {base : Heap} {x qual : Str} {st : Stmt} {f : Addr} {fd : FuncData} {N ps : List Str} {k : Nat}
theorem ok_fnLc {body : Sf} (F : Fun K x qual st f fd) (S : FnScope N ps (defScope st))
    (hb : ∀ (cdv : Value) (A : Around) (outer : List Env) (s : Shared) (H : Hp) (E : XK), cdv = fd.code → Room k (A.deeper (envOfC qual (defScope st) s.heap.objs.size f cdv)) → PFSs (cxOf CX0 P w K mg base N qual (defScope st) f cdv A outer s H E).nox (defBody st) body) :
    FnOk P w K mg base CX0 (k + 1) f fd ps (spL K ps.length (fnL N.length body)) := by
  obtain ⟨oc, od, kV, doc, pm, an, cdv, ct, osl, rfl, lk, hcd⟩ := F.ex
  refine fn_of lk hcd S (fun vs H Q E h => ?_) (fun A outer s H vs Q E hr h => ⟨_, PSs.nox (hb cdv A outer s H E rfl hr), ?_⟩)
  · obtain ⟨G, ds, d, sub, rs, hl, _⟩ := h
    rw [← rs.length]; exact hl
  · obtain ⟨G, ds, d, sub, rs, hl, hf, k⟩ := h
    unfold fnL at hf
    obtain ⟨o, h1, h2⟩ := Option.bind_eq_some_iff.mp hf
    refine ⟨G, H, G, _, o, good_start sub rs, h1, ?_⟩
    cases o with
    | rl es => cases h2; exact fun p us H' G' s' hn hp gp r => k p us H' G' s' hn hp gp r
    | _ => cases h2
end
noncomputable def LamAt (K : PySem.W.Frag) (x : Str) (P : Addr) : Prop := ∃ (f c0 bm : Addr) (fd : FuncData) (oc : Value) (od : Option Addr) (sl sl1 sl2 : Array (Option Value)) (o1 : Option Addr) (vs : Array Value) (file : Str) (tf : Tok) (flags : Int) (tg : Tok) (inF : Bool) (text : Int) (tt : Tok),
  nsIn K mainGlobals x = some (some (.ref f)) ∧ K.lookup f = some ⟨oc, od, .func fd, sl⟩ ∧ fd.code = .ref c0 ∧ K.lookup c0 = some ⟨.type "code", o1, .fields vs, sl1⟩ ∧ (vs[11]? = some (.ref P) ∧ vs.getD 11 .none = .ref P ∧ vs.getD 18 .none = .str file tf ∧
    vs.getD 7 .none = .int flags tg ∧ vs.getD 9 .none = .bool inF ∧ vs.getD 10 .none = .int text tt ∧ c0 ≠ P) ∧ nsIn K mainGlobals "__builtins__" = some (some (.ref bm)) ∧ K.lookup bm = some ⟨.type "module", some builtinsNs, .plain, sl2⟩ ∧ bm ≠ builtinsNs ∧ bm ≠ mainGlobals ∧ bm ≠ P
section
variable {K : PySem.W.Frag} {mg : Str → Option Value} {x : Str} {st : Stmt} {ps : List Str} {P : Addr} {h : Heap}
theorem lam_k (l : LamAt K x P) (X : K.In h) (G : h.Ns mainGlobals mg) (t : FnT K mg x st ps) : LamK K mg t.fd P := by
  obtain ⟨f, c0, bm, fd, oc, od, sl, sl1, sl2, o1, vs, file, tf, flags, tg, inF, text, tt, h1, h2, h3, h4, ⟨a1, a2, a3, a4, a5, a6, a7⟩, h6, h7, h8, h9, h10⟩ := l
  have e := (mg_of X G h1).symm.trans t.m
  have ef : t.f = f := by cases e; rfl
  obtain ⟨oc', od', kV, doc, pm, an, cdv, ct, osl, q1, lk, _⟩ := t.F.ex
  rw [ef, h2] at lk
  have efd : t.fd = fd := by injection lk with lk; injection lk with _ _ z _; injection z with z; exact z.symm
  refine ⟨c0, by rw [efd]; exact h3, fun h' X' G' => ⟨⟨_, vs, file, tf, flags, tg, inF, text, tt, X' _ _ h4, rfl, rfl, a1, a2, a3, a4, a5, a6, a7⟩, ⟨bm, _, mg_of X' G' h6, h8, h9, h10, X' _ _ h7, rfl, rfl, rfl⟩⟩⟩
theorem lam_hd (l : LamAt K x P) (X : K.In h) : ∃ c0, CodeHd h c0 P := by
  obtain ⟨f, c0, bm, fd, oc, od, sl, sl1, sl2, o1, vs, file, tf, flags, tg, inF, text, tt, h1, h2, h3, h4, ⟨a1, a2, a3, a4, a5, a6, a7⟩, _⟩ := l
  exact ⟨c0, _, vs, file, tf, flags, tg, inF, text, tt, X _ _ h4, rfl, rfl, a1, a2, a3, a4, a5, a6, a7⟩
end
theorem in_cons {K : PySem.W.Frag} {p : Addr} {o : Obj} {h : Heap} (n : K.lookup p = none) (Y : Frag.In ((p, o) :: K) h) : K.In h ∧ h.get? p = some o := by
  refine ⟨fun b u e => Y b u ?_, Y p o ?_⟩
  · rw [List.lookup_cons]
    split
    · rename_i z
      have z : b = p := by simpa using z
      rw [z, n] at e; cases e
    · exact e
  · rw [List.lookup_cons]
    simp
theorem law_callT {P : Program} {w : World} {K : PySem.W.Frag} {mg mb : Str → Option Value} {CX : CXT} {k : Nat} {fa a P0 c0 : Addr} {fd : FuncData} {x : Str} {sp : Sp} {s₁ : Shared} {vs : List Value} {ns : List Int}
    (KX : K.In s₁.heap) (hns : s₁.heap.Ns mainGlobals mg) (hb : s₁.heap.Ns builtinsNs mb) (hbb : ∀ x : Str, x ≠ "__name__" → mb x = bootBuiltins x) (hlim : s₁.heap.NoLimit) (hg : s₁.gens = #[])
    (ha : s₁.heap.get? a = some { cls := .type "list", data := .seq vs.toArray }) (hi : IntsAre vs ns) (hl : ns.length ≤ sizeLine) (hr : Room k callerA)
    (hT : s₁.heap.get? P0 = some (tabObj #[])) (hKP : K.lookup P0 = none) (hC : CodeHd s₁.heap c0 P0) (htabs : ∀ b ∈ tabs, b = P0)
    (F : ∀ base : Heap, K.In base → base.Ns mainGlobals mg → FnOk P w K mg base CX k fa fd [x] sp) (hbind : ∀ (s : Shared) (u : Value), BindsTo s fd ⟨[u], []⟩ [(x, u)])
    (hsp : ∀ H : Hp, TB H → SqL K H a (ns.map V.int) → sp [.ref a] H (fun v _ => v = .bl true) fun _ _ _ => False)
    (hCX : ∀ H e s', CX [] H s₁ (fun _ _ _ => False) e s' → False) :
    codeAny (model P w) callerA (.call (.ref fa) ⟨[.ref a], []⟩) (fun r s' => r = .ok (.ret (.bool true)) ∧ OldK s₁.heap s'.heap ∧ s'.os = s₁.os ∧ AllBare s'.gens) s₁ := by
  have rv := vals_ints hi
  have lenV := hi.length
  have haP : a ≠ P0 := fun z => by
    rw [z, hT] at ha
    injection ha with ha
    injection ha with _ _ hd
    cases hd
  -- from an abstract heap in which the script may be tracked, and the table is
  have core : ∀ H : Hp, SqL K H a (ns.map V.int) → HOk P w H s₁.heap → (∀ b u, H b = some u → (b = a ∧ u = .frz { cls := .type "list", data := .seq vs.toArray } (.lst (ns.map V.int))) ∨ (b = P0 ∧ u = .tbl #[])) → H P0 = some (.tbl #[]) → (H a ≠ none → K.lookup a = none) →
      codeAny (model P w) callerA (.call (.ref fa) ⟨[.ref a], []⟩) (fun r s' => r = .ok (.ret (.bool true)) ∧ OldK s₁.heap s'.heap ∧ s'.os = s₁.os ∧ AllBare s'.gens) s₁ := by
    intro H hS hok hA hP hK
    have base_of : ∀ {b : Addr} {o : Obj}, s₁.heap.get? b = some o → H b = none → (hidT s₁.heap H).get? b = some o := fun e n => hidT_get e n
    have tb : TB H := by
      refine ⟨fun b ps e => ?_, fun b hb => ⟨#[], (congrArg H (htabs b hb)).trans hP⟩⟩
      rcases hA b _ e with ⟨_, z⟩ | ⟨_, z⟩
      · cases z
      · cases z
        exact ⟨trivial, fun pos cv q => nomatch q⟩
    have noA : ∀ {b : Addr} {o : Obj} {es : Array DictEntry} {ep : Nat}, s₁.heap.get? b = some o → o.data = .dict es ep → H b = none := fun {b o es ep} e d => by
      cases q : H b with
      | none => rfl
      | some u =>
        rcases hA b u q with ⟨e', _⟩ | ⟨e', _⟩
        · subst e'
          rw [ha] at e; cases e
          have d' : Data.seq vs.toArray _ = Data.dict es ep := d
          cases d'
        · subst e'
          rw [hT] at e; cases e
          have d' : Data.fields _ = Data.dict es ep := d
          cases d'
    have nsK : ∀ {b : Addr} {m : Str → Option Value}, s₁.heap.Ns b m → (hidT s₁.heap H).Ns b m := fun {b m} ⟨o, es, ep, e, d, r⟩ => ⟨o, es, ep, base_of e (noA e d), d, r⟩
    have hKb : K.In (hidT s₁.heap H) := fun b o e => base_of (KX b o e) (by
      cases q : H b with
      | none => rfl
      | some u =>
        rcases hA b u q with ⟨e', _⟩ | ⟨e', _⟩
        · subst e'
          rw [hK (by rw [q]; simp)] at e; cases e
        · subst e'
          rw [hKP] at e; cases e)
    have hM : Mod K mg (hidT s₁.heap H) := ⟨hKb, nsK hns, ⟨mb, nsK hb, hbb⟩, let ⟨mc, h1, h2⟩ := hlim; ⟨mc, nsK h1, h2⟩⟩
    have e0 : Env0 P w K mg (hidT s₁.heap H) callerA [] s₁ H := ⟨rfl, hM, fun b o e => of_hidT e, Nat.le_of_eq (hidT_size _ _), trivial, fun b hb => absurd (show b ∈ ([] : List Addr) from hb) (by simp), hok, .of_eq hg⟩
    refine codeAny_mono ((F _ hKb (nsK hns)).run callerA [] s₁ H ⟨[.ref a], []⟩ [.ref a] [.ref a] _ _ hr e0 (hbind s₁ (.ref a)) (.cons rfl .nil) (hsp H tb hS)) fun r s' h => ?_
    cases r with
    | error e => exact (hCX H e s' h).elim
    | ok fl =>
      cases fl with
      | next => exact False.elim h
      | brk => exact False.elim h
      | cont => exact False.elim h
      | ret u =>
        obtain ⟨v, H', os, bare, un, hok', r', q⟩ := h
        have q' : v = .bl true := q
        subst q'
        obtain rfl : u = Value.bool true := r'
        refine ⟨rfl, ⟨fun b o e => ?_, fun b o e => un.there b o e (by simp)⟩, os, bare⟩
        cases q : H b with
        | none => exact .inl (un.keep b o e q (by intro z; exact absurd (show b ∈ ([] : List Addr) from z) (by simp)) (by simp))
        | some u =>
          rcases hA b u q with ⟨e', z⟩ | ⟨e', z⟩
          · rw [z] at q
            have z2 := un.frzs b _ _ q
            obtain ⟨e1, _⟩ := hok b _ q
            obtain ⟨e2, _⟩ := hok' b _ z2
            rw [e] at e1; cases e1
            exact .inl e2
          · rw [z] at q
            obtain ⟨more, z2⟩ := un.tbls b _ q
            have e2 : s'.heap.get? b = some { cls := .none, data := .fields (#[] ++ more) } := hok' b _ z2
            rw [e', hT] at e
            cases e
            rw [e'] at e2 ⊢
            exact .inr (.inl ⟨(hC.tab hT).isCodeTable, rfl, #[], more, rfl, e2⟩)
  cases hk : K.lookup a with
  | some o =>
    have e := KX a o hk
    rw [ha] at e
    cases e
    refine core (fun b => if b = P0 then some (.tbl #[]) else none) (.inr ⟨_, vs.toArray, _, hk, rfl, rfl, rfl, by rw [List.size_toArray, lenV]; exact hl, by simpa using rv⟩) (fun b u z => ?_) (fun b u z => ?_) (if_pos rfl) fun z => absurd (if_neg haP) z
    · by_cases hb : b = P0
      · have z' := (if_pos hb).symm.trans z
        cases z'
        rw [hb]; exact hT
      · have z' := (if_neg hb).symm.trans z
        cases z'
    · by_cases hb : b = P0
      · have z' := (if_pos hb).symm.trans z
        cases z'
        exact .inr ⟨hb, rfl⟩
      · have z' := (if_neg hb).symm.trans z
        cases z'
  | none =>
    refine core (fun b => if b = P0 then some (.tbl #[]) else if b = a then some (.frz { cls := .type "list", data := .seq vs.toArray } (.lst (ns.map V.int))) else none) (.inl (.inr ⟨{ cls := .type "list", data := .seq vs.toArray }, (if_neg haP).trans (if_pos rfl)⟩)) (fun b u z => ?_) (fun b u z => ?_) (if_pos rfl) fun _ => hk
    · by_cases hb : b = P0
      · have z' := (if_pos hb).symm.trans z
        cases z'
        rw [hb]; exact hT
      · have z := (if_neg hb).symm.trans z
        by_cases hb : b = a
        · have z' := (if_pos hb).symm.trans z
          cases z'
          subst hb
          exact ⟨ha, by rw [List.length_map]; exact hl, vs, _, rv, ha⟩
        · have z' := (if_neg hb).symm.trans z
          cases z'
    · by_cases hb : b = P0
      · have z' := (if_pos hb).symm.trans z
        cases z'
        exact .inr ⟨hb, rfl⟩
      · have z := (if_neg hb).symm.trans z
        by_cases hb : b = a
        · have z' := (if_pos hb).symm.trans z
          cases z'
          exact .inl ⟨hb, rfl⟩
        · have z' := (if_neg hb).symm.trans z
          cases z'
theorem walk_ofT {l : PySem.W.OpenLaw} {n k : Nat} {q : Program} {loose : List Str} {XP : (Str → Option Value) → Heap → Prop} {YP : World → Heap → Prop} {d : DefRec} {K : Params → PySem.W.Frag} {CX : World → CXT} {sp : World → Sp} {x y : Str} {P0 : Addr}
    (hn : l.most = some n) (hn2 : n ≤ sizeLine) (hdf : d.params.defaults = []) (hr : Room k callerA)
    (hY : ∀ (w : World) (h : Heap), YP w h → (K w.params).In h ∧ h.get? P0 = some (tabObj #[])) (hKP : ∀ w : World, (K w.params).lookup P0 = none) (hL : ∀ w : World, LamAt (K w.params) y P0) (htabs : ∀ b ∈ tabs, b = P0)
    (F : ∀ (w : World) (mg : Str → Option Value) (fa : Addr) (h : Heap), (K w.params).In h → h.Ns mainGlobals mg → mg d.name = some (.ref fa) →
      ∃ fd : FuncData, (∀ (s : Shared) (u : Value), BindsTo s fd ⟨[u], []⟩ [(x, u)]) ∧
        ∀ base : Heap, (K w.params).In base → base.Ns mainGlobals mg → FnOk l.prog w (K w.params) mg base (CX w) k fa fd [x] (sp w))
    (hsp : ∀ (w : World) (H : Hp) (a : Addr) (ns : List Int), ns.length ≤ n → TB H → SqL (K w.params) H a (ns.map V.int) → sp w [.ref a] H (fun v _ => v = .bl true) fun _ _ _ => False)
    (hCX : ∀ (w : World) (H : Hp) (s : Shared) (e : Value) (s' : Shared), CX w [] H s (fun _ _ _ => False) e s' → False) :
    PySem.W.WalkO q loose XP YP l.row.toRowW d [] (fun f vs => PySem.call f vs) := by
  refine Att.attach_call hn hdf fun w s₀ s₁ mg mb fa o pm cd doc a vs ns G Y ho hd hcd hmg hobj hints hlen hg => ?_
  obtain ⟨KX, hT⟩ := hY w _ Y
  obtain ⟨fd, hb, hF⟩ := F w mg fa _ KX G.T.g hmg
  obtain ⟨c0, hC⟩ := lam_hd (hL w) KX
  exact law_callT KX G.T.g G.T.b G.T.builtins G.T.nolimit hg hobj hints (Nat.le_trans hlen hn2) hr hT (hKP w) hC htabs hF hb (fun H hO hS => hsp w H a ns hlen hO hS) fun H e s' => hCX w H s₁ e s'
theorem law_okT {K : PySem.W.Frag} {H : Hp} {a : Addr} {ns : List Int} {d_law : List D → Option D} (tb : TB H) (hS : SqL K H a (ns.map V.int)) (h : d_law [.lst (ns.map .int)] = some (.bl true)) : spF K 1 d_law [.ref a] H (fun v _ => v = .bl true) fun _ _ _ => False := by
  have rs : ∀ ns : List Int, Reps K H (ns.map .int) (ns.map V.int) := fun ns => by
    induction ns with
    | nil => exact reps_nil.mpr rfl
    | cons n r ih => exact reps_cons.mpr ⟨_, _, rfl, rep_int.mpr rfl, ih⟩
  exact ⟨H, [.lst (ns.map .int)], .bl true, SameT.refl tb, reps_cons.mpr ⟨_, _, rfl, rep_lst.mpr ⟨a, _, rfl, hS, rs ns⟩, reps_nil.mpr rfl⟩, rfl, h, fun v H' G' _ r => rep_bl.mp r⟩
end L2

namespace L2
open PySem PySem.W PySem.Spec PyProof.Rows
noncomputable def PairAt (h : Heap) (a : Addr) (p : Int × Int) : Prop := ∃ o n t t', h.get? a = some o ∧ o.cls = .type "tuple" ∧ o.data = .seq #[.int p.1 t, .int p.2 t'] n
section
variable {prog : Program} {w : World} {A : Around} {E : Value → Shared → Prop} {s : Shared}
theorem int_cmp_lt {x y : Int} {t u : Tok} {Q : Value → Shared → Prop} (h : Q (.bool (decide (x < y))) s) : wpAny (model prog w) A (richCompare .Lt (.int x t) (.int y u)) Q E s := CmpOf.ints_lt (P := fun i v => ∃ t, v = .int (if i = 0 then x else y) t) (fun i => if i = 0 then x else y) (fun _ _ h => h) 0 1 _ _ s Q E ⟨t, rfl⟩ ⟨u, rfl⟩ h
theorem int_cmp_gt {x y : Int} {t u : Tok} {Q : Value → Shared → Prop} (h : Q (.bool (decide (x > y))) s) : wpAny (model prog w) A (richCompare .Gt (.int x t) (.int y u)) Q E s := CmpOf.ints_gt (P := fun i v => ∃ t, v = .int (if i = 0 then x else y) t) (fun i => if i = 0 then x else y) (fun _ _ h => h) 0 1 _ _ s Q E ⟨t, rfl⟩ ⟨u, rfl⟩ h
theorem cmp_lt {a b : Addr} {x y : Int × Int} {Q : Value → Shared → Prop} (hu : A.units < cLine) (ha : PairAt s.heap a x) (hb : PairAt s.heap b y) (h : Q (.bool (lxLt x y)) s) : wpAny (model prog w) A (richCompare .Lt (.ref a) (.ref b)) Q E s := by
  obtain ⟨o, n, t1, t2, e1, c1, d1⟩ := ha
  obtain ⟨o', n', t3, t4, e2, c2, d2⟩ := hb
  have ta : s.TypeIs (.ref a) "tuple" := ⟨o, e1, c1⟩
  have tb : s.TypeIs (.ref b) "tuple" := ⟨o', e2, c2⟩
  refine wpAny_richCompare_same_room ta tb F.slot_tuple_lt (wpAny_call_entry F.slot_tuple_lt ta F.entry_tuple_lt ?_ (F.args_tuple_lt_2 _ _)) hu
  show wpAny _ _ (isInstance (.ref b) (.type "tuple") >>= _) _ _ s
  refine wpAny_bind (wpAny_isInstance tb isSubtype_tuple_tuple ?_)
  simp only [Bool.not_true, Bool.false_eq_true, if_false]
  refine wpAny_bind (wpAny_tupleItemsOf e1 d1 ?_)
  refine wpAny_bind (wpAny_tupleItemsOf e2 d2 ?_)
  dsimp only [List.zip, List.zipWith]
  simp only [List.forIn_cons, List.forIn_nil]
  refine wpAny_bind (wpAny_bind (wpAny_bind (wpAny_eqBool_int ?_)))
  by_cases h1 : x.1 = y.1
  · have q1 : (x.1 == y.1) = true := by simp [h1]
    rw [q1]
    simp only [Bool.not_true, Bool.false_eq_true, if_false]
    refine wpAny_pure (wpAny_bind (wpAny_bind (wpAny_eqBool_int ?_)))
    by_cases h2 : x.2 = y.2
    · have q2 : (x.2 == y.2) = true := by simp [h2]
      rw [q2]
      simp only [Bool.not_true, Bool.false_eq_true, if_false]
      refine wpAny_pure (wpAny_pure (wpAny_pure ⟨_, rfl, (fun e => nomatch e), ?_⟩))
      have e3 : lxLt x y = false := by cases hh : lxLt x y; rfl; rw [lxLt_iff] at hh; omega
      rw [e3] at h
      exact h
    · have q2 : (x.2 == y.2) = false := by simp [h2]
      rw [q2]
      simp only [Bool.not_false, if_true]
      have e3 : lxLt x y = decide (x.2 < y.2) := by
        have := @lxLt_iff x y
        cases hh : lxLt x y <;> rw [hh] at this <;> simp at this <;> symm <;> simp <;> omega
      rw [e3] at h
      refine wpAny_bind (wpAny_rule (wpAny_bind (int_cmp_lt ?_)))
      exact wpAny_pure (wpAny_pure (wpAny_pure ⟨_, rfl, (fun e => nomatch e), h⟩))
  · have q1 : (x.1 == y.1) = false := by simp [h1]
    rw [q1]
    simp only [Bool.not_false, if_true]
    have e3 : lxLt x y = decide (x.1 < y.1) := by
      have := @lxLt_iff x y
      cases hh : lxLt x y <;> rw [hh] at this <;> simp at this <;> symm <;> simp <;> omega
    rw [e3] at h
    refine wpAny_bind (wpAny_rule (wpAny_bind (int_cmp_lt ?_)))
    exact wpAny_pure (wpAny_pure (wpAny_pure ⟨_, rfl, (fun e => nomatch e), h⟩))
theorem cmp_gt {a b : Addr} {x y : Int × Int} {Q : Value → Shared → Prop} (hu : A.units < cLine) (ha : PairAt s.heap a x) (hb : PairAt s.heap b y) (h : Q (.bool (lxLt y x)) s) : wpAny (model prog w) A (richCompare .Gt (.ref a) (.ref b)) Q E s := by
  obtain ⟨o, n, t1, t2, e1, c1, d1⟩ := ha
  obtain ⟨o', n', t3, t4, e2, c2, d2⟩ := hb
  have ta : s.TypeIs (.ref a) "tuple" := ⟨o, e1, c1⟩
  have tb : s.TypeIs (.ref b) "tuple" := ⟨o', e2, c2⟩
  refine wpAny_richCompare_same_room ta tb F.slot_tuple_gt (wpAny_call_entry F.slot_tuple_gt ta F.entry_tuple_gt ?_ (F.args_tuple_gt_2 _ _)) hu
  show wpAny _ _ (isInstance (.ref b) (.type "tuple") >>= _) _ _ s
  refine wpAny_bind (wpAny_isInstance tb isSubtype_tuple_tuple ?_)
  simp only [Bool.not_true, Bool.false_eq_true, if_false]
  refine wpAny_bind (wpAny_tupleItemsOf e1 d1 ?_)
  refine wpAny_bind (wpAny_tupleItemsOf e2 d2 ?_)
  dsimp only [List.zip, List.zipWith]
  simp only [List.forIn_cons, List.forIn_nil]
  refine wpAny_bind (wpAny_bind (wpAny_bind (wpAny_eqBool_int ?_)))
  by_cases h1 : x.1 = y.1
  · have q1 : (x.1 == y.1) = true := by simp [h1]
    rw [q1]
    simp only [Bool.not_true, Bool.false_eq_true, if_false]
    refine wpAny_pure (wpAny_bind (wpAny_bind (wpAny_eqBool_int ?_)))
    by_cases h2 : x.2 = y.2
    · have q2 : (x.2 == y.2) = true := by simp [h2]
      rw [q2]
      simp only [Bool.not_true, Bool.false_eq_true, if_false]
      refine wpAny_pure (wpAny_pure (wpAny_pure ⟨_, rfl, (fun e => nomatch e), ?_⟩))
      have e3 : lxLt y x = false := by cases hh : lxLt y x; rfl; rw [lxLt_iff] at hh; omega
      rw [e3] at h
      exact h
    · have q2 : (x.2 == y.2) = false := by simp [h2]
      rw [q2]
      simp only [Bool.not_false, if_true]
      have e3 : lxLt y x = decide (x.2 > y.2) := by
        have := @lxLt_iff y x
        cases hh : lxLt y x <;> rw [hh] at this <;> simp at this <;> symm <;> simp <;> omega
      rw [e3] at h
      refine wpAny_bind (wpAny_rule (wpAny_bind (int_cmp_gt ?_)))
      exact wpAny_pure (wpAny_pure (wpAny_pure ⟨_, rfl, (fun e => nomatch e), h⟩))
  · have q1 : (x.1 == y.1) = false := by simp [h1]
    rw [q1]
    simp only [Bool.not_false, if_true]
    have e3 : lxLt y x = decide (x.1 > y.1) := by
      have := @lxLt_iff y x
      cases hh : lxLt y x <;> rw [hh] at this <;> simp at this <;> symm <;> simp <;> omega
    rw [e3] at h
    refine wpAny_bind (wpAny_rule (wpAny_bind (int_cmp_gt ?_)))
    exact wpAny_pure (wpAny_pure (wpAny_pure ⟨_, rfl, (fun e => nomatch e), h⟩))
end
section
variable {prog : Program} {w : World} {A : Around} {I : Addr} {fp wr : List Addr} {n : Nat} {P : Nat → Value → Prop} {St : Nat → Heap → Prop}
theorem max_turns {R : Result → Shared → Prop} (W : Walks prog w A.in1 I fp wr n P St) (bt : Nat → Nat → Bool) (T : Heap → Prop) (S : Addr) (hSf : S ∉ fp) (hT : ∀ h h' : Heap, T h → (∀ b o, b ∉ wr → b ≠ S → h.get? b = some o → h'.get? b = some o) → T h')
    (hc : ∀ i j vi vj (s : Shared) (Q : Value → Shared → Prop) (E : Value → Shared → Prop), P i vi → P j vj → T s.heap → Q (.bool (bt i j)) s → wpAny (model prog w) A.in1 (richCompare .Gt vi vj) Q E s) :
    ∀ (k j : Nat) (s : Shared) (vb : Value) (c : Nat), n - (j + 1) = k → j + 1 ≤ n → St (j + 1) s.heap → P (argBest bt j) vb → T s.heap →
    s.heap.get? S = some { cls := .type "list", dict := none, data := .seq #[vb, vb] c, slots := #[] } →
    (∀ v h' tk, P (argBest bt (n - 1)) v → (∀ b o, b ∉ wr → b ≠ S → s.heap.get? b = some o → h'.get? b = some o) → R (.ok (.ret v)) { s with heap := h', toks := tk }) →
    codeAny (model prog w) A (.builtin "max.loop" ⟨[.ref I, .none, .ref S], []⟩) R s := by
  have hSw : S ∉ wr := fun h => hSf (W.sub _ h)
  have hname : (toString "max" ++ toString ".loop" : String) = "max.loop" := by decide
  intro k
  induction k with
  | zero =>
    intro j s vb c hk hj hst hP hTs hS hR
    have hin : j + 1 = n := by omega
    refine codeAny_builtin F.entry_max_loop ?_
    rw [Around.under_plainId F.plain_max_loop _]
    show wpAny _ A.in1 (seqItems? (.ref S) >>= _) _ _ s
    refine wpAny_bind (wpAny_seqItems hS rfl (wpAny_bind (wpAny_tryCatch (W.done s _ _ (hin ▸ hst) fun h' tk hk' => wpAny_bind ?_))))
    refine wpAny_updateSeq (hk' S _ hSw hS) rfl (wpAny_bind (wpAny_letGo (wpAny_pure (hR vb _ tk (by rw [← hin]; exact hP) fun b o h1 h2 e => ?_))))
    exact (Heap.get?_update_other _ _ (Ne.symm h2)).trans (hk' b o h1 e)
  | succ k ih =>
    intro j s vb c hk hj hst hP hTs hS hR
    have hlt : j + 1 < n := by omega
    refine codeAny_builtin F.entry_max_loop ?_
    rw [Around.under_plainId F.plain_max_loop _]
    show wpAny _ A.in1 (seqItems? (.ref S) >>= _) _ _ s
    refine wpAny_bind (wpAny_seqItems hS rfl (wpAny_bind (wpAny_tryCatch (W.item (j + 1) s _ _ hlt hst fun v h' tk hv hst' hk' => ?_))))
    have hS' := hk' S _ hSw hS
    have hT' : T h' := hT _ _ hTs fun b o h1 _ e => hk' b o h1 e
    show wpAny _ A.in1 (tryCatch (holding [v, v] (richCompare .Gt v vb >>= _)) _ >>= _) _ _ _
    refine wpAny_bind (wpAny_tryCatch (wpAny_holding (wpAny_bind (hc (j + 1) (argBest bt j) v vb _ _ _ hv hP hT' (wpAny_bind (wpAny_holding (wpAny_truthy_bool (wpAny_bind (wpAny_letGo (wpAny_pure ?_))))))))))
    cases hb : bt (j + 1) (argBest bt j) with
    | true =>
      simp only [if_true]
      refine wpAny_bind (wpAny_updateSeq hS' rfl (wpAny_bind (wpAny_letGo ?_)))
      rw [hname]
      refine wpAny_pure ⟨plainId_quiet F.plain_max_loop _, ih (j + 1) _ v _ (by omega) hlt (W.frame _ _ _ hst' fun b hbf o e => ?_) (by simp only [argBest, hb, if_true]; exact hv) (hT _ _ hT' fun b o _ h2 e => (Heap.get?_update_other _ _ (Ne.symm h2)).trans e) (Heap.get?_update_self _ hS' rfl) fun v' h2 tk2 hv' hk2 => hR v' h2 tk2 hv' fun b o h3 h4 e => hk2 b o h3 h4 ((Heap.get?_update_other _ _ (Ne.symm h4)).trans (hk' b o h3 e))⟩
      exact (Heap.get?_update_other _ _ (fun h : S = b => hSf (by rw [h]; exact hbf))).trans e
    | false =>
      simp only [Bool.false_eq_true, if_false]
      refine wpAny_bind (wpAny_letGo ?_)
      rw [hname]
      exact wpAny_pure ⟨plainId_quiet F.plain_max_loop _, ih (j + 1) _ vb c (by omega) hlt hst' (by simp only [argBest, hb, Bool.false_eq_true, if_false]; exact hP) hT' hS' fun v' h2 tk2 hv' hk2 => hR v' h2 tk2 hv' fun b o h3 h4 e => hk2 b o h3 h4 (hk' b o h3 e)⟩
theorem max_first {R : Result → Shared → Prop} {s : Shared} {c : Nat} (W : Walks prog w A.in1 I fp wr n P St) (bt : Nat → Nat → Bool) (T : Heap → Prop) (S : Addr) (hSf : S ∉ fp) (hT : ∀ h h' : Heap, T h → (∀ b o, b ∉ wr → b ≠ S → h.get? b = some o → h'.get? b = some o) → T h')
    (hc : ∀ i j vi vj (s : Shared) (Q : Value → Shared → Prop) (E : Value → Shared → Prop), P i vi → P j vj → T s.heap → Q (.bool (bt i j)) s → wpAny (model prog w) A.in1 (richCompare .Gt vi vj) Q E s) (hn : 0 < n) (hst : St 0 s.heap) (hTs : T s.heap)
    (hS : s.heap.get? S = some { cls := .type "list", dict := none, data := .seq #[] c, slots := #[] })
    (hR : ∀ v h' tk, P (argBest bt (n - 1)) v → (∀ b o, b ∉ wr → b ≠ S → s.heap.get? b = some o → h'.get? b = some o) → R (.ok (.ret v)) { s with heap := h', toks := tk }) :
    codeAny (model prog w) A (.builtin "max.loop" ⟨[.ref I, .none, .ref S], []⟩) R s := by
  have hSw : S ∉ wr := fun h => hSf (W.sub _ h)
  have hname : (toString "max" ++ toString ".loop" : String) = "max.loop" := by decide
  refine codeAny_builtin F.entry_max_loop ?_
  rw [Around.under_plainId F.plain_max_loop _]
  show wpAny _ A.in1 (seqItems? (.ref S) >>= _) _ _ s
  refine wpAny_bind (wpAny_seqItems hS rfl (wpAny_bind (wpAny_tryCatch (W.item 0 s _ _ hn hst fun v h' tk hv hst' hk' => ?_))))
  have hS' := hk' S _ hSw hS
  show wpAny _ A.in1 (updateSeq S (fun _ => #[v, v]) >>= _) _ _ _
  refine wpAny_bind ?_
  refine wpAny_updateSeq hS' rfl ?_
  rw [hname]
  refine wpAny_pure ⟨plainId_quiet F.plain_max_loop _, max_turns W bt T S hSf hT hc _ 0 _ v _ rfl hn (W.frame _ _ _ hst' fun b hbf o e => ?_) hv (hT _ _ hTs fun b o h1 h2 e => (Heap.get?_update_other _ _ (Ne.symm h2)).trans (hk' b o h1 e)) (Heap.get?_update_self _ hS' rfl) fun v' h2 tk2 hv' hk2 => hR v' h2 tk2 hv' fun b o h3 h4 e => hk2 b o h3 h4 ((Heap.get?_update_other _ _ (Ne.symm h4)).trans (hk' b o h3 e))⟩
  exact (Heap.get?_update_other _ _ (fun h : S = b => hSf (by rw [h]; exact hbf))).trans e
theorem max_walk {x : Value} {s : Shared} {E : Value → Shared → Prop} {Q : Value → Shared → Prop}
    (h : wpAny (model prog w) A.in1 (pyIter x) (fun it s₂ => ∃ I fp wr n P St bt, ∃ T : Heap → Prop, it = .ref I ∧ Walks prog w A.in1 I fp wr n P St ∧ St 0 s₂.heap ∧ (∀ b ∈ fp, b < s₂.heap.objs.size) ∧ 0 < n ∧ T s₂.heap ∧ (∀ h h' : Heap, T h → (∀ b o, b ∉ wr → b < s₂.heap.objs.size → h.get? b = some o → h'.get? b = some o) → T h') ∧
      (∀ i j vi vj (s : Shared) (Q : Value → Shared → Prop) (E : Value → Shared → Prop), P i vi → P j vj → T s.heap → Q (.bool (bt i j)) s → wpAny (model prog w) A.in1 (richCompare .Gt vi vj) Q E s) ∧
      ∀ v h' tk, P (argBest bt (n - 1)) v → (∀ b o, b ∉ wr → s₂.heap.get? b = some o → h'.get? b = some o) → Q v { s₂ with heap := h', toks := tk }) E s) :
    wpAny (model prog w) A (call (.builtin "max") [x]) Q E s := by
  have hname : (toString "max" ++ toString ".loop" : String) = "max.loop" := by decide
  refine call_function_tree F.kind_max F.plain_max F.entry_max (F.args_max1 _) ?_
  show wpAny _ A.in1 (Builtin.Builtins.bindParams "max" ["key", "default"] 0 ⟨[], []⟩ >>= _) _ _ s
  refine wpAny_bind (wpAny_of_eq (show Builtin.Builtins.bindParams "max" ["key", "default"] 0 ⟨[], []⟩ = pure [none, none] from rfl) (wpAny_bind (wpAny_pure (wpAny_bind (wpAny_mono h (fun it s₂ h₂ => ?_) fun _ _ e => e)))))
  obtain ⟨I, fp, wr, n, P, St, bt, T, rfl, W, hst, hfp, hn, hTs, hT, hc, hQ⟩ := h₂
  refine wpAny_bind (wpAny_newObj_type ?_)
  rw [hname]
  refine wpAny_pure ⟨plainId_quiet F.plain_max_loop _, max_first W bt T s₂.heap.objs.size (fun hm => Nat.lt_irrefl _ (hfp _ hm)) (fun h h' t k => hT h h' t fun b o h1 h2 e => k b o h1 (Nat.ne_of_lt h2) e) hc hn (W.frame _ _ _ hst fun b _ o e => Heap.get?_push_of_some _ e) (hT _ _ hTs fun b o _ _ e => Heap.get?_push_of_some _ e) (Heap.get?_push_size _ rfl) fun v h' tk hP hk => ?_⟩
  exact hQ v h' tk hP fun b o hbw e => hk b o hbw (Nat.ne_of_lt (Heap.lt_size e)) (Heap.get?_push_of_some _ e)
theorem max_pairs {l : Addr} {us : List Value} {ps : List (Int × Int)} {s : Shared} {E : Value → Shared → Prop} {Q : Value → Shared → Prop} (hh : A.handled = none) (hu : A.in1.units < cLine) (hl : s.heap.IsList l us.toArray) (hne : 0 < us.length) (hp : ∀ i v, us[i]? = some v → ∃ a, v = .ref a ∧ PairAt s.heap a (ps.getD i (0, 0)))
    (h : ∀ v h' tk, us[argBest (fun i j => lxLt (ps.getD j (0, 0)) (ps.getD i (0, 0))) (us.length - 1)]? = some v → (∀ b o, s.heap.get? b = some o → h'.get? b = some o) → Q v { s with heap := h', toks := tk }) :
    wpAny (model prog w) A (call (.builtin "max") [.ref l]) Q E s := by
  have hll : l < s.heap.objs.size := by obtain ⟨_, e, _⟩ := id hl; exact Heap.lt_size e
  have W := Walks.list (prog := prog) (w := w) (A := A.in1) hh s.heap.objs.size l (Nat.ne_of_lt hll) us.toArray
  have hn : us.toArray.size = us.length := List.size_toArray
  refine max_walk (wpAny_pyIter_list hl ⟨_, _, _, _, _, _, fun i j => lxLt (ps.getD j (0, 0)) (ps.getD i (0, 0)), fun h => ∀ i v, us[i]? = some v → ∃ a, a < s.heap.objs.size ∧ v = .ref a ∧ PairAt h a (ps.getD i (0, 0)), rfl, W, ⟨⟨_, Heap.get?_push_size _ rfl, rfl, rfl⟩, hl.push _⟩, fun b hb => ?_, by rw [hn]; exact hne, fun i v e => ?_, fun h h' t k i v e => ?_, fun i j vi vj s' Q' E' hi hj t hq => ?_, fun v h' tk hv hk => h v h' tk (by rw [hn] at hv; simpa using hv) fun b o e => ?_⟩)
  · rw [Heap.size_push]
    simp only [List.mem_cons, List.not_mem_nil, or_false] at hb
    rcases hb with rfl | rfl
    · exact Nat.lt_succ_self _
    · exact Nat.lt_succ_of_lt hll
  · obtain ⟨a, q, o, n, t1, t2, e1, e2, e3⟩ := hp i v e
    exact ⟨a, Heap.lt_size e1, q, o, n, t1, t2, Heap.get?_push_of_some _ e1, e2, e3⟩
  · obtain ⟨a, ha, q, o, n, t1, t2, e1, e2, e3⟩ := t i v e
    refine ⟨a, ha, q, o, n, t1, t2, k a o ?_ ?_ e1, e2, e3⟩
    · simp only [List.mem_cons, List.not_mem_nil, or_false]; exact Nat.ne_of_lt ha
    · rw [Heap.size_push]; exact Nat.lt_succ_of_lt ha
  · obtain ⟨a, _, rfl, pa⟩ := t i vi (by simpa using hi)
    obtain ⟨b, _, rfl, pb⟩ := t j vj (by simpa using hj)
    exact cmp_gt hu pa pb hq
  · have := Heap.lt_size e
    refine hk b o ?_ (Heap.get?_push_of_some _ e)
    simp only [List.mem_cons, List.not_mem_nil, or_false]; exact Nat.ne_of_lt this
end
section
variable {prog : Program} {w : World} {A : Around} {I : Addr} {fp wr : List Addr} {n : Nat} {P : Nat → Value → Prop} {St : Nat → Heap → Prop}
theorem min_turns {R : Result → Shared → Prop} (W : Walks prog w A.in1 I fp wr n P St) (bt : Nat → Nat → Bool) (T : Heap → Prop) (S : Addr) (hSf : S ∉ fp) (hT : ∀ h h' : Heap, T h → (∀ b o, b ∉ wr → b ≠ S → h.get? b = some o → h'.get? b = some o) → T h')
    (hc : ∀ i j vi vj (s : Shared) (Q : Value → Shared → Prop) (E : Value → Shared → Prop), P i vi → P j vj → T s.heap → Q (.bool (bt i j)) s → wpAny (model prog w) A.in1 (richCompare .Lt vi vj) Q E s) :
    ∀ (k j : Nat) (s : Shared) (vb : Value) (c : Nat), n - (j + 1) = k → j + 1 ≤ n → St (j + 1) s.heap → P (argBest bt j) vb → T s.heap →
    s.heap.get? S = some { cls := .type "list", dict := none, data := .seq #[vb, vb] c, slots := #[] } →
    (∀ v h' tk, P (argBest bt (n - 1)) v → (∀ b o, b ∉ wr → b ≠ S → s.heap.get? b = some o → h'.get? b = some o) → R (.ok (.ret v)) { s with heap := h', toks := tk }) →
    codeAny (model prog w) A (.builtin "min.loop" ⟨[.ref I, .none, .ref S], []⟩) R s := by
  have hSw : S ∉ wr := fun h => hSf (W.sub _ h)
  have hname : (toString "min" ++ toString ".loop" : String) = "min.loop" := by decide
  intro k
  induction k with
  | zero =>
    intro j s vb c hk hj hst hP hTs hS hR
    have hin : j + 1 = n := by omega
    refine codeAny_builtin F.entry_min_loop ?_
    rw [Around.under_plainId F.plain_min_loop _]
    show wpAny _ A.in1 (seqItems? (.ref S) >>= _) _ _ s
    refine wpAny_bind (wpAny_seqItems hS rfl (wpAny_bind (wpAny_tryCatch (W.done s _ _ (hin ▸ hst) fun h' tk hk' => wpAny_bind ?_))))
    refine wpAny_updateSeq (hk' S _ hSw hS) rfl (wpAny_bind (wpAny_letGo (wpAny_pure (hR vb _ tk (by rw [← hin]; exact hP) fun b o h1 h2 e => ?_))))
    exact (Heap.get?_update_other _ _ (Ne.symm h2)).trans (hk' b o h1 e)
  | succ k ih =>
    intro j s vb c hk hj hst hP hTs hS hR
    have hlt : j + 1 < n := by omega
    refine codeAny_builtin F.entry_min_loop ?_
    rw [Around.under_plainId F.plain_min_loop _]
    show wpAny _ A.in1 (seqItems? (.ref S) >>= _) _ _ s
    refine wpAny_bind (wpAny_seqItems hS rfl (wpAny_bind (wpAny_tryCatch (W.item (j + 1) s _ _ hlt hst fun v h' tk hv hst' hk' => ?_))))
    have hS' := hk' S _ hSw hS
    have hT' : T h' := hT _ _ hTs fun b o h1 _ e => hk' b o h1 e
    show wpAny _ A.in1 (tryCatch (holding [v, v] (richCompare .Lt v vb >>= _)) _ >>= _) _ _ _
    refine wpAny_bind (wpAny_tryCatch (wpAny_holding (wpAny_bind (hc (j + 1) (argBest bt j) v vb _ _ _ hv hP hT' (wpAny_bind (wpAny_holding (wpAny_truthy_bool (wpAny_bind (wpAny_letGo (wpAny_pure ?_))))))))))
    cases hb : bt (j + 1) (argBest bt j) with
    | true =>
      simp only [if_true]
      refine wpAny_bind (wpAny_updateSeq hS' rfl (wpAny_bind (wpAny_letGo ?_)))
      rw [hname]
      refine wpAny_pure ⟨plainId_quiet F.plain_min_loop _, ih (j + 1) _ v _ (by omega) hlt (W.frame _ _ _ hst' fun b hbf o e => ?_) (by simp only [argBest, hb, if_true]; exact hv) (hT _ _ hT' fun b o _ h2 e => (Heap.get?_update_other _ _ (Ne.symm h2)).trans e) (Heap.get?_update_self _ hS' rfl) fun v' h2 tk2 hv' hk2 => hR v' h2 tk2 hv' fun b o h3 h4 e => hk2 b o h3 h4 ((Heap.get?_update_other _ _ (Ne.symm h4)).trans (hk' b o h3 e))⟩
      exact (Heap.get?_update_other _ _ (fun h : S = b => hSf (by rw [h]; exact hbf))).trans e
    | false =>
      simp only [Bool.false_eq_true, if_false]
      refine wpAny_bind (wpAny_letGo ?_)
      rw [hname]
      exact wpAny_pure ⟨plainId_quiet F.plain_min_loop _, ih (j + 1) _ vb c (by omega) hlt hst' (by simp only [argBest, hb, Bool.false_eq_true, if_false]; exact hP) hT' hS' fun v' h2 tk2 hv' hk2 => hR v' h2 tk2 hv' fun b o h3 h4 e => hk2 b o h3 h4 (hk' b o h3 e)⟩
theorem min_first {R : Result → Shared → Prop} {s : Shared} {c : Nat} (W : Walks prog w A.in1 I fp wr n P St) (bt : Nat → Nat → Bool) (T : Heap → Prop) (S : Addr) (hSf : S ∉ fp) (hT : ∀ h h' : Heap, T h → (∀ b o, b ∉ wr → b ≠ S → h.get? b = some o → h'.get? b = some o) → T h')
    (hc : ∀ i j vi vj (s : Shared) (Q : Value → Shared → Prop) (E : Value → Shared → Prop), P i vi → P j vj → T s.heap → Q (.bool (bt i j)) s → wpAny (model prog w) A.in1 (richCompare .Lt vi vj) Q E s) (hn : 0 < n) (hst : St 0 s.heap) (hTs : T s.heap)
    (hS : s.heap.get? S = some { cls := .type "list", dict := none, data := .seq #[] c, slots := #[] })
    (hR : ∀ v h' tk, P (argBest bt (n - 1)) v → (∀ b o, b ∉ wr → b ≠ S → s.heap.get? b = some o → h'.get? b = some o) → R (.ok (.ret v)) { s with heap := h', toks := tk }) :
    codeAny (model prog w) A (.builtin "min.loop" ⟨[.ref I, .none, .ref S], []⟩) R s := by
  have hSw : S ∉ wr := fun h => hSf (W.sub _ h)
  have hname : (toString "min" ++ toString ".loop" : String) = "min.loop" := by decide
  refine codeAny_builtin F.entry_min_loop ?_
  rw [Around.under_plainId F.plain_min_loop _]
  show wpAny _ A.in1 (seqItems? (.ref S) >>= _) _ _ s
  refine wpAny_bind (wpAny_seqItems hS rfl (wpAny_bind (wpAny_tryCatch (W.item 0 s _ _ hn hst fun v h' tk hv hst' hk' => ?_))))
  have hS' := hk' S _ hSw hS
  show wpAny _ A.in1 (updateSeq S (fun _ => #[v, v]) >>= _) _ _ _
  refine wpAny_bind ?_
  refine wpAny_updateSeq hS' rfl ?_
  rw [hname]
  refine wpAny_pure ⟨plainId_quiet F.plain_min_loop _, min_turns W bt T S hSf hT hc _ 0 _ v _ rfl hn (W.frame _ _ _ hst' fun b hbf o e => ?_) hv (hT _ _ hTs fun b o h1 h2 e => (Heap.get?_update_other _ _ (Ne.symm h2)).trans (hk' b o h1 e)) (Heap.get?_update_self _ hS' rfl) fun v' h2 tk2 hv' hk2 => hR v' h2 tk2 hv' fun b o h3 h4 e => hk2 b o h3 h4 ((Heap.get?_update_other _ _ (Ne.symm h4)).trans (hk' b o h3 e))⟩
  exact (Heap.get?_update_other _ _ (fun h : S = b => hSf (by rw [h]; exact hbf))).trans e
theorem min_walk {x : Value} {s : Shared} {E : Value → Shared → Prop} {Q : Value → Shared → Prop}
    (h : wpAny (model prog w) A.in1 (pyIter x) (fun it s₂ => ∃ I fp wr n P St bt, ∃ T : Heap → Prop, it = .ref I ∧ Walks prog w A.in1 I fp wr n P St ∧ St 0 s₂.heap ∧ (∀ b ∈ fp, b < s₂.heap.objs.size) ∧ 0 < n ∧ T s₂.heap ∧ (∀ h h' : Heap, T h → (∀ b o, b ∉ wr → b < s₂.heap.objs.size → h.get? b = some o → h'.get? b = some o) → T h') ∧
      (∀ i j vi vj (s : Shared) (Q : Value → Shared → Prop) (E : Value → Shared → Prop), P i vi → P j vj → T s.heap → Q (.bool (bt i j)) s → wpAny (model prog w) A.in1 (richCompare .Lt vi vj) Q E s) ∧
      ∀ v h' tk, P (argBest bt (n - 1)) v → (∀ b o, b ∉ wr → s₂.heap.get? b = some o → h'.get? b = some o) → Q v { s₂ with heap := h', toks := tk }) E s) :
    wpAny (model prog w) A (call (.builtin "min") [x]) Q E s := by
  have hname : (toString "min" ++ toString ".loop" : String) = "min.loop" := by decide
  refine call_function_tree F.kind_min F.plain_min F.entry_min (F.args_min1 _) ?_
  show wpAny _ A.in1 (Builtin.Builtins.bindParams "min" ["key", "default"] 0 ⟨[], []⟩ >>= _) _ _ s
  refine wpAny_bind (wpAny_of_eq (show Builtin.Builtins.bindParams "min" ["key", "default"] 0 ⟨[], []⟩ = pure [none, none] from rfl) (wpAny_bind (wpAny_pure (wpAny_bind (wpAny_mono h (fun it s₂ h₂ => ?_) fun _ _ e => e)))))
  obtain ⟨I, fp, wr, n, P, St, bt, T, rfl, W, hst, hfp, hn, hTs, hT, hc, hQ⟩ := h₂
  refine wpAny_bind (wpAny_newObj_type ?_)
  rw [hname]
  refine wpAny_pure ⟨plainId_quiet F.plain_min_loop _, min_first W bt T s₂.heap.objs.size (fun hm => Nat.lt_irrefl _ (hfp _ hm)) (fun h h' t k => hT h h' t fun b o h1 h2 e => k b o h1 (Nat.ne_of_lt h2) e) hc hn (W.frame _ _ _ hst fun b _ o e => Heap.get?_push_of_some _ e) (hT _ _ hTs fun b o _ _ e => Heap.get?_push_of_some _ e) (Heap.get?_push_size _ rfl) fun v h' tk hP hk => ?_⟩
  exact hQ v h' tk hP fun b o hbw e => hk b o hbw (Nat.ne_of_lt (Heap.lt_size e)) (Heap.get?_push_of_some _ e)
theorem min_pairs {l : Addr} {us : List Value} {ps : List (Int × Int)} {s : Shared} {E : Value → Shared → Prop} {Q : Value → Shared → Prop} (hh : A.handled = none) (hu : A.in1.units < cLine) (hl : s.heap.IsList l us.toArray) (hne : 0 < us.length) (hp : ∀ i v, us[i]? = some v → ∃ a, v = .ref a ∧ PairAt s.heap a (ps.getD i (0, 0)))
    (h : ∀ v h' tk, us[argBest (fun i j => lxLt (ps.getD i (0, 0)) (ps.getD j (0, 0))) (us.length - 1)]? = some v → (∀ b o, s.heap.get? b = some o → h'.get? b = some o) → Q v { s with heap := h', toks := tk }) :
    wpAny (model prog w) A (call (.builtin "min") [.ref l]) Q E s := by
  have hll : l < s.heap.objs.size := by obtain ⟨_, e, _⟩ := id hl; exact Heap.lt_size e
  have W := Walks.list (prog := prog) (w := w) (A := A.in1) hh s.heap.objs.size l (Nat.ne_of_lt hll) us.toArray
  have hn : us.toArray.size = us.length := List.size_toArray
  refine min_walk (wpAny_pyIter_list hl ⟨_, _, _, _, _, _, fun i j => lxLt (ps.getD i (0, 0)) (ps.getD j (0, 0)), fun h => ∀ i v, us[i]? = some v → ∃ a, a < s.heap.objs.size ∧ v = .ref a ∧ PairAt h a (ps.getD i (0, 0)), rfl, W, ⟨⟨_, Heap.get?_push_size _ rfl, rfl, rfl⟩, hl.push _⟩, fun b hb => ?_, by rw [hn]; exact hne, fun i v e => ?_, fun h h' t k i v e => ?_, fun i j vi vj s' Q' E' hi hj t hq => ?_, fun v h' tk hv hk => h v h' tk (by rw [hn] at hv; simpa using hv) fun b o e => ?_⟩)
  · rw [Heap.size_push]
    simp only [List.mem_cons, List.not_mem_nil, or_false] at hb
    rcases hb with rfl | rfl
    · exact Nat.lt_succ_self _
    · exact Nat.lt_succ_of_lt hll
  · obtain ⟨a, q, o, n, t1, t2, e1, e2, e3⟩ := hp i v e
    exact ⟨a, Heap.lt_size e1, q, o, n, t1, t2, Heap.get?_push_of_some _ e1, e2, e3⟩
  · obtain ⟨a, ha, q, o, n, t1, t2, e1, e2, e3⟩ := t i v e
    refine ⟨a, ha, q, o, n, t1, t2, k a o ?_ ?_ e1, e2, e3⟩
    · simp only [List.mem_cons, List.not_mem_nil, or_false]; exact Nat.ne_of_lt ha
    · rw [Heap.size_push]; exact Nat.lt_succ_of_lt ha
  · obtain ⟨a, _, rfl, pa⟩ := t i vi (by simpa using hi)
    obtain ⟨b, _, rfl, pb⟩ := t j vj (by simpa using hj)
    exact cmp_lt hu pa pb hq
  · have := Heap.lt_size e
    refine hk b o ?_ (Heap.get?_push_of_some _ e)
    simp only [List.mem_cons, List.not_mem_nil, or_false]; exact Nat.ne_of_lt this
end
section
variable {X : Cx} {a : Expr} {ga : Lf} {p pos : Pos}
noncomputable def gLtP (x y : D) : Option Bool := (unP x).bind fun a => (unP y).map fun b => lxLt a b
theorem rep_dP {K : PySem.W.Frag} {G H : Hp} (s : SameT G H) {q : Int × Int} {v : V} (h : Rep K G (dP q) v) : PairV K H q v := by
  have := reps_pairs s (ps := [q]) (vs := [v]) (reps_cons.mpr ⟨v, [], rfl, h, reps_nil.mpr rfl⟩)
  cases this with | cons x _ => exact x
theorem pairAt_of {pins : List (Addr × Obj)} {σ : St} {H : Hp} {s : Shared} (I : Inv X pins σ H s) {q : Int × Int} {v : V} {u : Value} (h : PairV X.K H q v) (r : RelV v u) : ∃ a, u = .ref a ∧ PairAt s.heap a q :=
  let ⟨a, o, n, t, t', e, e1, e2, e3⟩ := pair_at I h r
  ⟨a, e, o, n, t, t', e1, e2, e3⟩
theorem cm_ltP {k : Nat} (hr : Room k X.A) : CmR X .Lt gLtP := by
  refine ⟨fun x y H Q => ∃ q q', PairV X.K H q x ∧ PairV X.K H q' y ∧ Q (.bl (lxLt q q')) H, ?_, fun d d' k G H x y Q h s rx ry kk => ?_⟩
  · intro pins s σ H x y v u Q I rx ry ⟨q, q', hx, hy, hQ⟩
    obtain ⟨a, rfl, pa⟩ := pairAt_of I hx rx
    obtain ⟨b, rfl, pb⟩ := pairAt_of I hy ry
    exact cmp_lt hr.units0 pa pb ⟨.bl _, H, I, rfl, hQ⟩
  · unfold gLtP at h
    obtain ⟨q, h1, h⟩ := Option.bind_eq_some_iff.mp h
    obtain ⟨q', h2, rfl⟩ := Option.map_eq_some_iff.mp h
    rw [unP_eq h1] at rx
    rw [unP_eq h2] at ry
    exact ⟨q, q', rep_dP s rx, rep_dP s ry, kk H G (.refl s)⟩
end
section
variable {X : Cx} {a : Expr} {ga : Lf} {p pos : Pos}
noncomputable def ix_max (ps : List (Int × Int)) : Nat := argBest (fun i j => lxLt (ps.getD j (0, 0)) (ps.getD i (0, 0))) (ps.length - 1)
noncomputable def best_max (ps : List (Int × Int)) : Int × Int := ps.getD (ix_max ps) (0, 0)
theorem call_maxQ {k : Nat} (hr : Room k X.A) : CallR X (.builtin "max") (fun xs H Q => ∃ (q : Addr) (vs : List V) (ps : List (Int × Int)), xs = [V.ref q] ∧ SqL X.K H q vs ∧ Paired (PairV X.K H) ps vs ∧ 0 < ps.length ∧ Q (vs.getD (ix_max ps) .non) H) := by
  intro pins s σ H xs us Q I r h
  obtain ⟨l, vs, ps, rfl, hq, hp, hl, q⟩ := h
  obtain ⟨u, rfl, ru⟩ := vals1 r
  cases ru
  obtain ⟨its, rv, pl, hz⟩ := I.list hq
  have h1 : its.length = vs.length := rv.length.symm
  have h2 : ps.length = vs.length := Paired.length hp
  have hu : X.A.in1.units < cLine := by have := hr.units; show X.A.units + 1 < cLine; omega
  refine max_pairs (ps := ps) hr.hd hu pl.isList (by omega) (fun i v e => ?_) fun v h' tk hv hk => ?_
  · have hi : i < its.length := (List.getElem?_eq_some_iff.mp e).1
    have ev : v = its.getD i Value.none := by rw [List.getD_eq_getElem?_getD, e]; rfl
    rw [ev]
    exact pairAt_of I (paired_getD (da := (0, 0)) (db := V.non) hp (by omega)) (paired_getD (i := i) (da := V.non) (db := Value.none) rv (by omega))
  · have hix : ix_max ps = argBest (fun i j => lxLt (ps.getD j (0, 0)) (ps.getD i (0, 0))) (its.length - 1) := by unfold ix_max; rw [h2, h1]
    rw [← hix] at hv
    have hi : ix_max ps < its.length := (List.getElem?_eq_some_iff.mp hv).1
    have ev : v = its.getD (ix_max ps) Value.none := by rw [List.getD_eq_getElem?_getD, hv]; rfl
    rw [ev]
    exact ⟨_, H, I.kept hk, paired_getD (da := V.non) (db := Value.none) rv (by omega), q⟩
theorem ix_max_lt {ps : List (Int × Int)} (h : 0 < ps.length) : ix_max ps < ps.length := by
  have key : ∀ (f : Nat → Nat → Bool) (n : Nat), argBest f n ≤ n := by
    intro f n
    induction n with
    | zero => exact Nat.le_refl _
    | succ n ih =>
      unfold argBest
      split
      · exact Nat.le_refl _
      · exact Nat.le_succ_of_le ih
  have := key (fun i j => lxLt (ps.getD j (0, 0)) (ps.getD i (0, 0))) (ps.length - 1)
  unfold ix_max
  omega
noncomputable def e_maxQ (g : Lf) : Ef := fun ρ => (g ρ).bind fun ds => (unPs ds).bind fun ps => if 0 < ps.length then some (dP (best_max ps)) else none
theorem pf_maxQ {k : Nat} (hr : Room k X.A) (hg : Gl X "max") (hm : X.mg "max" = none) (h : PSrc X a ga) (hs : starEach [a] X.env = [(false, eval a X.env)] := by rfl) : PF X (.Call (.Name "max" p) [a] [] pos) (e_maxQ ga) := by
  refine PE.to (pe_callB (call_maxQ hr) hg hm (by rfl) (pa_cons h pa_nil (by rw [hs]; rfl)) (by decide) (by decide) (by rw [hs]; rfl) (by rfl)) ?_
  rintro σ H Q ⟨G0, H0, G, ρ, d, good, hf, k⟩
  unfold e_maxQ at hf
  obtain ⟨ds, h1, hf⟩ := Option.bind_eq_some_iff.mp hf
  obtain ⟨ps, h2, hf⟩ := Option.bind_eq_some_iff.mp hf
  split at hf
  · rename_i hl
    cases hf
    refine ⟨G0, H0, G, ρ, ds, good, h1, fun q vs H1 G1 s1 e1 r1 => ?_⟩
    have e := unPs_eq h2
    subst e
    have hp := reps_pairs s1.sub r1
    refine ⟨q, vs, ps, rfl, s1.sub.seq e1, hp, hl, k _ _ G1 s1 ?_⟩
    have := reps_getD (i := ix_max ps) r1 (by rw [List.length_map]; exact ix_max_lt hl)
    have e : (ps.map dP).getD (ix_max ps) .non = dP (best_max ps) := by
      have hl := ix_max_lt hl
      unfold best_max
      simp [hl]
    rw [e] at this
    exact this
  · cases hf
end
section
variable {X : Cx} {a : Expr} {ga : Lf} {p pos : Pos}
noncomputable def ix_min (ps : List (Int × Int)) : Nat := argBest (fun i j => lxLt (ps.getD i (0, 0)) (ps.getD j (0, 0))) (ps.length - 1)
noncomputable def best_min (ps : List (Int × Int)) : Int × Int := ps.getD (ix_min ps) (0, 0)
theorem call_minQ {k : Nat} (hr : Room k X.A) : CallR X (.builtin "min") (fun xs H Q => ∃ (q : Addr) (vs : List V) (ps : List (Int × Int)), xs = [V.ref q] ∧ SqL X.K H q vs ∧ Paired (PairV X.K H) ps vs ∧ 0 < ps.length ∧ Q (vs.getD (ix_min ps) .non) H) := by
  intro pins s σ H xs us Q I r h
  obtain ⟨l, vs, ps, rfl, hq, hp, hl, q⟩ := h
  obtain ⟨u, rfl, ru⟩ := vals1 r
  cases ru
  obtain ⟨its, rv, pl, hz⟩ := I.list hq
  have h1 : its.length = vs.length := rv.length.symm
  have h2 : ps.length = vs.length := Paired.length hp
  have hu : X.A.in1.units < cLine := by have := hr.units; show X.A.units + 1 < cLine; omega
  refine min_pairs (ps := ps) hr.hd hu pl.isList (by omega) (fun i v e => ?_) fun v h' tk hv hk => ?_
  · have hi : i < its.length := (List.getElem?_eq_some_iff.mp e).1
    have ev : v = its.getD i Value.none := by rw [List.getD_eq_getElem?_getD, e]; rfl
    rw [ev]
    exact pairAt_of I (paired_getD (da := (0, 0)) (db := V.non) hp (by omega)) (paired_getD (i := i) (da := V.non) (db := Value.none) rv (by omega))
  · have hix : ix_min ps = argBest (fun i j => lxLt (ps.getD i (0, 0)) (ps.getD j (0, 0))) (its.length - 1) := by unfold ix_min; rw [h2, h1]
    rw [← hix] at hv
    have hi : ix_min ps < its.length := (List.getElem?_eq_some_iff.mp hv).1
    have ev : v = its.getD (ix_min ps) Value.none := by rw [List.getD_eq_getElem?_getD, hv]; rfl
    rw [ev]
    exact ⟨_, H, I.kept hk, paired_getD (da := V.non) (db := Value.none) rv (by omega), q⟩
theorem ix_min_lt {ps : List (Int × Int)} (h : 0 < ps.length) : ix_min ps < ps.length := by
  have key : ∀ (f : Nat → Nat → Bool) (n : Nat), argBest f n ≤ n := by
    intro f n
    induction n with
    | zero => exact Nat.le_refl _
    | succ n ih =>
      unfold argBest
      split
      · exact Nat.le_refl _
      · exact Nat.le_succ_of_le ih
  have := key (fun i j => lxLt (ps.getD i (0, 0)) (ps.getD j (0, 0))) (ps.length - 1)
  unfold ix_min
  omega
noncomputable def e_minQ (g : Lf) : Ef := fun ρ => (g ρ).bind fun ds => (unPs ds).bind fun ps => if 0 < ps.length then some (dP (best_min ps)) else none
theorem pf_minQ {k : Nat} (hr : Room k X.A) (hg : Gl X "min") (hm : X.mg "min" = none) (h : PSrc X a ga) (hs : starEach [a] X.env = [(false, eval a X.env)] := by rfl) : PF X (.Call (.Name "min" p) [a] [] pos) (e_minQ ga) := by
  refine PE.to (pe_callB (call_minQ hr) hg hm (by rfl) (pa_cons h pa_nil (by rw [hs]; rfl)) (by decide) (by decide) (by rw [hs]; rfl) (by rfl)) ?_
  rintro σ H Q ⟨G0, H0, G, ρ, d, good, hf, k⟩
  unfold e_minQ at hf
  obtain ⟨ds, h1, hf⟩ := Option.bind_eq_some_iff.mp hf
  obtain ⟨ps, h2, hf⟩ := Option.bind_eq_some_iff.mp hf
  split at hf
  · rename_i hl
    cases hf
    refine ⟨G0, H0, G, ρ, ds, good, h1, fun q vs H1 G1 s1 e1 r1 => ?_⟩
    have e := unPs_eq h2
    subst e
    have hp := reps_pairs s1.sub r1
    refine ⟨q, vs, ps, rfl, s1.sub.seq e1, hp, hl, k _ _ G1 s1 ?_⟩
    have := reps_getD (i := ix_min ps) r1 (by rw [List.length_map]; exact ix_min_lt hl)
    have e : (ps.map dP).getD (ix_min ps) .non = dP (best_min ps) := by
      have hl := ix_min_lt hl
      unfold best_min
      simp [hl]
    rw [e] at this
    exact this
  · cases hf
end
end L2

namespace L2
open PySem PySem.Spec PyProof.Rows
theorem sSeq_nx {f g : Sf} {ρ ρ' : List B} (h : f ρ = some (.nx ρ')) : sSeq f g ρ = g ρ' := by unfold sSeq; rw [h]; rfl
theorem seq_out {f g : Sf} {ρ ρ' : List B} {r : Option D} (h : f ρ = some (.nx ρ')) (k : (g ρ').bind outD = r) : (sSeq f g ρ).bind outD = r := by rw [sSeq_nx h]; exact k
theorem sSeq_rt {f g : Sf} {ρ : List B} {d : D} (h : f ρ = some (.rt d)) : sSeq f g ρ = some (.rt d) := by unfold sSeq; rw [h]; rfl
theorem forF_nx {g : Gf} {body : Sf} {d : D} {r : List D} {ρ ρ1 ρ2 : List B} (h1 : g d ρ = some ρ1) (h2 : body ρ1 = some (.nx ρ2)) : forF g body (d :: r) ρ = forF g body r ρ2 := by
  rw [forF, h1, Option.bind_some, h2, Option.bind_some]
theorem aCons_eq {f : Ef} {g : Lf} {ρ : List B} {d : D} {ds : List D} (h1 : f ρ = some d) (h2 : g ρ = some ds) : aCons f g ρ = some (d :: ds) := by unfold aCons; rw [h1, h2]; rfl
theorem eL_eq {g : Lf} {ρ : List B} {ds : List D} (h : g ρ = some ds) : eL g ρ = some (.lst ds) := by unfold eL; rw [h]; rfl
theorem eCall_eq {n : Nat} {f : List D → Option D} {g : Lf} {ρ : List B} {ds : List D} (h : g ρ = some ds) (hl : ds.length = n) : eCall n f g ρ = f ds := by unfold eCall; rw [h, Option.bind_some, if_pos hl]
theorem forF_all {g : Gf} {body : Sf} {P : List B → Prop} : ∀ (ds : List D), (∀ d ∈ ds, ∀ ρ, P ρ → ∃ ρ1 ρ2, g d ρ = some ρ1 ∧ body ρ1 = some (.nx ρ2) ∧ P ρ2) → ∀ ρ, P ρ → ∃ ρ', forF g body ds ρ = some (.nx ρ') ∧ P ρ'
  | [], _, ρ, h => ⟨ρ, rfl, h⟩
  | d :: r, hs, ρ, h => by
    obtain ⟨ρ1, ρ2, e1, e2, h2⟩ := hs d List.mem_cons_self ρ h
    obtain ⟨ρ', e, h'⟩ := forF_all r (fun d hd => hs d (List.mem_cons_of_mem _ hd)) ρ2 h2
    exact ⟨ρ', by rw [forF_nx e1 e2]; exact e, h'⟩
theorem forF_ix {g : Gf} {body : Sf} {P : Nat → List B → Prop} : ∀ (ds : List D) (n : Nat), (∀ (i : Nat) (d : D), ds[i]? = some d → ∀ ρ, P (n + i) ρ → ∃ ρ1 ρ2, g d ρ = some ρ1 ∧ body ρ1 = some (.nx ρ2) ∧ P (n + i + 1) ρ2) → ∀ ρ, P n ρ → ∃ ρ', forF g body ds ρ = some (.nx ρ') ∧ P (n + ds.length) ρ'
  | [], _, _, ρ, h => ⟨ρ, rfl, h⟩
  | d :: r, n, hs, ρ, h => by
    obtain ⟨ρ1, ρ2, e1, e2, h2⟩ := hs 0 d rfl ρ h
    obtain ⟨ρ', e, h'⟩ := forF_ix r (n + 1) (fun i d hd ρ hρ => by
      have q := hs (i + 1) d (by simpa using hd) ρ (by rw [show n + (i + 1) = n + 1 + i by omega]; exact hρ)
      rw [show n + (i + 1) + 1 = n + 1 + i + 1 by omega] at q
      exact q) ρ2 h2
    exact ⟨ρ', by rw [forF_nx e1 e2]; exact e, by rw [List.length_cons, show n + (r.length + 1) = n + 1 + r.length by omega]; exact h'⟩
theorem okL_le {t : List D} (h : t.length ≤ 100000) : okL t = some t := by
  unfold okL
  rw [if_pos h]
theorem atI_getD {α : Type} (xs : List α) (i : Int) (d : α) (h0 : 0 ≤ i) (h1 : i < xs.length) : atI xs i = some (xs.getD i.toNat d) := by
  unfold atI ixN
  rw [if_pos h0, if_pos h1]
  have : i.toNat < xs.length := by omega
  simp [List.getD, this]
theorem atI_map {α β : Type} (f : α → β) (xs : List α) (i : Int) : atI (xs.map f) i = (atI xs i).map f := by
  unfold atI
  rw [List.length_map]
  cases ixN xs.length i with
  | none => rfl
  | some j => simp
theorem cMul_l {i j : Int} (h1 : -18446744073709551616 < i) (h2 : i < 18446744073709551616) : cMul i j = true := by
  unfold cMul; simp only [Bool.or_eq_true, Bool.and_eq_true, decide_eq_true_eq]; exact .inl ⟨by omega, by omega⟩
theorem cMul_r {i j : Int} (h1 : -18446744073709551616 < j) (h2 : j < 18446744073709551616) : cMul i j = true := by
  unfold cMul; simp only [Bool.or_eq_true, Bool.and_eq_true, decide_eq_true_eq]; exact .inr ⟨by omega, by omega⟩
end L2

namespace My
open PySem L2
noncomputable abbrev s_law_mix : Stmt := top 6
noncomputable abbrev s_law_row : Stmt := top 8
noncomputable abbrev s_law_list : Stmt := top 9
noncomputable abbrev s_law_cell : Stmt := top 5
noncomputable abbrev s_joined_from : Stmt := top 3
noncomputable abbrev s_space_ahead : Stmt := top 2
noncomputable abbrev s_cover : Stmt := top 1
noncomputable abbrev s_law_walked : Stmt := top 11
noncomputable abbrev s_law_whole : Stmt := top 7
noncomputable abbrev s_law_pairs : Stmt := top 10
noncomputable abbrev s_law_good : Stmt := top 12
noncomputable abbrev s_law : Stmt := top 13
set_option genInjectivity false
set_option genSizeOf false
set_option genSizeOfSpec false
structure Txt (K : PySem.W.Frag) (mg : Str → Option Value) where
  q0 : FnT K mg "_law_mix" s_law_mix ["_law_cell_here", "_law_one", "_law_prime"]
  q1 : FnT K mg "_law_row" s_law_row ["_law_cell_here", "_law_k"]
  q2 : FnT K mg "_law_list" s_law_list ["_law_cells", "_law_start"]
  q3 : FnT K mg "_law_cell" s_law_cell ["_law_script", "_law_k"]
  q4 : FnT K mg "joined_from" s_joined_from ["spans", "starts"]
  q5 : FnT K mg "space_ahead" s_space_ahead ["spans", "at"]
  q6 : FnT K mg "cover" s_cover ["spans", "many"]
  q7 : FnT K mg "_law_walked" s_law_walked ["_law_rows", "_law_found"]
  q8 : FnT K mg "_law_whole" s_law_whole ["_law_found"]
  q9 : FnT K mg "_law_pairs" s_law_pairs ["_law_found"]
  q10 : FnT K mg "_law_good" s_law_good ["_law_rows", "_law_many"]
  q11 : FnT K mg "law" s_law ["_law_script"]
  z_bool : mg "bool" = none
  z_enumerate : mg "enumerate" = none
  z_int : mg "int" = none
  z_isinstance : mg "isinstance" = none
  z_len : mg "len" = none
  z_list : mg "list" = none
  z_max : mg "max" = none
  z_min : mg "min" = none
  z_range : mg "range" = none
  z_sorted : mg "sorted" = none
  z_tuple : mg "tuple" = none
  z_zip : mg "zip" = none
  lam : LamK K mg q6.fd 16
set_option genInjectivity true
set_option genSizeOf true
set_option genSizeOfSpec true
section
seal PySem.Sem.wp
variable {P : Program} {w : World} {K : PySem.W.Frag} {mg : Str → Option Value} {base : Heap}
theorem sc_law_mix : FnScope ["_law_cell_here", "_law_one", "_law_prime", "_law_drawn"] ["_law_cell_here", "_law_one", "_law_prime"] (defScope s_law_mix) := sc_of (by decide +kernel)
noncomputable def B_law_mix_1 : Sf := (sRet (eDiv (eMod (eMul (eV 3) (eV 3)) (eC (.int 998244353))) (eC (.int 3))))
noncomputable def B_law_mix_0 : Sf := (sSeq (sSet 3 (eMod (eMul (eAdd (eAdd (eAdd (eMod (eV 0) (eV 2)) (eC (.int 12345))) (eMul (eMul (eC (.int 31)) (eV 1)) (eV 1))) (eV 1)) (eC (.int 48271))) (eV 2)))
    (B_law_mix_1))
noncomputable def b_law_mix : Sf :=
    (B_law_mix_0)
noncomputable def d_law_mix : List D → Option D := fnF 4 b_law_mix
theorem ok_law_mix (T : Txt K mg) : OkT P w base T.q0 1 3 d_law_mix :=
  ok_fn (k := 0) T.q0.F sc_law_mix fun cdv A outer s H E hr =>
    (pss_consE B_law_mix_0 rfl (ps_setF 3 sc_law_mix.nd (pf_mod (pf_mul (pf_add (pf_add (pf_add (pf_mod (pf_v 0) (pf_v 2)) pf_int) (pf_mul (pf_mul pf_int (pf_v 1)) (pf_v 1))) (pf_v 1)) pf_int) (pf_v 2)))
      (pss_oneF (ps_retF (pf_div (pf_mod (pf_mul (pf_v 3) (pf_v 3)) pf_int) pf_int))))
theorem sc_law_row : FnScope ["_law_cell_here", "_law_k", "_law_wide", "_law_long"] ["_law_cell_here", "_law_k"] (defScope s_law_row) := sc_of (by decide +kernel)
noncomputable def B_law_row_2 : Sf := (sRet (eTup (aCons (eV 2) (aCons (eV 3) aNil))))
noncomputable def B_law_row_1 : Sf := (sSeq (sSet 3 (eIx (eL (lDisp (aCons (eC (.int 1)) (aCons (eC (.int 1)) (aCons (eC (.int 2)) (aCons (eC (.int 5)) (aCons (eAdd (eC (.int 1)) (eMod (eDiv (eV 0) (eC (.int 3))) (ePow (eC (.int 10)) (eC (.int 30))))) aNil))))))) (eMod (eCall 3 d_law_mix (aCons (eV 0) (aCons (eC (.int 4)) (aCons (eC (.int 1000033)) aNil)))) (eC (.int 5)))))
    (B_law_row_2))
noncomputable def B_law_row_0 : Sf := (sSeq (sSet 2 (eIx (eL (lDisp (aCons (eC (.int 1)) (aCons (eC (.int 1)) (aCons (eC (.int 2)) (aCons (eC (.int 3)) (aCons (eC (.int 7)) (aCons (eAdd (eC (.int 1)) (eMod (eV 0) (ePow (eC (.int 10)) (eC (.int 30))))) aNil)))))))) (eMod (eCall 3 d_law_mix (aCons (eV 0) (aCons (eC (.int 3)) (aCons (eC (.int 1000003)) aNil)))) (eC (.int 6)))))
    (B_law_row_1))
noncomputable def b_law_row : Sf :=
    (B_law_row_0)
noncomputable def d_law_row : List D → Option D := fnF 4 b_law_row
theorem ok_law_row (T : Txt K mg) : OkT P w base T.q1 2 2 d_law_row :=
  ok_fn (k := 1) T.q1.F sc_law_row fun cdv A outer s H E hr =>
    (pss_consE B_law_row_0 rfl (ps_setF 2 sc_law_row.nd (pf_ix (pf_l (pl_disp (pa_consF pf_int (pa_consF pf_int (pa_consF pf_int (pa_consF pf_int (pa_consF pf_int (pa_consF (pf_add pf_int (pf_mod (pf_v 0) (pf_pow pf_int pf_int))) pa_nilF)))))))) (pf_mod (pf_c (ok_law_mix T) hr (pa_consF (pf_v 0) (pa_consF pf_int (pa_consF pf_int pa_nilF)))) pf_int)))
      (pss_consE B_law_row_1 rfl (ps_setF 3 sc_law_row.nd (pf_ix (pf_l (pl_disp (pa_consF pf_int (pa_consF pf_int (pa_consF pf_int (pa_consF pf_int (pa_consF (pf_add pf_int (pf_mod (pf_div (pf_v 0) pf_int) (pf_pow pf_int pf_int))) pa_nilF))))))) (pf_mod (pf_c (ok_law_mix T) hr (pa_consF (pf_v 0) (pa_consF pf_int (pa_consF pf_int pa_nilF)))) pf_int)))
      (pss_oneF (ps_retF (pf_tup (pa_consF (pf_v 2) (pa_consF (pf_v 3) pa_nilF)))))))
theorem sc_law_list : FnScope ["_law_cells", "_law_start", "_law_rows", "_law_at", "_law_k", "_law_cell_here", "_law_wide", "_law_long"] ["_law_cells", "_law_start"] (defScope s_law_list) := sc_of (by decide +kernel)
noncomputable def L1_law_list_3 : Sf := (sSet 3 (eAdd (eV 3) (eV 7)))
noncomputable def L1_law_list_2 : Sf := (sSeq (sApp 2 (eTup (aCons (eV 3) (aCons (eSub (eAdd (eV 3) (eV 7)) (eC (.int 1))) aNil))))
    (L1_law_list_3))
noncomputable def L1_law_list_1 : Sf := (sSeq (sIf (eB2 gGt (eV 4) (eC (.int 0))) (sSet 3 (eAdd (eV 3) (eV 6))) sNil)
    (L1_law_list_2))
noncomputable def L1_law_list_0 : Sf := (sSeq (sAsg (eCall 2 d_law_row (aCons (eV 5) (aCons (eV 4) aNil))) (gT (gsCons (gN 6) (gsCons (gN 7) gsNil))))
    (L1_law_list_1))
noncomputable def B_law_list_3 : Sf := (sRetO 2)
noncomputable def B_law_list_2 : Sf := (sSeq (sFor (iEnum (iL (eV 0))) (gT (gsCons (gN 4) (gsCons (gN 5) gsNil))) (L1_law_list_0))
    (B_law_list_3))
noncomputable def B_law_list_1 : Sf := (sSeq (sSet 3 (eV 1))
    (B_law_list_2))
noncomputable def B_law_list_0 : Sf := (sSeq (sOwn 2 (lDisp aNil))
    (B_law_list_1))
noncomputable def b_law_list : Sf :=
    (B_law_list_0)
noncomputable def d_law_list : List D → Option D := fnF 8 b_law_list
theorem ok_law_list (T : Txt K mg) : OkT P w base T.q2 3 2 d_law_list :=
  ok_fn (k := 2) T.q2.F sc_law_list fun cdv A outer s H E hr =>
    (pss_consE B_law_list_0 rfl (ps_own 2 sc_law_list.nd (pl_disp pa_nilF))
      (pss_consE B_law_list_1 rfl (ps_setF 3 sc_law_list.nd (pf_v 1))
      (pss_consE B_law_list_2 rfl (ps_forF PassesOwn.never rfl (pi_enum rfl T.z_enumerate (src_l (pf_v 0))) (pg_t 2 rfl (pgs_consF (pg_n 4 sc_law_list.nd) (pgs_consF (pg_n 5 sc_law_list.nd) pgs_nilF)) (gs_len1 (gs_len1 gs_len0))) (pss_consE L1_law_list_0 rfl (ps_asgF (pf_c (ok_law_row T) hr (pa_consF (pf_v 5) (pa_consF (pf_v 4) pa_nilF))) (pg_t 2 rfl (pgs_consF (pg_n 6 sc_law_list.nd) (pgs_consF (pg_n 7 sc_law_list.nd) pgs_nilF)) (gs_len1 (gs_len1 gs_len0))))
      (pss_consE L1_law_list_1 rfl (ps_ifF (pt_cmpF cm_gt (pf_v 4) pf_int) (pss_oneF (ps_setF 3 sc_law_list.nd (pf_add (pf_v 3) (pf_v 6)))) pss_nilF)
      (pss_consE L1_law_list_2 rfl (ps_app 2 (pe_bm PySem.F.plainAttrs_list PySem.F.slot_list_append PySem.F.type_list_append mt_append (pv 2) (pa_cons (pf_tup (pa_consF (pf_v 3) (pa_consF (pf_sub (pf_add (pf_v 3) (pf_v 7)) pf_int) pa_nilF))) pa_nil)))
      (pss_oneF (ps_setF 3 sc_law_list.nd (pf_add (pf_v 3) (pf_v 7))))))))
      (pss_oneF (ps_retO 2)))))
theorem sc_law_cell : FnScope ["_law_script", "_law_k"] ["_law_script", "_law_k"] (defScope s_law_cell) := sc_of (by decide +kernel)
noncomputable def B_law_cell_1 : Sf := (sRet (eC (.int 0)))
noncomputable def B_law_cell_0 : Sf := (sSeq (sIf (eB2 gLt (eV 1) (eLen (eV 0))) (sRet (eIx (eV 0) (eV 1))) sNil)
    (B_law_cell_1))
noncomputable def b_law_cell : Sf :=
    (B_law_cell_0)
noncomputable def d_law_cell : List D → Option D := fnF 2 b_law_cell
theorem ok_law_cell (T : Txt K mg) : OkT P w base T.q3 1 2 d_law_cell :=
  ok_fn (k := 0) T.q3.F sc_law_cell fun cdv A outer s H E hr =>
    (pss_consE B_law_cell_0 rfl (ps_ifF (pt_cmpF cm_lt (pf_v 1) (pf_len rfl T.z_len (pf_v 0))) (pss_oneF (ps_retF (pf_ix (pf_v 0) (pf_v 1)))) pss_nilF)
      (pss_oneF (ps_retF pf_int)))
theorem sc_joined_from : FnScope ["spans", "starts", "ends"] ["spans", "starts"] (defScope s_joined_from) := sc_of (by decide +kernel)
noncomputable def B_joined_from_2 : Sf := (sRetL (lComp (iZipL (eL (lCat (lDisp (aCons (eC (.int 0)) aNil)) (iL (eV 1)))) (eV 2)) 2 [0] (gT (gsCons (gN 0) (gsCons (gN 1) gsNil))) tOK (eTup (aCons (eIx (eIx (eV 2) (eV 0)) (eC (.int 0))) (aCons (eIx (eIx (eV 2) (eSub (eV 1) (eC (.int 1)))) (eC (.int 1))) aNil)))))
noncomputable def B_joined_from_1 : Sf := (sSeq (sSet 2 (eL (lCat (iL (eV 1)) (lDisp (aCons (eLen (eV 0)) aNil)))))
    (B_joined_from_2))
noncomputable def B_joined_from_0 : Sf := (sSeq (sIf (tNotF (tTru (eV 0))) (sRetL (lDisp aNil)) sNil)
    (B_joined_from_1))
noncomputable def b_joined_from : Sf :=
    (B_joined_from_0)
noncomputable def d_joined_from : List D → Option (List D) := fnL 3 b_joined_from
theorem ok_joined_from (T : Txt K mg) : OkTL P w base T.q4 1 2 d_joined_from :=
  ok_fnL (k := 0) T.q4.F sc_joined_from fun cdv A outer s H E hr =>
    (pss_consE B_joined_from_0 rfl (ps_ifF (pt_notF (pt_truF (pf_v 0))) (pss_oneF (ps_retL (pl_disp pa_nilF))) pss_nilF)
      (pss_consE B_joined_from_1 rfl (ps_setF 2 sc_joined_from.nd (pf_l (pl_catS (src_l (pf_v 1)) (src_r (pl_disp (pa_consF (pf_len rfl T.z_len (pf_v 0)) pa_nilF))))))
      (pss_oneF (ps_retL (pl_comp (defScope s_joined_from) ["spans", "starts", "ends"] ["start", "end"] ["spans"] [0] (go_t (gso_cons (go_n 0) (gso_cons (go_n 1) gso_nil))) (pi_zipL rfl T.z_zip (pf_l (pl_catS (src_r (pl_disp (pa_consF pf_int pa_nilF))) (src_l (pf_v 1)))) (pf_v 2)) rfl rfl rfl (by decide +kernel) (fun _ _ _ _ => (pg_t 2 rfl (pgs_consF (pg_n 0 (show (List.Nodup (α := PySem.Str) ["start", "end", "spans"]) from by decide +kernel)) (pgs_consF (pg_n 1 (show (List.Nodup (α := PySem.Str) ["start", "end", "spans"]) from by decide +kernel)) pgs_nilF)) (gs_len1 (gs_len1 gs_len0)))) (fun _ _ _ _ => pifs_nilF) (fun _ _ _ _ => (pf_tup (pa_consF (pf_ix (pf_ix (pf_v 2) (pf_v 0)) pf_int) (pa_consF (pf_ix (pf_ix (pf_v 2) (pf_sub (pf_v 1) pf_int)) pf_int) pa_nilF)))))))))
theorem sc_space_ahead : FnScope ["spans", "at"] ["spans", "at"] (defScope s_space_ahead) := sc_of (by decide +kernel)
noncomputable def B_space_ahead_0 : Sf := (sRet (eSub (eSub (eIx (eIx (eV 0) (eV 1)) (eC (.int 0))) (eIx (eIx (eV 0) (eSub (eV 1) (eC (.int 1)))) (eC (.int 1)))) (eC (.int 1))))
noncomputable def b_space_ahead : Sf :=
    (B_space_ahead_0)
noncomputable def d_space_ahead : List D → Option D := fnF 2 b_space_ahead
theorem ok_space_ahead (T : Txt K mg) : OkT P w base T.q5 1 2 d_space_ahead :=
  ok_fn (k := 0) T.q5.F sc_space_ahead fun cdv A outer s H E hr =>
    (pss_oneF (ps_retF (pf_sub (pf_sub (pf_ix (pf_ix (pf_v 0) (pf_v 1)) pf_int) (pf_ix (pf_ix (pf_v 0) (pf_sub (pf_v 1) pf_int)) pf_int)) pf_int)))
theorem sc_cover : FnScope ["spans", "many", "widest"] ["spans", "many"] (defScope s_cover) := sc_of (by decide +kernel)
noncomputable def B_cover_1 : Sf := (sRetL (lCall 2 d_joined_from (aCons (eV 0) (aCons (eL (lSorted (lSlice (eV 2) oNo (oSome (eSub (eV 1) (eC (.int 1))))))) aNil))))
noncomputable def B_cover_0 : Sf := (sSeq (sSet 2 (eL (lSortLam 0 (eC (.int 1)) (eLen (eV 0)) (eNeg (eCall 2 d_space_ahead (aCons (eV 1) (aCons (eV 0) aNil)))))))
    (B_cover_1))
noncomputable def b_cover : Sf :=
    (B_cover_0)
noncomputable def d_cover : List D → Option (List D) := fnL 3 b_cover
theorem ok_cover (T : Txt K mg) : OkTL P w base T.q6 6 2 d_cover :=
  ok_fnLc (k := 5) T.q6.F sc_cover fun cdv A outer s H E hcd hr =>
    (pss_consE B_cover_0 rfl (ps_setF 2 sc_cover.nd (pf_l (pl_sortLam (n := 0) hr rfl T.z_sorted rfl T.z_range hcd T.lam (.head _) pf_int (pf_len rfl T.z_len (pf_v 0)) (fun _ _ _ _ _ => rfl) (lamSc_of (xa := "at") (xf := "spans") (by decide +kernel)) (fun _ _ _ _ _ _ hr => (pf_neg (pf_c (ok_space_ahead T) hr (pa_consF (pf_v 1) (pa_consF (pf_v 0) pa_nilF))))) (fun _ h => by cases h; rfl))))
      (pss_oneF (ps_retL (pl_c (ok_joined_from T) hr (pa_consF (pf_v 0) (pa_consF (pf_l (pl_sorted rfl T.z_sorted (src_r (pl_slice (pf_v 2) po_no (po_sm (pf_sub (pf_v 1) pf_int)))))) pa_nilF))))))
theorem sc_law_walked : FnScope ["_law_rows", "_law_found", "_law_at", "_law_opened", "_law_shut", "_law_pair"] ["_law_rows", "_law_found"] (defScope s_law_walked) := sc_of (by decide +kernel)
noncomputable def L1_law_walked_3 : Sf := (sSet 2 (eAdd (eV 2) (eC (.int 1))))
noncomputable def L1_law_walked_2 : Sf := (sSeq (whileF (eB2 gNe (eIx (eIx (eV 0) (eV 2)) (eC (.int 1))) (eIx (eV 5) (eC (.int 1)))) (sSeq (sSet 2 (eAdd (eV 2) (eC (.int 1))))
    (sSeq (sIf (eB2 gEq (eV 2) (eLen (eV 0))) (sRet (eC .non)) sNil)
    (sApp 4 (eTup (aCons (eNeg (eSub (eIx (eIx (eV 0) (eV 2)) (eC (.int 0))) (eIx (eIx (eV 0) (eSub (eV 2) (eC (.int 1)))) (eC (.int 1))))) (aCons (eV 2) aNil)))))) 100)
    (L1_law_walked_3))
noncomputable def L1_law_walked_1 : Sf := (sSeq (sIf (eB2 gGt (eV 2) (eC (.int 0))) (sApp 3 (eTup (aCons (eNeg (eSub (eIx (eIx (eV 0) (eV 2)) (eC (.int 0))) (eIx (eIx (eV 0) (eSub (eV 2) (eC (.int 1)))) (eC (.int 1))))) (aCons (eV 2) aNil)))) sNil)
    (L1_law_walked_2))
noncomputable def L1_law_walked_0 : Sf := (sSeq (sIf (tOrF (eB2 gEq (eV 2) (eLen (eV 0))) (eB2 gNe (eIx (eV 5) (eC (.int 0))) (eIx (eIx (eV 0) (eV 2)) (eC (.int 0))))) (sRet (eC .non)) sNil)
    (L1_law_walked_1))
noncomputable def B_law_walked_5 : Sf := (sFrz 3 (sFrz 4 (sRet (eTup (aCons (eV 3) (aCons (eV 4) aNil))))))
noncomputable def B_law_walked_4 : Sf := (sSeq (sIf (eB2 gLt (eV 2) (eLen (eV 0))) (sRet (eC .non)) sNil)
    (B_law_walked_5))
noncomputable def B_law_walked_3 : Sf := (sSeq (sFor (iL (eV 1)) (gN 5) (L1_law_walked_0))
    (B_law_walked_4))
noncomputable def B_law_walked_2 : Sf := (sSeq (sOwn 4 (lDisp aNil))
    (B_law_walked_3))
noncomputable def B_law_walked_1 : Sf := (sSeq (sOwn 3 (lDisp aNil))
    (B_law_walked_2))
noncomputable def B_law_walked_0 : Sf := (sSeq (sSet 2 (eC (.int 0)))
    (B_law_walked_1))
noncomputable def b_law_walked : Sf :=
    (B_law_walked_0)
noncomputable def d_law_walked : List D → Option D := fnF 6 b_law_walked
theorem ok_law_walked (T : Txt K mg) : OkT P w base T.q7 1 2 d_law_walked :=
  ok_fn (k := 0) T.q7.F sc_law_walked fun cdv A outer s H E hr =>
    (pss_consE B_law_walked_0 rfl (ps_setF 2 sc_law_walked.nd pf_int)
      (pss_consE B_law_walked_1 rfl (ps_own 3 sc_law_walked.nd (pl_disp pa_nilF))
      (pss_consE B_law_walked_2 rfl (ps_own 4 sc_law_walked.nd (pl_disp pa_nilF))
      (pss_consE B_law_walked_3 rfl (ps_forF PassesOwn.never rfl (pi_l (pf_v 1)) (pg_n 5 sc_law_walked.nd) (pss_consE L1_law_walked_0 rfl (ps_ifF (pt_w (pw_orF (pt_cmpF cm_eq (pf_v 2) (pf_len rfl T.z_len (pf_v 0))) (pw_or1F (pt_cmpF cm_ne (pf_ix (pf_v 5) pf_int) (pf_ix (pf_ix (pf_v 0) (pf_v 2)) pf_int))))) (pss_oneF (ps_retF pf_non)) pss_nilF)
      (pss_consE L1_law_walked_1 rfl (ps_ifF (pt_cmpF cm_gt (pf_v 2) pf_int) (pss_oneF (ps_app 3 (pe_bm PySem.F.plainAttrs_list PySem.F.slot_list_append PySem.F.type_list_append mt_append (pv 3) (pa_cons (pf_tup (pa_consF (pf_neg (pf_sub (pf_ix (pf_ix (pf_v 0) (pf_v 2)) pf_int) (pf_ix (pf_ix (pf_v 0) (pf_sub (pf_v 2) pf_int)) pf_int))) (pa_consF (pf_v 2) pa_nilF))) pa_nil)))) pss_nilF)
      (pss_consE L1_law_walked_2 rfl (ps_whileF 100 PassesOwn.never (pt_cmpF cm_ne (pf_ix (pf_ix (pf_v 0) (pf_v 2)) pf_int) (pf_ix (pf_v 5) pf_int)) (pss_consF (ps_setF 2 sc_law_walked.nd (pf_add (pf_v 2) pf_int))
      (pss_consF (ps_ifF (pt_cmpF cm_eq (pf_v 2) (pf_len rfl T.z_len (pf_v 0))) (pss_oneF (ps_retF pf_non)) pss_nilF)
      (pss_oneF (ps_app 4 (pe_bm PySem.F.plainAttrs_list PySem.F.slot_list_append PySem.F.type_list_append mt_append (pv 4) (pa_cons (pf_tup (pa_consF (pf_neg (pf_sub (pf_ix (pf_ix (pf_v 0) (pf_v 2)) pf_int) (pf_ix (pf_ix (pf_v 0) (pf_sub (pf_v 2) pf_int)) pf_int))) (pa_consF (pf_v 2) pa_nilF))) pa_nil)))))))
      (pss_oneF (ps_setF 2 sc_law_walked.nd (pf_add (pf_v 2) pf_int)))))))
      (pss_consE B_law_walked_4 rfl (ps_ifF (pt_cmpF cm_lt (pf_v 2) (pf_len rfl T.z_len (pf_v 0))) (pss_oneF (ps_retF pf_non)) pss_nilF)
      (pss_oneF (ps_frz 3 (ps_frz 4 (ps_retF (pf_tup (pa_consF (pf_v 3) (pa_consF (pf_v 4) pa_nilF))))))))))))
theorem sc_law_whole : FnScope ["_law_found"] ["_law_found"] (defScope s_law_whole) := sc_of (by decide +kernel)
noncomputable def B_law_whole_0 : Sf := (sRet (eAndV (isTy isInt (eV 0)) (eOfT (tNotF (tB1 (isTy isBool (eV 0)))))))
noncomputable def b_law_whole : Sf :=
    (B_law_whole_0)
noncomputable def d_law_whole : List D → Option D := fnF 1 b_law_whole
theorem ok_law_whole (T : Txt K mg) : OkT P w base T.q8 1 1 d_law_whole :=
  ok_fn (k := 0) T.q8.F sc_law_whole fun cdv A outer s H E hr =>
    (pss_oneF (ps_retF (pf_and (pf_isi (T := "int") (TT := "int") rfl hq_int rfl T.z_isinstance rfl T.z_int (pf_v 0)) (pf_one (pf_not (pf_isi (T := "bool") (TT := "bool") rfl hq_bool rfl T.z_isinstance rfl T.z_bool (pf_v 0)))))))
theorem sc_law_pairs : FnScope ["_law_found", "_law_pair"] ["_law_found"] (defScope s_law_pairs) := sc_of (by decide +kernel)
noncomputable def L1_law_pairs_0 : Sf := (sIf (tOrF (tNotF (tB1 (isTy isTup (eV 1)))) (tOrF (eB2 gNe (eLen (eV 1)) (eC (.int 2))) (tOrF (tNotF (tB1 (eCall 1 d_law_whole (aCons (eIx (eV 1) (eC (.int 0))) aNil)))) (tNotF (tB1 (eCall 1 d_law_whole (aCons (eIx (eV 1) (eC (.int 1))) aNil))))))) (sRet (eC (.bl false))) sNil)
noncomputable def B_law_pairs_2 : Sf := (sRet (eC (.bl true)))
noncomputable def B_law_pairs_1 : Sf := (sSeq (sFor (iL (eV 0)) (gN 1) (L1_law_pairs_0))
    (B_law_pairs_2))
noncomputable def B_law_pairs_0 : Sf := (sSeq (sIf (tNotF (tB1 (isTy isLst (eV 0)))) (sRet (eC (.bl false))) sNil)
    (B_law_pairs_1))
noncomputable def b_law_pairs : Sf :=
    (B_law_pairs_0)
noncomputable def d_law_pairs : List D → Option D := fnF 2 b_law_pairs
theorem ok_law_pairs (T : Txt K mg) : OkT P w base T.q9 2 1 d_law_pairs :=
  ok_fn (k := 1) T.q9.F sc_law_pairs fun cdv A outer s H E hr =>
    (pss_consE B_law_pairs_0 rfl (ps_ifF (pt_notF (pt_valF (pf_isi (T := "list") (TT := "list") rfl hq_lst rfl T.z_isinstance rfl T.z_list (pf_v 0)))) (pss_oneF (ps_retF pf_bl)) pss_nilF)
      (pss_consE B_law_pairs_1 rfl (ps_forF PassesOwn.never rfl (pi_l (pf_v 0)) (pg_n 1 sc_law_pairs.nd) (pss_oneF (ps_ifF (pt_w (pw_orF (pt_notF (pt_valF (pf_isi (T := "tuple") (TT := "tuple") rfl hq_tup rfl T.z_isinstance rfl T.z_tuple (pf_v 1)))) (pw_orF (pt_cmpF cm_ne (pf_len rfl T.z_len (pf_v 1)) pf_int) (pw_orF (pt_notF (pt_valF (pf_c (ok_law_whole T) hr (pa_consF (pf_ix (pf_v 1) pf_int) pa_nilF)))) (pw_or1F (pt_notF (pt_valF (pf_c (ok_law_whole T) hr (pa_consF (pf_ix (pf_v 1) pf_int) pa_nilF))))))))) (pss_oneF (ps_retF pf_bl)) pss_nilF)))
      (pss_oneF (ps_retF pf_bl))))
theorem sc_law_good : FnScope ["_law_rows", "_law_many", "_law_handed", "_law_found", "_law_held", "_law_walked_here"] ["_law_rows", "_law_many"] (defScope s_law_good) := sc_of (by decide +kernel)
noncomputable def B_law_good_12 : Sf := (sRet (eOrV (eOfT (eB2 gEqD (eIx (eV 5) (eC (.int 0))) (eL (lDisp aNil)))) (eOfT (eB2 gLtP (e_maxQ (iL (eIx (eV 5) (eC (.int 0))))) (e_minQ (iL (eIx (eV 5) (eC (.int 1)))))))))
noncomputable def B_law_good_11 : Sf := (sSeq (sIf (tOrF (eB2 gNeD (eLen (eV 3)) (eV 1)) (eB2 gIsC (eV 5) (eC .non))) (sRet (eC (.bl false))) sNil)
    (B_law_good_12))
noncomputable def B_law_good_10 : Sf := (sSeq (sSet 5 (eCall 2 d_law_walked (aCons (eV 0) (aCons (eV 3) aNil))))
    (B_law_good_11))
noncomputable def B_law_good_9 : Sf := (sSeq (sIf (eB2 gLe (eLen (eV 0)) (eV 1)) (sRet (eOfT (eB2 gEqD (eV 3) (eV 0)))) sNil)
    (B_law_good_10))
noncomputable def B_law_good_8 : Sf := (sSeq (sIf (eB2 gNeD (eV 3) (eV 4)) (sRet (eC (.bl false))) sNil)
    (B_law_good_9))
noncomputable def B_law_good_7 : Sf := (sSeq (sSet 3 (eL (lCall 2 d_cover (aCons (eL (lListOf (eV 0))) (aCons (eV 1) aNil)))))
    (B_law_good_8))
noncomputable def B_law_good_6 : Sf := (sSeq (sApp 3 (eTup (aCons (eC (.int 0)) (aCons (eC (.int 0)) aNil))))
    (B_law_good_7))
noncomputable def B_law_good_5 : Sf := (sSeq (sIf (tLend 3 (eB2 gNeD (eV 3) (eV 4))) (sRet (eC (.bl false))) sNil)
    (B_law_good_6))
noncomputable def B_law_good_4 : Sf := (sSeq (sApp 2 (eTup (aCons (ePow (eC (.int 10)) (eC (.int 50))) (aCons (ePow (eC (.int 10)) (eC (.int 50))) aNil))))
    (B_law_good_5))
noncomputable def B_law_good_3 : Sf := (sSeq (sSet 4 (eL (lLend 3 (lListOf (eV 3)))))
    (B_law_good_4))
noncomputable def B_law_good_2 : Sf := (sSeq (sIf (tLend 3 (tLend 2 (tOrF (tNotF (tB1 (eCall 1 d_law_pairs (aCons (eV 3) aNil)))) (eB2 gNeD (eV 2) (eV 0))))) (sRet (eC (.bl false))) sNil)
    (B_law_good_3))
noncomputable def B_law_good_1 : Sf := (sSeq (sOwn 3 (lLend 2 (lCall 2 d_cover (aCons (eV 2) (aCons (eV 1) aNil)))))
    (B_law_good_2))
noncomputable def B_law_good_0 : Sf := (sSeq (sOwn 2 (lListOf (eV 0)))
    (B_law_good_1))
noncomputable def b_law_good : Sf :=
    (B_law_good_0)
noncomputable def d_law_good : List D → Option D := fnF 6 b_law_good
theorem ok_law_good (T : Txt K mg) : OkT P w base T.q10 7 2 d_law_good :=
  ok_fn (k := 6) T.q10.F sc_law_good fun cdv A outer s H E hr =>
    (pss_consE B_law_good_0 rfl (ps_own 2 sc_law_good.nd (pl_listOf rfl T.z_list (pf_v 0)))
      (pss_consE B_law_good_1 rfl (ps_own 3 sc_law_good.nd (pl_lend 2 (pl_c (ok_cover T) hr (pa_consF (pf_v 2) (pa_consF (pf_v 1) pa_nilF)))))
      (pss_consE B_law_good_2 rfl (ps_ifF (pt_lend 3 (pt_lend 2 (pt_w (pw_orF (pt_notF (pt_valF (pf_c (ok_law_pairs T) hr (pa_consF (pf_v 3) pa_nilF)))) (pw_or1F (pt_cmpF (cm_neD hr) (pf_v 2) (pf_v 0))))))) (pss_oneF (ps_retF pf_bl)) pss_nilF)
      (pss_consE B_law_good_3 rfl (ps_setF 4 sc_law_good.nd (pf_l (pl_lend 3 (pl_listOf rfl T.z_list (pf_v 3)))))
      (pss_consE B_law_good_4 rfl (ps_app 2 (pe_bm PySem.F.plainAttrs_list PySem.F.slot_list_append PySem.F.type_list_append mt_append (pv 2) (pa_cons (pf_tup (pa_consF (pf_pow pf_int pf_int) (pa_consF (pf_pow pf_int pf_int) pa_nilF))) pa_nil)))
      (pss_consE B_law_good_5 rfl (ps_ifF (pt_lend 3 (pt_cmpF (cm_neD hr) (pf_v 3) (pf_v 4))) (pss_oneF (ps_retF pf_bl)) pss_nilF)
      (pss_consE B_law_good_6 rfl (ps_app 3 (pe_bm PySem.F.plainAttrs_list PySem.F.slot_list_append PySem.F.type_list_append mt_append (pv 3) (pa_cons (pf_tup (pa_consF pf_int (pa_consF pf_int pa_nilF))) pa_nil)))
      (pss_consE B_law_good_7 rfl (ps_setF 3 sc_law_good.nd (pf_l (pl_c (ok_cover T) hr (pa_consF (pf_l (pl_listOf rfl T.z_list (pf_v 0))) (pa_consF (pf_v 1) pa_nilF)))))
      (pss_consE B_law_good_8 rfl (ps_ifF (pt_cmpF (cm_neD hr) (pf_v 3) (pf_v 4)) (pss_oneF (ps_retF pf_bl)) pss_nilF)
      (pss_consE B_law_good_9 rfl (ps_ifF (pt_cmpF cm_le (pf_len rfl T.z_len (pf_v 0)) (pf_v 1)) (pss_oneF (ps_retF (pf_cmp (cm_eqD hr) (pf_v 3) (pf_v 0)))) pss_nilF)
      (pss_consE B_law_good_10 rfl (ps_setF 5 sc_law_good.nd (pf_c (ok_law_walked T) hr (pa_consF (pf_v 0) (pa_consF (pf_v 3) pa_nilF))))
      (pss_consE B_law_good_11 rfl (ps_ifF (pt_w (pw_orF (pt_cmpF (cm_neD hr) (pf_len rfl T.z_len (pf_v 3)) (pf_v 1)) (pw_or1F (pt_cmpF cm_isC (pf_v 5) pf_non)))) (pss_oneF (ps_retF pf_bl)) pss_nilF)
      (pss_oneF (ps_retF (pf_or (pf_cmp (cm_eqD hr) (pf_ix (pf_v 5) pf_int) (pf_l (pl_disp pa_nilF))) (pf_one (pf_cmp (cm_ltP hr) (pf_maxQ hr rfl T.z_max (src_l (pf_ix (pf_v 5) pf_int))) (pf_minQ hr rfl T.z_min (src_l (pf_ix (pf_v 5) pf_int))))))))))))))))))))
theorem sc_law : FnScope ["_law_script", "_law_rows", "_law_drawn", "_law_fewer", "_law_many"] ["_law_script"] (defScope s_law) := sc_of (by decide +kernel)
noncomputable def L1_law_0 : Sf := (sIf (tNotF (tB1 (eCall 2 d_law_good (aCons (eV 1) (aCons (eV 4) aNil))))) (sRet (eC (.bl false))) sNil)
noncomputable def B_law_4 : Sf := (sRet (eC (.bl true)))
noncomputable def B_law_3 : Sf := (sSeq (sFor (lDisp (aCons (eC (.int 1)) (aCons (eV 3) (aCons (eMax (eC (.int 1)) (eLen (eV 1))) (aCons (eAdd (eAdd (eLen (eV 1)) (eC (.int 1))) (eMod (eDiv (eV 2) (eC (.int 100))) (ePow (eC (.int 10)) (eC (.int 6))))) aNil))))) (gN 4) (L1_law_0))
    (B_law_4))
noncomputable def B_law_2 : Sf := (sSeq (sSet 3 (eAdd (eC (.int 1)) (eMod (eV 2) (eMax (eC (.int 1)) (eLen (eV 1))))))
    (B_law_3))
noncomputable def B_law_1 : Sf := (sSeq (sSet 2 (eCall 3 d_law_mix (aCons (eCall 2 d_law_cell (aCons (eV 0) (aCons (eC (.int 1)) aNil))) (aCons (eC (.int 0)) (aCons (eC (.int 1000037)) aNil)))))
    (B_law_2))
noncomputable def B_law_0 : Sf := (sSeq (sSet 1 (eCall 2 d_law_list (aCons (eL (lSlice (eV 0) (oSome (eC (.int 2))) (oSome (eC (.int 62))))) (aCons (eMod (eCall 2 d_law_cell (aCons (eV 0) (aCons (eC (.int 0)) aNil))) (ePow (eC (.int 10)) (eC (.int 40)))) aNil))))
    (B_law_1))
noncomputable def b_law : Sf :=
    (B_law_0)
noncomputable def d_law : List D → Option D := fnF 5 b_law
theorem ok_law (T : Txt K mg) : OkT P w base T.q11 8 1 d_law :=
  ok_fn (k := 7) T.q11.F sc_law fun cdv A outer s H E hr =>
    (pss_consE B_law_0 rfl (ps_setF 1 sc_law.nd (pf_c (ok_law_list T) hr (pa_consF (pf_l (pl_slice (pf_v 0) (po_sm pf_int) (po_sm pf_int))) (pa_consF (pf_mod (pf_c (ok_law_cell T) hr (pa_consF (pf_v 0) (pa_consF pf_int pa_nilF))) (pf_pow pf_int pf_int)) pa_nilF))))
      (pss_consE B_law_1 rfl (ps_setF 2 sc_law.nd (pf_c (ok_law_mix T) hr (pa_consF (pf_c (ok_law_cell T) hr (pa_consF (pf_v 0) (pa_consF pf_int pa_nilF))) (pa_consF pf_int (pa_consF pf_int pa_nilF)))))
      (pss_consE B_law_2 rfl (ps_setF 3 sc_law.nd (pf_add pf_int (pf_mod (pf_v 2) (pf_max rfl rfl T.z_max pf_int (pf_len rfl T.z_len (pf_v 1))))))
      (pss_consE B_law_3 rfl (ps_forF PassesOwn.never rfl (pi_lr (pl_disp (pa_consF pf_int (pa_consF (pf_v 3) (pa_consF (pf_max rfl rfl T.z_max pf_int (pf_len rfl T.z_len (pf_v 1))) (pa_consF (pf_add (pf_add (pf_len rfl T.z_len (pf_v 1)) pf_int) (pf_mod (pf_div (pf_v 2) pf_int) (pf_pow pf_int pf_int))) pa_nilF)))))) (pg_n 4 sc_law.nd) (pss_oneF (ps_ifF (pt_notF (pt_valF (pf_c (ok_law_good T) hr (pa_consF (pf_v 1) (pa_consF (pf_v 4) pa_nilF))))) (pss_oneF (ps_retF pf_bl)) pss_nilF)))
      (pss_oneF (ps_retF pf_bl))))))
end
theorem all_mk {l : PySem.W.OpenLaw} {w : World} {K : PySem.W.Frag} {h : Heap} {mg : Str → Option Value} {fa : Addr} (X : K.In h) (G : h.Ns mainGlobals mg) (hfa : mg "law" = some (.ref fa))
    (g0 : FnAt K "_law_mix" s_law_mix)
    (g1 : FnAt K "_law_row" s_law_row)
    (g2 : FnAt K "_law_list" s_law_list)
    (g3 : FnAt K "_law_cell" s_law_cell)
    (g4 : FnAt K "joined_from" s_joined_from)
    (g5 : FnAt K "space_ahead" s_space_ahead)
    (g6 : FnAt K "cover" s_cover)
    (g7 : FnAt K "_law_walked" s_law_walked)
    (g8 : FnAt K "_law_whole" s_law_whole)
    (g9 : FnAt K "_law_pairs" s_law_pairs)
    (g10 : FnAt K "_law_good" s_law_good)
    (g11 : FnAt K "law" s_law)
    (z_bool : PySem.W.nsIn K mainGlobals "bool" = some none)
    (z_enumerate : PySem.W.nsIn K mainGlobals "enumerate" = some none)
    (z_int : PySem.W.nsIn K mainGlobals "int" = some none)
    (z_isinstance : PySem.W.nsIn K mainGlobals "isinstance" = some none)
    (z_len : PySem.W.nsIn K mainGlobals "len" = some none)
    (z_list : PySem.W.nsIn K mainGlobals "list" = some none)
    (z_max : PySem.W.nsIn K mainGlobals "max" = some none)
    (z_min : PySem.W.nsIn K mainGlobals "min" = some none)
    (z_range : PySem.W.nsIn K mainGlobals "range" = some none)
    (z_sorted : PySem.W.nsIn K mainGlobals "sorted" = some none)
    (z_tuple : PySem.W.nsIn K mainGlobals "tuple" = some none)
    (z_zip : PySem.W.nsIn K mainGlobals "zip" = some none)
    (gl : LamAt K "cover" 16) :
    ∃ fd : FuncData, (∀ (s : Shared) (v : Value), BindsTo s fd ⟨[v], []⟩ [("_law_script", v)]) ∧ ∀ base : Heap, K.In base → base.Ns mainGlobals mg → FnOk l.prog w K mg base CX0 8 fa fd ["_law_script"] (spF K 1 d_law) := by
  exact all_of _ (bd1 fun _ _ _ _ _ _ _ => rfl) hfa fun base => ok_law ({ q0 := fn_t X G g0 (bd3 fun _ _ _ _ _ _ _ _ _ => rfl), q1 := fn_t X G g1 (bd2 fun _ _ _ _ _ _ _ _ => rfl), q2 := fn_t X G g2 (bd2 fun _ _ _ _ _ _ _ _ => rfl), q3 := fn_t X G g3 (bd2 fun _ _ _ _ _ _ _ _ => rfl), q4 := fn_t X G g4 (bd2 fun _ _ _ _ _ _ _ _ => rfl), q5 := fn_t X G g5 (bd2 fun _ _ _ _ _ _ _ _ => rfl), q6 := fn_t X G g6 (bd2 fun _ _ _ _ _ _ _ _ => rfl), q7 := fn_t X G g7 (bd2 fun _ _ _ _ _ _ _ _ => rfl), q8 := fn_t X G g8 (bd1 fun _ _ _ _ _ _ _ => rfl), q9 := fn_t X G g9 (bd1 fun _ _ _ _ _ _ _ => rfl), q10 := fn_t X G g10 (bd2 fun _ _ _ _ _ _ _ _ => rfl), q11 := fn_t X G g11 (bd1 fun _ _ _ _ _ _ _ => rfl), z_bool := PySem.W.mg_none_of X G z_bool, z_enumerate := PySem.W.mg_none_of X G z_enumerate, z_int := PySem.W.mg_none_of X G z_int, z_isinstance := PySem.W.mg_none_of X G z_isinstance, z_len := PySem.W.mg_none_of X G z_len, z_list := PySem.W.mg_none_of X G z_list, z_max := PySem.W.mg_none_of X G z_max, z_min := PySem.W.mg_none_of X G z_min, z_range := PySem.W.mg_none_of X G z_range, z_sorted := PySem.W.mg_none_of X G z_sorted, z_tuple := PySem.W.mg_none_of X G z_tuple, z_zip := PySem.W.mg_none_of X G z_zip, lam := lam_k gl X G _ } : Txt K mg)
end My

namespace My
open PySem L2
noncomputable abbrev Row := Int × Int
noncomputable def rAt (r : List Row) (k : Nat) : Row := r.getD k (0, 0)
noncomputable def seg (r : List Row) : Nat → List Nat → Nat → List Row
  | a, [], n => [((rAt r a).1, (rAt r (n - 1)).2)]
  | a, s :: l, n => ((rAt r a).1, (rAt r (s - 1)).2) :: seg r s l n
theorem seqif {t : Tf} {f g : Sf} {ρ : List B} {r : Option D} (h : t ρ = some false) (k : (g ρ).bind outD = r) : (sSeq (sIf t f sNil) g ρ).bind outD = r := seq_out (by unfold sIf; rw [h]; rfl) k
theorem seqset {i : Nat} {f : Ef} {g : Sf} {ρ : List B} {d : D} {r : Option D} (h : f ρ = some d) (k : (g (ρ.set i (.fz d))).bind outD = r) : (sSeq (sSet i f) g ρ).bind outD = r := seq_out (by unfold sSet; rw [h]; rfl) k
theorem eI_eq {C : Int → Int → Bool} {g : Int → Int → Int} {fa fb : Ef} {ρ : List B} {i j : Int} (h1 : fa ρ = some (.int i)) (h2 : fb ρ = some (.int j)) (h : C i j = true) : eI C g fa fb ρ = some (.int (g i j)) := by
  unfold eI
  rw [h1, Option.bind_some, h2, Option.bind_some]
  show (if C i j then _ else none) = _
  rw [if_pos h]
theorem call1 {f : List D → Option D} {fa : Ef} {ρ : List B} {x : D} (h : fa ρ = some x) : eCall 1 f (aCons fa aNil) ρ = f [x] := eCall_eq (aCons_eq h rfl) rfl
theorem call2 {f : List D → Option D} {fa fb : Ef} {ρ : List B} {x y : D} (h1 : fa ρ = some x) (h2 : fb ρ = some y) : eCall 2 f (aCons fa (aCons fb aNil)) ρ = f [x, y] := eCall_eq (aCons_eq h1 (aCons_eq h2 rfl)) rfl
theorem call3 {f : List D → Option D} {fa fb fc : Ef} {ρ : List B} {x y z : D} (h1 : fa ρ = some x) (h2 : fb ρ = some y) (h3 : fc ρ = some z) : eCall 3 f (aCons fa (aCons fb (aCons fc aNil))) ρ = f [x, y, z] := eCall_eq (aCons_eq h1 (aCons_eq h2 (aCons_eq h3 rfl))) rfl
theorem lcall2 {f : List D → Option (List D)} {fa fb : Ef} {ρ : List B} {x y : D} (h1 : fa ρ = some x) (h2 : fb ρ = some y) : lCall 2 f (aCons fa (aCons fb aNil)) ρ = f [x, y] := by
  unfold lCall; rw [aCons_eq h1 (aCons_eq h2 rfl)]; rfl
theorem not_t {f : Ef} {ρ : List B} (h : f ρ = some (.bl true)) : tNotF (tB1 f) ρ = some false := by unfold tNotF tB1; rw [h]; rfl
theorem or_no {t u : Tf} {ρ : List B} (h1 : t ρ = some false) (h2 : u ρ = some false) : tOrF t u ρ = some false := by unfold tOrF; rw [h1]; exact h2
theorem mix_eq (c k p : Int) (h0 : 0 ≤ k) (h1 : k ≤ 1000) (p0 : 1000000 ≤ p) (p1 : p ≤ 2000000) : ∃ v, 0 ≤ v ∧ d_law_mix [.int c, .int k, .int p] = some (.int v) := by
  have hc := Int.emod_nonneg c (show p ≠ 0 by omega)
  have hc' := Int.emod_lt_of_pos c (show 0 < p by omega)
  have hk : 0 ≤ 31 * k * k ∧ 31 * k * k ≤ 31000000 := by
    constructor
    · exact Int.mul_nonneg (by omega) h0
    · have : 31 * k * k ≤ 31000 * 1000 := Int.mul_le_mul (by omega) h1 h0 (by omega)
      omega
  have m1 : cMul 31 k = true := cMul_l (by decide) (by decide)
  have m2 : cMul (31 * k) k = true := cMul_l (by omega) (by omega)
  have m3 : cMul (c % p + 12345 + 31 * k * k + k) 48271 = true := cMul_r (by decide) (by decide)
  have d0 : decide (0 < p) = true := decide_eq_true (by omega)
  have hr := Int.emod_nonneg ((c % p + 12345 + 31 * k * k + k) * 48271) (show p ≠ 0 by omega)
  have hr' := Int.emod_lt_of_pos ((c % p + 12345 + 31 * k * k + k) * 48271) (show 0 < p by omega)
  generalize hq : (c % p + 12345 + 31 * k * k + k) * 48271 % p = q at hr hr'
  have m4 : cMul q q = true := cMul_l (by omega) (by omega)
  refine ⟨q * q % 998244353 / 3, by omega, ?_⟩
  show (B_law_mix_0 [.fz (.int c), .fz (.int k), .fz (.int p), .no]).bind outD = _
  unfold B_law_mix_0
  refine seqset (d := .int q) ?_ ?_
  · rw [← hq]
    exact eI_eq (eI_eq (eI_eq (eI_eq (eI_eq (eI_eq rfl rfl d0) rfl rfl) (eI_eq (eI_eq rfl rfl m1) rfl m2) rfl) rfl rfl) rfl m3) rfl d0
  · unfold B_law_mix_1 sRet
    rw [show eDiv (eMod (eMul (eV 3) (eV 3)) (eC (.int 998244353))) (eC (.int 3)) _ = some (.int (q * q % 998244353 / 3)) from eI_eq (eI_eq (eI_eq rfl rfl m4) rfl rfl) rfl rfl]
    rfl
noncomputable def encR (x : Row) : D := .tup [.int x.1, .int x.2]
noncomputable def encRs (r : List Row) : List D := r.map encR
theorem at_row {r : List Row} {k : Nat} (hk : k < r.length) : atD (.lst (encRs r)) (.int (k : Nat)) = some (encR (rAt r k)) := by
  show atI (r.map encR) (k : Int) = _
  rw [atI_getD (r.map encR) (k : Int) (encR (0, 0)) (by omega) (by simpa using hk)]
  unfold rAt
  simp [List.getD_eq_getElem?_getD, List.getElem?_eq_getElem hk]
theorem ix_row {r : List Row} {k : Nat} {f g : Ef} {ρ : List B} (h1 : f ρ = some (.lst (encRs r))) (h2 : g ρ = some (.int (k : Nat))) (hk : k < r.length) : eIx f g ρ = some (encR (rAt r k)) := by
  unfold eIx; rw [h1, Option.bind_some, h2, Option.bind_some, at_row hk]
theorem ix_fst {f : Ef} {ρ : List B} {x : Row} (h : f ρ = some (encR x)) : eIx f (eC (.int 0)) ρ = some (.int x.1) := by unfold eIx; rw [h]; rfl
theorem ix_snd {f : Ef} {ρ : List B} {x : Row} (h : f ρ = some (encR x)) : eIx f (eC (.int 1)) ρ = some (.int x.2) := by unfold eIx; rw [h]; rfl
theorem sub_nat {f : Ef} {ρ : List B} {k : Nat} (h : f ρ = some (.int (k : Nat))) (hk : 0 < k) : eSub f (eC (.int 1)) ρ = some (.int ((k - 1 : Nat) : Int)) := by
  rw [show ((k - 1 : Nat) : Int) = (k : Int) - 1 by omega]; exact eI_eq h rfl rfl
theorem space_eq {r : List Row} {k : Nat} (h0 : 0 < k) (hk : k < r.length) : d_space_ahead [.lst (encRs r), .int (k : Nat)] = some (.int ((rAt r k).1 - (rAt r (k - 1)).2 - 1)) := by
  show (B_space_ahead_0 [.fz (.lst (encRs r)), .fz (.int (k : Nat))]).bind outD = _
  unfold B_space_ahead_0 sRet
  rw [show eSub (eSub (eIx (eIx (eV 0) (eV 1)) (eC (.int 0))) (eIx (eIx (eV 0) (eSub (eV 1) (eC (.int 1)))) (eC (.int 1)))) (eC (.int 1)) [.fz (.lst (encRs r)), .fz (.int (k : Nat))] = some (.int ((rAt r k).1 - (rAt r (k - 1)).2 - 1)) from
    eI_eq (eI_eq (ix_fst (ix_row rfl rfl hk)) (ix_snd (ix_row rfl (sub_nat rfl h0) (by omega))) rfl) rfl rfl]
  rfl
noncomputable def nI (k : Nat) : D := .int (k : Nat)
theorem join_map {r : List Row} : ∀ (l : List Nat) (a : Nat) (x0 x1 : B) (acc : List D), a < r.length → (∀ k ∈ l, 0 < k ∧ k < r.length) →
    mapF (gT (gsCons (gN 0) (gsCons (gN 1) gsNil))) tOK (eTup (aCons (eIx (eIx (eV 2) (eV 0)) (eC (.int 0))) (aCons (eIx (eIx (eV 2) (eSub (eV 1) (eC (.int 1)))) (eC (.int 1))) aNil))) (zipD (nI a :: l.map nI) (l.map nI ++ [nI r.length])) [x0, x1, .fz (.lst (encRs r))] acc = some (acc ++ encRs (seg r a l r.length)) := by
  have stp : ∀ (a s : Nat) (x0 x1 : B) (rest : List D) (acc : List D), a < r.length → 0 < s → s ≤ r.length → mapF (gT (gsCons (gN 0) (gsCons (gN 1) gsNil))) tOK (eTup (aCons (eIx (eIx (eV 2) (eV 0)) (eC (.int 0))) (aCons (eIx (eIx (eV 2) (eSub (eV 1) (eC (.int 1)))) (eC (.int 1))) aNil))) (.tup [nI a, nI s] :: rest) [x0, x1, .fz (.lst (encRs r))] acc = mapF (gT (gsCons (gN 0) (gsCons (gN 1) gsNil))) tOK (eTup (aCons (eIx (eIx (eV 2) (eV 0)) (eC (.int 0))) (aCons (eIx (eIx (eV 2) (eSub (eV 1) (eC (.int 1)))) (eC (.int 1))) aNil))) rest [.fz (nI a), .fz (nI s), .fz (.lst (encRs r))] (acc ++ [encR ((rAt r a).1, (rAt r (s - 1)).2)]) := by
    intro a s x0 x1 rest acc ha hs hs'
    rw [mapF]
    show (some [B.fz (nI a), .fz (nI s), .fz (.lst (encRs r))]).bind _ = _
    rw [Option.bind_some]
    show (some true).bind _ = _
    rw [Option.bind_some, if_pos rfl]
    have e : eTup (aCons (eIx (eIx (eV 2) (eV 0)) (eC (.int 0))) (aCons (eIx (eIx (eV 2) (eSub (eV 1) (eC (.int 1)))) (eC (.int 1))) aNil)) [B.fz (nI a), .fz (nI s), .fz (.lst (encRs r))] = some (encR ((rAt r a).1, (rAt r (s - 1)).2)) := by
      unfold eTup
      rw [aCons_eq (ix_fst (ix_row (k := a) rfl rfl ha)) (aCons_eq (ix_snd (ix_row (k := s - 1) rfl (sub_nat (k := s) rfl hs) (by omega))) rfl)]
      rfl
    rw [e, Option.bind_some]
  intro l
  induction l with
  | nil =>
    intro a x0 x1 acc ha _
    show mapF _ _ _ [.tup [nI a, nI r.length]] _ _ = _
    rw [stp a r.length x0 x1 [] acc ha (by omega) (Nat.le_refl _)]
    rfl
  | cons s l ih =>
    intro a x0 x1 acc ha hl
    obtain ⟨h0, h1⟩ := hl s List.mem_cons_self
    show mapF _ _ _ (.tup [nI a, nI s] :: zipD (nI s :: l.map nI) (l.map nI ++ [nI r.length])) _ _ = _
    rw [stp a s x0 x1 _ acc ha h0 (by omega), ih s _ _ _ h1 fun k hk => hl k (List.mem_cons_of_mem _ hk)]
    simp [encRs, seg]
theorem joined_eq {r : List Row} (hr : r.length ≤ 1000) (h1 : 0 < r.length) {l : List Nat} (hl : l.length ≤ 1000) (hm : ∀ k ∈ l, 0 < k ∧ k < r.length) : d_joined_from [.lst (encRs r), .lst (l.map nI)] = some (encRs (seg r 0 l r.length)) := by
  show (B_joined_from_0 [.fz (.lst (encRs r)), .fz (.lst (l.map nI)), .no]).bind outL = _
  unfold B_joined_from_0
  have t1 : tNotF (tTru (eV 0)) [.fz (.lst (encRs r)), .fz (.lst (l.map nI)), .no] = some false := by
    cases r with
    | nil => simp at h1
    | cons x t => rfl
  rw [sSeq_nx (ρ' := [.fz (.lst (encRs r)), .fz (.lst (l.map nI)), .no]) (by unfold sIf; rw [t1]; rfl)]
  unfold B_joined_from_1
  have e1 : eL (lCat (iL (eV 1)) (lDisp (aCons (eLen (eV 0)) aNil))) [.fz (.lst (encRs r)), .fz (.lst (l.map nI)), .no] = some (.lst (l.map nI ++ [nI r.length])) := by
    unfold eL lCat
    show ((okL (l.map nI ++ [D.int ((encRs r).length : Nat)])).map D.lst) = _
    rw [okL_le (by simp; omega), show (encRs r).length = r.length by simp [encRs]]; rfl
  rw [sSeq_nx (ρ' := [.fz (.lst (encRs r)), .fz (.lst (l.map nI)), .fz (.lst (l.map nI ++ [nI r.length]))]) (by unfold sSet; rw [e1]; rfl)]
  unfold B_joined_from_2 sRetL lComp
  have e2 : iZipL (eL (lCat (lDisp (aCons (eC (.int 0)) aNil)) (iL (eV 1)))) (eV 2) [.fz (.lst (encRs r)), .fz (.lst (l.map nI)), .fz (.lst (l.map nI ++ [nI r.length]))] = some (zipD (nI 0 :: l.map nI) (l.map nI ++ [nI r.length])) := by
    unfold iZipL eL lCat
    show ((okL (nI 0 :: l.map nI)).map D.lst).bind _ = _
    rw [okL_le (by simp; omega)]; rfl
  have zl : ∀ (xs ys : List D), (zipD xs ys).length ≤ xs.length := by
    intro xs
    induction xs with
    | nil => intro ys; simp [zipD]
    | cons x xs ih => intro ys; cases ys with
      | nil => simp [zipD]
      | cons y ys => simp only [zipD, List.length_cons]; have := ih ys; omega
  rw [e2, Option.bind_some, okL_le (by have := zl (nI 0 :: l.map nI) (l.map nI ++ [nI r.length]); simp at this; omega), Option.bind_some]
  show ((mapF _ _ _ _ [.no, .no, .fz (.lst (encRs r))] []).map Out.rl).bind outL = _
  rw [join_map l 0 .no .no [] h1 hm]
  rfl
theorem whole_eq (i : Int) : d_law_whole [.int i] = some (.bl true) := rfl
theorem pairs_eq (r : List Row) : d_law_pairs [.lst (encRs r)] = some (.bl true) := by
  obtain ⟨ρ', e, x1, rfl⟩ := forF_all (g := gN 1) (body := L1_law_pairs_0) (P := fun ρ => ∃ x1, ρ = [.fz (.lst (encRs r)), x1]) (encRs r) (fun d hd ρ hρ => by
    obtain ⟨x1, rfl⟩ := hρ
    obtain ⟨x, _, rfl⟩ := List.mem_map.mp hd
    refine ⟨[.fz (.lst (encRs r)), .fz (encR x)], [.fz (.lst (encRs r)), .fz (encR x)], rfl, ?_, _, rfl⟩
    unfold L1_law_pairs_0 sIf
    rw [or_no rfl (or_no rfl (or_no (not_t ((call1 (ix_fst rfl)).trans (whole_eq x.1))) (not_t ((call1 (ix_snd rfl)).trans (whole_eq x.2)))))]
    rfl) [.fz (.lst (encRs r)), .no] ⟨_, rfl⟩
  show (B_law_pairs_0 [.fz (.lst (encRs r)), .no]).bind outD = _
  unfold B_law_pairs_0
  refine seqif rfl ?_
  unfold B_law_pairs_1
  exact seq_out (ρ' := [.fz (.lst (encRs r)), x1]) e rfl
theorem row_eq (c k : Int) : ∃ w l : Int, 1 ≤ w ∧ 1 ≤ l ∧ d_law_row [.int c, .int k] = some (.tup [.int w, .int l]) := by
  obtain ⟨v, v0, hv⟩ := mix_eq c 3 1000003 (by decide) (by decide) (by decide) (by decide)
  obtain ⟨u, u0, hu⟩ := mix_eq c 4 1000033 (by decide) (by decide) (by decide) (by decide)
  have p30 : ePow (eC (.int 10)) (eC (.int 30)) = fun _ => some (.int (10 ^ 30)) := rfl
  have m1 := Int.emod_nonneg c (show (10 : Int) ^ 30 ≠ 0 by decide)
  have m2 := Int.emod_nonneg (c / 3) (show (10 : Int) ^ 30 ≠ 0 by decide)
  have x1 : ∀ (l : List Int) (i : Int), 0 ≤ i → i < l.length → (∀ x ∈ l, 1 ≤ x) → ∃ w, 1 ≤ w ∧ atD (.lst (l.map D.int)) (.int i) = some (.int w) := by
    intro l i h0 h1 hl
    refine ⟨l.getD i.toNat 0, ?_, ?_⟩
    · rw [List.getD_eq_getElem?_getD, List.getElem?_eq_getElem (by omega)]; exact hl _ (List.getElem_mem _)
    · show atI (l.map D.int) i = _
      rw [atI_map, atI_getD l i 0 h0 h1]; rfl
  obtain ⟨w, hw, ew⟩ := x1 [1, 1, 2, 3, 7, 1 + c % 10 ^ 30] (v % 6) (by omega) (by show v % 6 < 6; omega) (by intro x hx; simp at hx; omega)
  obtain ⟨l, hl, el⟩ := x1 [1, 1, 2, 5, 1 + c / 3 % 10 ^ 30] (u % 5) (by omega) (by show u % 5 < 5; omega) (by intro x hx; simp at hx; omega)
  refine ⟨w, l, hw, hl, ?_⟩
  show (B_law_row_0 [.fz (.int c), .fz (.int k), .no, .no]).bind outD = _
  unfold B_law_row_0
  refine seqset (d := .int w) ?_ ?_
  · unfold eIx
    rw [show eMod (eCall 3 d_law_mix (aCons (eV 0) (aCons (eC (.int 3)) (aCons (eC (.int 1000003)) aNil)))) (eC (.int 6)) [.fz (.int c), .fz (.int k), .no, .no] = some (.int (v % 6)) from eI_eq ((call3 rfl rfl rfl).trans hv) rfl rfl]
    exact ew
  · unfold B_law_row_1
    rw [show ([.fz (.int c), .fz (.int k), .no, .no] : List B).set 2 (.fz (.int w)) = [.fz (.int c), .fz (.int k), .fz (.int w), .no] from rfl]
    refine seqset (d := .int l) ?_ rfl
    unfold eIx
    rw [show eMod (eCall 3 d_law_mix (aCons (eV 0) (aCons (eC (.int 4)) (aCons (eC (.int 1000033)) aNil)))) (eC (.int 5)) [.fz (.int c), .fz (.int k), .fz (.int w), .no] = some (.int (u % 5)) from eI_eq ((call3 rfl rfl rfl).trans hu) rfl rfl]
    exact el
theorem rAt_app {r : List Row} {x : Row} {k : Nat} (h : k < r.length) : rAt (r ++ [x]) k = rAt r k := by
  unfold rAt; simp [List.getD_eq_getElem?_getD, List.getElem?_append_left h]
theorem rAt_new {r : List Row} {x : Row} : rAt (r ++ [x]) r.length = x := by
  unfold rAt; simp [List.getD_eq_getElem?_getD]
noncomputable def Rising (r : List Row) : Prop := ∀ k, k < r.length → (rAt r k).1 ≤ (rAt r k).2 ∧ (0 < k → (rAt r (k - 1)).2 + 1 < (rAt r k).1)
theorem list_eq (cs : List Int) (hc : cs.length ≤ 63) (a : Int) : ∃ r : List Row, r.length = cs.length ∧ Rising r ∧ d_law_list [.lst (cs.map D.int), .int a] = some (.lst (encRs r)) := by
  have key := forF_ix (g := gT (gsCons (gN 4) (gsCons (gN 5) gsNil))) (body := L1_law_list_0) (P := fun k ρ => ∃ (r : List Row) (at_ : Int) (x4 x5 x6 x7 : B), ρ = [.fz (.lst (cs.map D.int)), .fz (.int a), .ow (encRs r), .fz (.int at_), x4, x5, x6, x7] ∧ r.length = k ∧ Rising r ∧ (0 < k → (rAt r (k - 1)).2 + 1 = at_)) (L2.numbered (cs.map D.int)) 0 (fun i d hd ρ hρ => by
    obtain ⟨r, at_, x4, x5, x6, x7, rfl, hl, hcut, hat⟩ := hρ
    rw [Nat.zero_add] at hl hat ⊢
    have hi : i < cs.length := by
      have := (List.getElem?_eq_some_iff.mp hd).1
      simpa [L2.numbered] using this
    have hd' : d = .tup [.int (i : Nat), .int cs[i]] := by
      unfold L2.numbered at hd
      simp [List.getElem?_eq_getElem hi] at hd
      exact hd.symm
    subst hd'
    obtain ⟨w, l, hw, hl', hrow⟩ := row_eq cs[i] (i : Nat)
    generalize cs[i] = c at hrow
    refine ⟨[.fz (.lst (cs.map D.int)), .fz (.int a), .ow (encRs r), .fz (.int at_), .fz (.int (i : Nat)), .fz (.int c), x6, x7], ?_⟩
    generalize hat' : (if 0 < i then at_ + w else at_) = at'
    refine ⟨[.fz (.lst (cs.map D.int)), .fz (.int a), .ow (encRs (r ++ [(at', at' + l - 1)])), .fz (.int (at' + l)), .fz (.int (i : Nat)), .fz (.int c), .fz (.int w), .fz (.int l)], rfl, ?_, r ++ [(at', at' + l - 1)], at' + l, _, _, _, _, rfl, by simp [hl], ?_, fun _ => ?_⟩
    · unfold L1_law_list_0
      rw [sSeq_nx (ρ' := [.fz (.lst (cs.map D.int)), .fz (.int a), .ow (encRs r), .fz (.int at_), .fz (.int (i : Nat)), .fz (.int c), .fz (.int w), .fz (.int l)]) (by unfold sAsg; rw [call2 rfl rfl, hrow]; rfl)]
      unfold L1_law_list_1
      rw [sSeq_nx (ρ' := [.fz (.lst (cs.map D.int)), .fz (.int a), .ow (encRs r), .fz (.int at'), .fz (.int (i : Nat)), .fz (.int c), .fz (.int w), .fz (.int l)]) (by
        unfold sIf
        rw [show eB2 gGt (eV 4) (eC (.int 0)) [.fz (.lst (cs.map D.int)), .fz (.int a), .ow (encRs r), .fz (.int at_), .fz (.int (i : Nat)), .fz (.int c), .fz (.int w), .fz (.int l)] = some (decide ((0 : Int) < (i : Nat))) from rfl, Option.bind_some]
        by_cases h : 0 < i
        · rw [if_pos (by simpa using h)]
          rw [if_pos h] at hat'
          rw [← hat']; rfl
        · rw [if_neg (by simpa using h)]
          rw [if_neg h] at hat'
          rw [← hat']; rfl)]
      unfold L1_law_list_2
      rw [sSeq_nx (ρ' := [.fz (.lst (cs.map D.int)), .fz (.int a), .ow (encRs (r ++ [(at', at' + l - 1)])), .fz (.int at'), .fz (.int (i : Nat)), .fz (.int c), .fz (.int w), .fz (.int l)]) (by
        unfold sApp
        show (some (D.tup [.int at', .int (at' + l - 1)])).bind _ = _
        rw [Option.bind_some]
        show (if (encRs r).length < lim then _ else none) = _
        rw [if_pos (by show (encRs r).length < 100000; simp only [encRs, List.length_map]; omega)]
        simp [encRs, encR])]
      rfl
    · intro k k1
      rw [List.length_append, List.length_singleton] at k1
      by_cases hk : k < r.length
      · have := hcut k hk
        rw [rAt_app hk]
        refine ⟨this.1, fun k0 => ?_⟩
        rw [rAt_app (by omega)]
        exact this.2 k0
      · have ek : k = r.length := by omega
        have e1 : rAt (r ++ [(at', at' + l - 1)]) k = (at', at' + l - 1) := by rw [ek]; exact rAt_new
        rw [e1]
        refine ⟨by show at' ≤ at' + l - 1; omega, fun k0 => ?_⟩
        have hpos : 0 < i := by omega
        have e2 : rAt (r ++ [(at', at' + l - 1)]) (k - 1) = rAt r (i - 1) := by rw [rAt_app (by omega), ek, hl]
        rw [e2]
        have h1 := hat hpos
        rw [if_pos hpos] at hat'
        show (rAt r (i - 1)).2 + 1 < at'
        omega
    · show (rAt (r ++ [(at', at' + l - 1)]) (i + 1 - 1)).2 + 1 = at' + l
      rw [Nat.add_sub_cancel, ← hl, rAt_new]; show at' + l - 1 + 1 = at' + l; omega) [.fz (.lst (cs.map D.int)), .fz (.int a), .ow [], .fz (.int a), .no, .no, .no, .no] ⟨[], a, _, _, _, _, rfl, rfl, fun k h => absurd h (Nat.not_lt_zero k), fun h => absurd h (Nat.lt_irrefl 0)⟩
  obtain ⟨ρ', e, r, at_, x4, x5, x6, x7, rfl, hl, hcut, _⟩ := key
  refine ⟨r, by rw [hl]; simp [L2.numbered], hcut, ?_⟩
  show (B_law_list_0 [.fz (.lst (cs.map D.int)), .fz (.int a), .no, .no, .no, .no, .no, .no]).bind outD = _
  unfold B_law_list_0
  refine seq_out (ρ' := [.fz (.lst (cs.map D.int)), .fz (.int a), .ow [], .no, .no, .no, .no, .no]) rfl ?_
  unfold B_law_list_1
  refine seqset (d := .int a) rfl ?_
  unfold B_law_list_2
  exact seq_out (ρ' := [.fz (.lst (cs.map D.int)), .fz (.int a), .ow (encRs r), .fz (.int at_), x4, x5, x6, x7]) e rfl
theorem cell_eq (ns : List Int) (k : Nat) : ∃ c : Int, d_law_cell [.lst (ns.map D.int), .int (k : Nat)] = some (.int c) := by
  have hl : (ns.map D.int).length = ns.length := by simp
  have t1 : eB2 gLt (eV 1) (eLen (eV 0)) [.fz (.lst (ns.map D.int)), .fz (.int (k : Nat))] = some (decide ((k : Int) < (ns.length : Nat))) := by rw [← hl]; rfl
  by_cases h : (k : Int) < (ns.length : Nat)
  · refine ⟨ns.getD k 0, ?_⟩
    show (B_law_cell_0 [.fz (.lst (ns.map D.int)), .fz (.int (k : Nat))]).bind outD = _
    unfold B_law_cell_0
    rw [sSeq_rt (d := .int (ns.getD k 0)) (by
      unfold sIf
      rw [t1, decide_eq_true h, Option.bind_some, if_pos rfl]
      unfold sRet eIx
      show ((atI (ns.map D.int) (k : Int))).map Out.rt = _
      rw [atI_map, atI_getD ns (k : Int) 0 (by omega) h]; rfl)]
    rfl
  · refine ⟨0, ?_⟩
    show (B_law_cell_0 [.fz (.lst (ns.map D.int)), .fz (.int (k : Nat))]).bind outD = _
    unfold B_law_cell_0
    exact seqif (by rw [t1, decide_eq_false h]) rfl
theorem eq_rows (r : List Row) : eqD 8 (.lst (encRs r)) (.lst (encRs r)) = some true := by
  show (if (encRs r).length = (encRs r).length then eqDs (eqD 7) (encRs r) (encRs r) else some false) = _
  rw [if_pos rfl]
  induction r with
  | nil => rfl
  | cons x t ih =>
    show ((eqD 7 (encR x) (encR x)).bind fun a => (eqDs (eqD 7) (encRs t) (encRs t)).map fun b => a && b) = _
    rw [ih]
    show ((((some (x.1 == x.1)).bind fun a => ((some (x.2 == x.2)).bind fun a => (some true).map fun b => a && b).map fun b => a && b).map fun b => b && true).bind fun a => (some true).map fun b => a && b) = _
    simp
theorem ne_rows {f g : Ef} {ρ : List B} {r : List Row} (h1 : f ρ = some (.lst (encRs r))) (h2 : g ρ = some (.lst (encRs r))) : eB2 gNeD f g ρ = some false := by
  unfold eB2; rw [h1, Option.bind_some, h2, Option.bind_some]; unfold gNeD; rw [eq_rows]; rfl
theorem flats_rows : ∀ r : List Row, flats (encRs r) = true
  | [] => rfl
  | x :: t => by show (flat (encR x) && flats (encRs t)) = true; rw [flats_rows t]; rfl
theorem tLend_eq {i : Nat} {u : Tf} {ρ ρ' : List B} {b : Bool} (h : isOw i ρ = true) (e : frzB i ρ = ρ') (k : u ρ' = some b) : tLend i u ρ = some b := by unfold tLend; rw [if_pos h, e, k]
theorem lLend_eq {i : Nat} {u : Lf} {ρ ρ' : List B} {ds : List D} (h : isOw i ρ = true) (e : frzB i ρ = ρ') (k : u ρ' = some ds) (hf : flats ds = true) : lLend i u ρ = some ds := by unfold lLend; rw [if_pos h, e, k, Option.bind_some, if_pos hf]
end My

namespace My
open PySem L2
noncomputable def sp (r : List Row) (k : Nat) : Int := (rAt r k).1 - (rAt r (k - 1)).2 - 1
noncomputable def idx (r : List Row) : List (Int × Int) := (List.range (r.length - 1)).map fun i => (-(sp r (i + 1)), (i : Int))
noncomputable def ord (r : List Row) : List (Int × Int) := sortP (idx r)
noncomputable def stS (r : List Row) (q : Nat) : List Int := sortI (((ord r).take q).map fun p => 1 + p.2)
noncomputable def stN (r : List Row) (q : Nat) : List Nat := (stS r q).map Int.toNat
theorem mem_idx {r : List Row} {p : Int × Int} : p ∈ idx r ↔ ∃ i : Nat, i < r.length - 1 ∧ p = (-(sp r (i + 1)), (i : Int)) := by
  unfold idx
  simp only [List.mem_map, List.mem_range]
  constructor
  · rintro ⟨i, h, rfl⟩; exact ⟨i, h, rfl⟩
  · rintro ⟨i, h, rfl⟩; exact ⟨i, h, rfl⟩
theorem mem_ord {r : List Row} {p : Int × Int} : p ∈ ord r ↔ ∃ i : Nat, i < r.length - 1 ∧ p = (-(sp r (i + 1)), (i : Int)) := by
  unfold ord
  rw [(sortP_perm _).mem_iff, mem_idx]
theorem ord_len (r : List Row) : (ord r).length = r.length - 1 := by
  unfold ord
  rw [(sortP_perm _).length_eq]
  simp [idx]
theorem stS_perm (r : List Row) (q : Nat) : (stS r q).Perm (((ord r).take q).map fun p => 1 + p.2) := sortI_perm _
theorem stS_mem {r : List Row} {q : Nat} {x : Int} (h : x ∈ stS r q) : ∃ i : Nat, i < r.length - 1 ∧ x = ((i + 1 : Nat) : Int) ∧ (-(sp r (i + 1)), (i : Int)) ∈ (ord r).take q := by
  have := (stS_perm r q).subset h
  obtain ⟨p, hp, rfl⟩ := List.mem_map.mp this
  obtain ⟨i, hi, rfl⟩ := mem_ord.mp (List.mem_of_mem_take hp)
  exact ⟨i, hi, by show (1 : Int) + (i : Int) = _; omega, hp⟩
theorem stN_mem {r : List Row} {q k : Nat} : k ∈ stN r q ↔ 0 < k ∧ k < r.length ∧ (-(sp r k), ((k - 1 : Nat) : Int)) ∈ (ord r).take q := by
  unfold stN
  constructor
  · intro h
    obtain ⟨x, hx, rfl⟩ := List.mem_map.mp h
    obtain ⟨i, hi, rfl, hp⟩ := stS_mem hx
    rw [Int.toNat_natCast]
    exact ⟨by omega, by omega, by simpa using hp⟩
  · rintro ⟨h0, h1, hp⟩
    refine List.mem_map.mpr ⟨(k : Int), (stS_perm r q).symm.subset (List.mem_map.mpr ⟨_, hp, ?_⟩), Int.toNat_natCast k⟩
    show (1 : Int) + ((k - 1 : Nat) : Int) = (k : Int)
    omega
theorem stS_eq (r : List Row) (q : Nat) : (stS r q).map D.int = (stN r q).map nI := by
  unfold stN
  rw [List.map_map]
  refine List.map_congr_left fun x hx => ?_
  obtain ⟨i, _, rfl, _⟩ := stS_mem hx
  show D.int _ = D.int _
  rw [Int.toNat_natCast]
theorem stN_len (r : List Row) (q : Nat) : (stN r q).length = min q (r.length - 1) := by
  unfold stN
  rw [List.length_map, (stS_perm r q).length_eq, List.length_map, List.length_take, ord_len]
theorem stN_lt (r : List Row) (q : Nat) : (stN r q).Pairwise (· < ·) := by
  have nd : (((ord r).take q).map fun p => 1 + p.2).Nodup := by
    have h1 : ((ord r).map fun p => 1 + p.2).Nodup := by
      have pm : ((ord r).map fun p => 1 + p.2).Perm ((idx r).map fun p => 1 + p.2) := (sortP_perm _).map _
      refine pm.symm.nodup ?_
      unfold idx
      rw [List.map_map]
      have : ((fun p : Int × Int => 1 + p.2) ∘ fun i : Nat => (-(sp r (i + 1)), (i : Int))) = fun i : Nat => 1 + (i : Int) := rfl
      rw [this]
      refine List.Pairwise.map _ (fun a b h => ?_) List.nodup_range
      show (1 : Int) + (a : Int) ≠ 1 + (b : Int)
      omega
    rw [List.map_take]
    exact h1.sublist (List.take_sublist _ _)
  have nd2 := (stS_perm r q).symm.nodup nd
  have le := sortI_sorted (((ord r).take q).map fun p => 1 + p.2)
  have lt : (stS r q).Pairwise (· < ·) := by
    have : (stS r q).Pairwise (fun a b => a ≤ b ∧ a ≠ b) := List.pairwise_and_iff.mpr ⟨le, nd2⟩
    exact this.imp fun h => by omega
  unfold stN
  rw [List.pairwise_map]
  refine List.Pairwise.imp_of_mem (fun {a b} ha hb h => ?_) lt
  obtain ⟨i, _, rfl, _⟩ := stS_mem ha
  obtain ⟨j, _, rfl, _⟩ := stS_mem hb
  omega
theorem open_first {r : List Row} {q k j : Nat} (hk : k ∈ stN r q) (h0 : 0 < j) (hj : j < r.length) (hn : j ∉ stN r q) : sp r j < sp r k ∨ (sp r j = sp r k ∧ k < j) := by
  obtain ⟨k0, k1, kp⟩ := stN_mem.mp hk
  have jo : (-(sp r j), ((j - 1 : Nat) : Int)) ∈ ord r := mem_ord.mpr ⟨j - 1, by omega, by rw [show j - 1 + 1 = j by omega]⟩
  rw [← List.take_append_drop q (ord r)] at jo
  have jd : (-(sp r j), ((j - 1 : Nat) : Int)) ∈ (ord r).drop q := by
    rcases List.mem_append.mp jo with h | h
    · exact absurd (stN_mem.mpr ⟨h0, hj, h⟩) hn
    · exact h
  have so := sortP_sorted (idx r)
  change (ord r).Pairwise LeP at so
  rw [← List.take_append_drop q (ord r)] at so
  have := (List.pairwise_append.mp so).2.2 _ kp _ jd
  rw [leP_iff] at this
  have ne : k ≠ j := fun z => hn (z ▸ hk)
  simp only at this
  omega
theorem keysOf_all {fk : Ef} {cap : D} {f : Int → Int} : ∀ {l : List Int}, (∀ i ∈ l, fk [.fz (.int i), .fz cap] = some (.int (f i))) → keysOf fk cap l = some (l.map f)
  | [], _ => rfl
  | i :: r, h => by
    unfold keysOf
    rw [h i (by simp), Option.bind_some]
    dsimp only
    rw [keysOf_all fun j hj => h j (by simp [hj])]
    rfl
theorem intsD_map : ∀ l : List Int, intsD (l.map D.int) = some l
  | [] => rfl
  | i :: r => by
    rw [List.map_cons]
    unfold intsD
    rw [intsD_map r]
    rfl
theorem sort_key {r : List Row} (hr : r.length ≤ 63) (m : Int) : lSortLam 0 (eC (.int 1)) (eLen (eV 0)) (eNeg (eCall 2 d_space_ahead (aCons (eV 1) (aCons (eV 0) aNil)))) [.fz (.lst (encRs r)), .fz (.int m), .no] = some ((ord r).map fun p => .int (1 + p.2)) := by
  have hl : (encRs r).length = r.length := by simp [encRs]
  have hk : keysOf (eNeg (eCall 2 d_space_ahead (aCons (eV 1) (aCons (eV 0) aNil)))) (.lst (encRs r)) ((List.range ((r.length : Int) - 1).toNat).map fun (k : Nat) => (1 : Int) + k) = some (((List.range ((r.length : Int) - 1).toNat).map fun (k : Nat) => (1 : Int) + k).map fun i => -(sp r i.toNat)) := by
    refine keysOf_all fun i hi => ?_
    obtain ⟨k, hk, rfl⟩ := List.mem_map.mp hi
    rw [List.mem_range] at hk
    unfold eNeg
    rw [call2 rfl rfl, show (1 : Int) + (k : Nat) = ((k + 1 : Nat) : Int) by omega, space_eq (Nat.succ_pos _) (by omega), Int.toNat_natCast]
    rfl
  unfold lSortLam
  rw [show eC (.int 1) [.fz (.lst (encRs r)), .fz (.int m), .no] = some (.int 1) from rfl, Option.bind_some, show eLen (eV 0) [.fz (.lst (encRs r)), .fz (.int m), .no] = some (.int (r.length : Nat)) from by rw [← hl]; rfl, Option.bind_some, show getB [.fz (.lst (encRs r)), .fz (.int m), .no] 0 = some (.lst (encRs r)) from rfl, Option.bind_some]
  dsimp only
  rw [if_pos (by simp; omega), hk]
  show some (sortKs 1 _) = _
  unfold sortKs ord idx
  have e : ((List.range ((r.length : Int) - 1).toNat).map fun (k : Nat) => (1 : Int) + k).map (fun i => -(sp r i.toNat)) = (List.range (r.length - 1)).map fun i => -(sp r (i + 1)) := by
    rw [List.map_map, show ((r.length : Int) - 1).toNat = r.length - 1 by omega]
    refine List.map_congr_left fun i _ => ?_
    show -(sp r ((1 : Int) + (i : Nat)).toNat) = _
    rw [show ((1 : Int) + (i : Nat)).toNat = i + 1 by omega]
  rw [e, List.length_map, List.length_range]
  congr 3
  refine List.map_congr_left fun i hi => ?_
  rw [List.mem_range] at hi
  simp [hi]
noncomputable def covM (r : List Row) (q : Nat) : List Row := if r.length = 0 then [] else seg r 0 (stN r q) r.length
theorem cover_eq {r : List Row} (hr : r.length ≤ 63) {m : Int} (hm : 1 ≤ m) : d_cover [.lst (encRs r), .int m] = some (encRs (covM r (m - 1).toNat)) := by
  show (B_cover_0 [.fz (.lst (encRs r)), .fz (.int m), .no]).bind outL = _
  unfold B_cover_0
  rw [sSeq_nx (ρ' := [.fz (.lst (encRs r)), .fz (.int m), .fz (.lst ((ord r).map fun p => .int (1 + p.2)))]) (by unfold sSet; rw [eL_eq (sort_key hr m)]; rfl)]
  unfold B_cover_1 sRetL
  have hcut : lSlice (eV 2) oNo (oSome (eSub (eV 1) (eC (.int 1)))) [.fz (.lst (encRs r)), .fz (.int m), .fz (.lst ((ord r).map fun p => .int (1 + p.2)))] = some ((((ord r).take (m - 1).toNat).map fun p => 1 + p.2).map D.int) := by
    show some (cutD ((ord r).map fun p => .int (1 + p.2)) none (some (m - 1))) = _
    unfold cutD
    rw [HT.sIx_none, List.drop_zero, Nat.sub_zero, List.length_map, List.map_take.symm]
    obtain ⟨q, hq⟩ : ∃ q : Nat, m - 1 = (q : Int) := ⟨(m - 1).toNat, by omega⟩
    rw [hq, HT.sIx_nat, Int.toNat_natCast, List.map_map]
    congr 2
    by_cases h : q ≤ (ord r).length
    · rw [Nat.min_eq_left h]
    · rw [Nat.min_eq_right (by omega), List.take_of_length_le (Nat.le_refl _), List.take_of_length_le (by omega)]
  have hsort : eL (lSorted (lSlice (eV 2) oNo (oSome (eSub (eV 1) (eC (.int 1)))))) [.fz (.lst (encRs r)), .fz (.int m), .fz (.lst ((ord r).map fun p => .int (1 + p.2)))] = some (.lst ((stN r (m - 1).toNat).map nI)) := by
    refine eL_eq ?_
    unfold lSorted
    rw [hcut, Option.bind_some, intsD_map, Option.bind_some, if_pos (by rw [List.length_map, List.length_take, ord_len]; omega)]
    rw [← stS_eq]
    rfl
  rw [lcall2 rfl hsort]
  unfold covM
  by_cases h0 : r.length = 0
  · rw [if_pos h0]
    have : r = [] := List.length_eq_zero_iff.mp h0
    subst this
    rfl
  · rw [if_neg h0, joined_eq (by omega) (by omega) (by rw [stN_len]; omega) fun k hk => ⟨(stN_mem.mp hk).1, (stN_mem.mp hk).2.1⟩]
    rfl
end My

namespace My
open PySem L2
theorem seg_len (r : List Row) : ∀ (l : List Nat) (a n : Nat), (seg r a l n).length = l.length + 1
  | [], _, _ => rfl
  | s :: l, a, n => by show (seg r s l n).length + 1 = _; rw [seg_len r l s n]; rfl
theorem seg_all (r : List Row) : ∀ (j a : Nat), a + 1 + j = r.length → seg r a (List.range' (a + 1) j) r.length = r.drop a
  | 0, a, h => by
    show [((rAt r a).1, (rAt r (r.length - 1)).2)] = _
    rw [show r.length - 1 = a by omega, List.drop_eq_getElem_cons (by omega), List.drop_of_length_le (by omega)]
    unfold rAt
    simp [show a < r.length by omega]
  | j + 1, a, h => by
    rw [List.range'_succ]
    show ((rAt r a).1, (rAt r (a + 1 - 1)).2) :: seg r (a + 1) _ _ = _
    have e : rAt r a = r[a] := by unfold rAt; simp [show a < r.length by omega]
    rw [seg_all r j (a + 1) (by omega), List.drop_eq_getElem_cons (show a < r.length by omega), Nat.add_sub_cancel, e]
theorem stN_all {r : List Row} {q : Nat} (h : r.length - 1 ≤ q) : stN r q = List.range' 1 (r.length - 1) := by
  have e : stS r q = (List.range (r.length - 1)).map fun i : Nat => (1 : Int) + i := by
    refine sorted_one ((stS_perm r q).trans ?_) (sortI_sorted _) ?_
    · rw [List.take_of_length_le (by rw [ord_len]; exact h)]
      have : ((ord r).map fun p => 1 + p.2).Perm ((idx r).map fun p => 1 + p.2) := (sortP_perm _).map _
      refine this.trans ?_
      unfold idx
      rw [List.map_map]
      exact .refl _
    · rw [List.pairwise_map]
      exact List.pairwise_lt_range.imp fun {a b} h => by show (1 : Int) + (a : Int) ≤ 1 + (b : Int); omega
  unfold stN
  rw [e, List.map_map, List.range_eq_range', show List.range' 1 (r.length - 1) = (List.range' 0 (r.length - 1)).map (1 + ·) from by rw [List.map_add_range']]
  refine List.map_congr_left fun i _ => ?_
  show ((1 : Int) + (i : Nat)).toNat = 1 + i
  omega
theorem cov_all {r : List Row} {q : Nat} (h : r.length - 1 ≤ q) : covM r q = r := by
  unfold covM
  split
  · rename_i h0
    rw [List.length_eq_zero_iff.mp h0]
  · rename_i h0
    rw [stN_all h, seg_all r (r.length - 1) 0 (by omega), List.drop_zero]
theorem ends_rise {r : List Row} (hR : Rising r) : ∀ {e a : Nat}, a < e → e < r.length → (rAt r a).2 < (rAt r e).2
  | 0, _, h, _ => absurd h (Nat.not_lt_zero _)
  | e + 1, a, h, he => by
    obtain ⟨h1, h2⟩ := hR (e + 1) he
    have h2 := h2 (by omega)
    rw [Nat.add_sub_cancel] at h2
    rcases Nat.lt_or_ge a e with z | z
    · have := ends_rise hR z (by omega)
      omega
    · have : a = e := by omega
      subst this
      omega
noncomputable def gp (r : List Row) (k : Nat) : Row := (-((rAt r k).1 - (rAt r (k - 1)).2), (k : Int))
theorem gp_eq {r : List Row} {ρ : List B} {k : Nat} (h0 : eV 0 ρ = some (.lst (encRs r))) (h2 : eV 2 ρ = some (.int (k : Nat))) (k0 : 0 < k) (k1 : k < r.length) :
    eTup (aCons (eNeg (eSub (eIx (eIx (eV 0) (eV 2)) (eC (.int 0))) (eIx (eIx (eV 0) (eSub (eV 2) (eC (.int 1)))) (eC (.int 1))))) (aCons (eV 2) aNil)) ρ = some (encR (gp r k)) := by
  unfold eTup
  rw [aCons_eq (d := .int (gp r k).1) (by
    unfold eNeg
    rw [show eSub (eIx (eIx (eV 0) (eV 2)) (eC (.int 0))) (eIx (eIx (eV 0) (eSub (eV 2) (eC (.int 1)))) (eC (.int 1))) ρ = some (.int ((rAt r k).1 - (rAt r (k - 1)).2)) from eI_eq (ix_fst (ix_row h0 h2 k1)) (ix_snd (ix_row h0 (sub_nat h2 k0) (by omega))) rfl]
    rfl) (aCons_eq h2 rfl)]
  rfl
noncomputable abbrev Wk (r : List Row) (f : D) (k : Nat) (op sh : List Row) (pr : B) : List B := [.fz (.lst (encRs r)), .fz f, .fz (.int (k : Nat)), .ow (encRs op), .ow (encRs sh), pr]
theorem enc_app (l : List Row) (x : Row) : encRs l ++ [encR x] = encRs (l ++ [x]) := by simp [encRs]
theorem enc_len (l : List Row) : (encRs l).length = l.length := by simp [encRs]
theorem len0 {r : List Row} {f : D} {k : Nat} {op sh : List Row} {pr : B} : eLen (eV 0) (Wk r f k op sh pr) = some (.int (r.length : Nat)) := by rw [← enc_len r]; rfl
theorem at_len {r : List Row} {f : D} {k : Nat} {op sh : List Row} {pr : B} : eB2 gEq (eV 2) (eLen (eV 0)) (Wk r f k op sh pr) = some (decide ((k : Int) = (r.length : Nat))) := by
  unfold eB2
  rw [len0]
  rfl
theorem app_shut {r : List Row} {f : D} {k : Nat} {op sh : List Row} {pr : B} (hs : sh.length ≤ 1000) (k0 : 0 < k) (k1 : k < r.length) :
    sApp 4 (eTup (aCons (eNeg (eSub (eIx (eIx (eV 0) (eV 2)) (eC (.int 0))) (eIx (eIx (eV 0) (eSub (eV 2) (eC (.int 1)))) (eC (.int 1))))) (aCons (eV 2) aNil))) (Wk r f k op sh pr) = some (.nx (Wk r f k op (sh ++ [gp r k]) pr)) := by
  unfold sApp
  rw [gp_eq (r := r) (k := k) rfl rfl k0 k1, Option.bind_some]
  show (if (encRs sh).length < lim then some (Out.nx [.fz (.lst (encRs r)), .fz f, .fz (.int (k : Nat)), .ow (encRs op), .ow (encRs sh ++ [encR (gp r k)]), pr]) else none) = _
  rw [if_pos (by show (encRs sh).length < 100000; rw [enc_len]; omega), enc_app]
theorem app_open {r : List Row} {f : D} {k : Nat} {op sh : List Row} {pr : B} (hs : op.length ≤ 1000) (k0 : 0 < k) (k1 : k < r.length) :
    sApp 3 (eTup (aCons (eNeg (eSub (eIx (eIx (eV 0) (eV 2)) (eC (.int 0))) (eIx (eIx (eV 0) (eSub (eV 2) (eC (.int 1)))) (eC (.int 1))))) (aCons (eV 2) aNil))) (Wk r f k op sh pr) = some (.nx (Wk r f k (op ++ [gp r k]) sh pr)) := by
  unfold sApp
  rw [gp_eq (r := r) (k := k) rfl rfl k0 k1, Option.bind_some]
  show (if (encRs op).length < lim then some (Out.nx [.fz (.lst (encRs r)), .fz f, .fz (.int (k : Nat)), .ow (encRs op ++ [encR (gp r k)]), .ow (encRs sh), pr]) else none) = _
  rw [if_pos (by show (encRs op).length < 100000; rw [enc_len]; omega), enc_app]
theorem shut_eq {r : List Row} (hR : Rising r) {f : D} {op : List Row} {x : Int} {e : Nat} (he : e < r.length) : ∀ (d fuel a : Nat) (sh : List Row), a + d = e → d < fuel → sh.length + d ≤ 1000 →
    whileF (eB2 gNe (eIx (eIx (eV 0) (eV 2)) (eC (.int 1))) (eIx (eV 5) (eC (.int 1)))) (sSeq (sSet 2 (eAdd (eV 2) (eC (.int 1))))
      (sSeq (sIf (eB2 gEq (eV 2) (eLen (eV 0))) (sRet (eC .non)) sNil)
      (sApp 4 (eTup (aCons (eNeg (eSub (eIx (eIx (eV 0) (eV 2)) (eC (.int 0))) (eIx (eIx (eV 0) (eSub (eV 2) (eC (.int 1)))) (eC (.int 1))))) (aCons (eV 2) aNil)))))) fuel (Wk r f a op sh (.fz (encR (x, (rAt r e).2)))) = some (.nx (Wk r f e op (sh ++ (List.range' (a + 1) d).map (gp r)) (.fz (encR (x, (rAt r e).2))))) := by
  have tst : ∀ (a : Nat) (sh : List Row), a < r.length → eB2 gNe (eIx (eIx (eV 0) (eV 2)) (eC (.int 1))) (eIx (eV 5) (eC (.int 1))) (Wk r f a op sh (.fz (encR (x, (rAt r e).2)))) = some (!decide ((rAt r a).2 = (rAt r e).2)) := by
    intro a sh ha
    unfold eB2
    rw [ix_snd (ix_row (r := r) (k := a) rfl rfl ha), Option.bind_some, ix_snd (x := (x, (rAt r e).2)) rfl]
    rfl
  intro d
  induction d with
  | zero =>
    intro fuel a sh h1 h2 h3
    obtain ⟨n, rfl⟩ : ∃ n, fuel = n + 1 := ⟨fuel - 1, by omega⟩
    have : a = e := by omega
    subst this
    unfold whileF
    rw [tst a sh he, Option.bind_some, if_neg (by simp)]
    simp
  | succ d ih =>
    intro fuel a sh h1 h2 h3
    obtain ⟨n, rfl⟩ : ∃ n, fuel = n + 1 := ⟨fuel - 1, by omega⟩
    have lt := ends_rise hR (show a < e by omega) he
    have e1 : ((a : Int) + 1) = ((a + 1 : Nat) : Int) := by omega
    unfold whileF
    rw [tst a sh (by omega), Option.bind_some, if_pos (by simp; omega)]
    rw [sSeq_nx (ρ' := Wk r f (a + 1) op sh (.fz (encR (x, (rAt r e).2)))) (by
      show some (Out.nx [_, _, .fz (.int ((a : Int) + 1)), _, _, _]) = _
      rw [e1]), sSeq_nx (ρ' := Wk r f (a + 1) op sh (.fz (encR (x, (rAt r e).2)))) (by
      unfold sIf
      rw [at_len, decide_eq_false (by omega)]
      rfl), app_shut (by omega) (by omega) (by omega), Option.bind_some]
    dsimp only
    rw [ih n (a + 1) (sh ++ [gp r (a + 1)]) (by omega) (by omega) (by simp; omega), List.range'_succ, List.map_cons, List.append_assoc]
    rfl
theorem turn_eq {r : List Row} (hR : Rising r) (hr : r.length ≤ 63) {f : D} {op sh : List Row} {a e : Nat} (ha : a ≤ e) (he : e < r.length) (ho : op.length ≤ 1000) (hs : sh.length ≤ 900) :
    L1_law_walked_0 (Wk r f a op sh (.fz (encR ((rAt r a).1, (rAt r e).2)))) = some (.nx (Wk r f (e + 1) (op ++ if 0 < a then [gp r a] else []) (sh ++ (List.range' (a + 1) (e - a)).map (gp r)) (.fz (encR ((rAt r a).1, (rAt r e).2))))) := by
  unfold L1_law_walked_0
  rw [sSeq_nx (ρ' := Wk r f a op sh (.fz (encR ((rAt r a).1, (rAt r e).2)))) (by
    unfold sIf
    rw [or_no (by rw [at_len, decide_eq_false (by omega)]) (by
      unfold eB2
      rw [ix_fst (x := ((rAt r a).1, (rAt r e).2)) rfl, Option.bind_some, ix_fst (ix_row (r := r) (k := a) rfl rfl (by omega)), Option.bind_some]
      show some (!decide ((rAt r a).1 = (rAt r a).1)) = _
      simp)]
    rfl)]
  unfold L1_law_walked_1
  rw [sSeq_nx (ρ' := Wk r f a (op ++ if 0 < a then [gp r a] else []) sh (.fz (encR ((rAt r a).1, (rAt r e).2)))) (by
    unfold sIf
    rw [show eB2 gGt (eV 2) (eC (.int 0)) (Wk r f a op sh (.fz (encR ((rAt r a).1, (rAt r e).2)))) = some (decide ((0 : Int) < (a : Nat))) from rfl, Option.bind_some]
    by_cases h : 0 < a
    · rw [if_pos (by simpa using h), if_pos h]
      exact app_open ho h (by omega)
    · rw [if_neg (by simpa using h), if_neg h, List.append_nil]
      rfl)]
  unfold L1_law_walked_2
  rw [sSeq_nx (shut_eq hR he (e - a) 100 a sh (by omega) (by omega) (by omega))]
  unfold L1_law_walked_3
  rw [Wk]
  show some (Out.nx [.fz (.lst (encRs r)), .fz f, .fz (.int ((e : Int) + 1)), _, _, _]) = _
  rw [show ((e : Int) + 1) = ((e + 1 : Nat) : Int) by omega]
noncomputable def shutM (r : List Row) : Nat → List Nat → List Row
  | a, [] => (List.range' (a + 1) (r.length - 1 - a)).map (gp r)
  | a, s :: l => (List.range' (a + 1) (s - 1 - a)).map (gp r) ++ shutM r s l
theorem shutM_len {r : List Row} : ∀ (l : List Nat) (a : Nat), a < r.length → (∀ k ∈ l, a < k ∧ k < r.length) → l.Pairwise (· < ·) → (shutM r a l).length + l.length + a + 1 = r.length
  | [], a, ha, _, _ => by
    simp [shutM]; omega
  | s :: l, a, ha, hl, hp => by
    obtain ⟨p1, p2⟩ := List.pairwise_cons.mp hp
    obtain ⟨h0, h1⟩ := hl s (by simp)
    have := shutM_len (r := r) l s h1 (fun k hk => ⟨p1 k hk, (hl k (by simp [hk])).2⟩) p2
    simp [shutM]; omega
theorem shutM_mem {r : List Row} : ∀ (l : List Nat) (a : Nat), a < r.length → (∀ k ∈ l, a < k ∧ k < r.length) → l.Pairwise (· < ·) → ∀ x ∈ shutM r a l, ∃ k, x = gp r k ∧ a < k ∧ k < r.length ∧ k ∉ l
  | [], a, ha, _, _, x, hx => by
    obtain ⟨k, hk, rfl⟩ := List.mem_map.mp hx
    rw [List.mem_range'_1] at hk
    exact ⟨k, rfl, by omega, by omega, by simp⟩
  | s :: l, a, ha, hl, hp, x, hx => by
    obtain ⟨p1, p2⟩ := List.pairwise_cons.mp hp
    obtain ⟨h0, h1⟩ := hl s (by simp)
    rcases List.mem_append.mp hx with h | h
    · obtain ⟨k, hk, rfl⟩ := List.mem_map.mp h
      rw [List.mem_range'_1] at hk
      refine ⟨k, rfl, by omega, by omega, fun z => ?_⟩
      rcases List.mem_cons.mp z with z | z
      · omega
      · have := p1 k z; omega
    · obtain ⟨k, e, k0, k1, kn⟩ := shutM_mem (r := r) l s h1 (fun k hk => ⟨p1 k hk, (hl k (by simp [hk])).2⟩) p2 x h
      refine ⟨k, e, by omega, k1, fun z => ?_⟩
      rcases List.mem_cons.mp z with z | z
      · omega
      · exact kn z
theorem walk_eq {r : List Row} (hR : Rising r) (hr : r.length ≤ 63) {f : D} : ∀ (l : List Nat) (a : Nat) (op sh : List Row) (pr : B), a < r.length → (∀ k ∈ l, a < k ∧ k < r.length) → l.Pairwise (· < ·) → op.length + l.length ≤ 500 → sh.length ≤ a →
    ∃ pr', forF (gN 5) L1_law_walked_0 (encRs (seg r a l r.length)) (Wk r f a op sh pr) = some (.nx (Wk r f r.length (op ++ (if 0 < a then [gp r a] else []) ++ l.map (gp r)) (sh ++ shutM r a l) pr'))
  | [], a, op, sh, pr, ha, _, _, ho, hs => by
    refine ⟨.fz (encR ((rAt r a).1, (rAt r (r.length - 1)).2)), ?_⟩
    show forF (gN 5) L1_law_walked_0 [encR ((rAt r a).1, (rAt r (r.length - 1)).2)] _ = _
    rw [forF_nx (ρ1 := Wk r f a op sh (.fz (encR ((rAt r a).1, (rAt r (r.length - 1)).2)))) rfl (turn_eq hR hr (by omega) (by omega) (by simp at ho; omega) (by omega)), show r.length - 1 + 1 = r.length by omega, List.map_nil, List.append_nil]
    rfl
  | s :: l, a, op, sh, pr, ha, hl, hp, ho, hs => by
    obtain ⟨p1, p2⟩ := List.pairwise_cons.mp hp
    obtain ⟨h0, h1⟩ := hl s (by simp)
    rw [List.length_cons] at ho
    obtain ⟨pr', e⟩ := walk_eq hR hr (f := f) l s (op ++ if 0 < a then [gp r a] else []) (sh ++ (List.range' (a + 1) (s - 1 - a)).map (gp r)) (.fz (encR ((rAt r a).1, (rAt r (s - 1)).2))) h1 (fun k hk => ⟨p1 k hk, (hl k (by simp [hk])).2⟩) p2 (by rw [List.length_append]; split <;> simp <;> omega) (by simp; omega)
    refine ⟨pr', ?_⟩
    show forF (gN 5) L1_law_walked_0 (encR ((rAt r a).1, (rAt r (s - 1)).2) :: encRs (seg r s l r.length)) _ = _
    rw [forF_nx (ρ1 := Wk r f a op sh (.fz (encR ((rAt r a).1, (rAt r (s - 1)).2)))) rfl (turn_eq hR hr (by omega) (by omega) (by omega) (by omega)), show s - 1 + 1 = s by omega, e, if_pos (show 0 < s by omega), List.map_cons]
    simp [shutM]
theorem walked_eq {r : List Row} (hR : Rising r) (hr : r.length ≤ 63) (h1 : 0 < r.length) {l : List Nat} (hl : ∀ k ∈ l, 0 < k ∧ k < r.length) (hp : l.Pairwise (· < ·)) : d_law_walked [.lst (encRs r), .lst (encRs (seg r 0 l r.length))] = some (.tup [.lst (encRs (l.map (gp r))), .lst (encRs (shutM r 0 l))]) := by
  have hlen := shutM_len (r := r) l 0 h1 hl hp
  obtain ⟨pr', e⟩ := walk_eq hR hr (f := .lst (encRs (seg r 0 l r.length))) l 0 [] [] .no h1 hl hp (by simp; omega) (by simp)
  show (B_law_walked_0 [.fz (.lst (encRs r)), .fz (.lst (encRs (seg r 0 l r.length))), .no, .no, .no, .no]).bind outD = _
  unfold B_law_walked_0
  refine seqset (d := .int 0) rfl ?_
  unfold B_law_walked_1
  refine seq_out (ρ' := [.fz (.lst (encRs r)), .fz (.lst (encRs (seg r 0 l r.length))), .fz (.int 0), .ow [], .no, .no]) rfl ?_
  unfold B_law_walked_2
  refine seq_out (ρ' := [.fz (.lst (encRs r)), .fz (.lst (encRs (seg r 0 l r.length))), .fz (.int 0), .ow [], .ow [], .no]) rfl ?_
  unfold B_law_walked_3
  refine seq_out (ρ' := Wk r (.lst (encRs (seg r 0 l r.length))) r.length (l.map (gp r)) (shutM r 0 l) pr') ?_ ?_
  · unfold sFor
    show (some (encRs (seg r 0 l r.length))).bind _ = _
    rw [Option.bind_some]
    exact e
  unfold B_law_walked_4
  refine seqif ?_ ?_
  · unfold eB2
    rw [len0]
    show some (decide ((r.length : Int) < (r.length : Nat))) = _
    simp
  · rfl
end My

namespace My
open PySem L2
theorem getD_in {l : List Row} {i : Nat} (h : i < l.length) : l.getD i (0, 0) ∈ l := by
  rw [List.getD_eq_getElem?_getD, List.getElem?_eq_getElem h]
  exact List.getElem_mem h
theorem max_in {l : List Row} (h : 0 < l.length) : best_max l ∈ l := getD_in (ix_max_lt h)
theorem min_in {l : List Row} (h : 0 < l.length) : best_min l ∈ l := getD_in (ix_min_lt h)
theorem max_eq {f : Ef} {ρ : List B} {l : List Row} (hf : f ρ = some (.lst (encRs l))) (h : 0 < l.length) : e_maxQ (iL f) ρ = some (dP (best_max l)) := by
  unfold e_maxQ iL
  rw [hf]
  show (unPs (l.map dP)).bind _ = _
  rw [unPs_map, Option.bind_some, if_pos h]
theorem min_eq {f : Ef} {ρ : List B} {l : List Row} (hf : f ρ = some (.lst (encRs l))) (h : 0 < l.length) : e_minQ (iL f) ρ = some (dP (best_min l)) := by
  unfold e_minQ iL
  rw [hf]
  show (unPs (l.map dP)).bind _ = _
  rw [unPs_map, Option.bind_some, if_pos h]
theorem gp_lt {r : List Row} {k j : Nat} (h : sp r j < sp r k ∨ (sp r j = sp r k ∧ k < j)) : lxLt (gp r k) (gp r j) = true := by
  rw [lxLt_iff]
  unfold sp at h
  unfold gp
  dsimp only
  omega
theorem good_eq {r : List Row} (hR : Rising r) (hr : r.length ≤ 63) {m : Int} (hm : 1 ≤ m) : d_law_good [.lst (encRs r), .int m] = some (.bl true) := by
  have hc := cover_eq hr hm
  generalize hC : covM r (m - 1).toNat = C at hc
  have hCl : C.length ≤ 63 := by
    rw [← hC]
    unfold covM
    split
    · simp
    · rw [seg_len, stN_len]; omega
  have p50 : eTup (aCons (ePow (eC (.int 10)) (eC (.int 50))) (aCons (ePow (eC (.int 10)) (eC (.int 50))) aNil)) = fun _ => some (.tup [.int (10 ^ 50), .int (10 ^ 50)]) := rfl
  show (B_law_good_0 [.fz (.lst (encRs r)), .fz (.int m), .no, .no, .no, .no]).bind outD = _
  unfold B_law_good_0
  refine seq_out (ρ' := [.fz (.lst (encRs r)), .fz (.int m), .ow (encRs r), .no, .no, .no]) rfl ?_
  unfold B_law_good_1
  refine seq_out (ρ' := [.fz (.lst (encRs r)), .fz (.int m), .ow (encRs r), .ow (encRs C), .no, .no]) (by
    unfold sOwn
    rw [lLend_eq (ρ' := [.fz (.lst (encRs r)), .fz (.int m), .fz (.lst (encRs r)), .no, .no, .no]) rfl rfl ((lcall2 rfl rfl).trans hc) (flats_rows _)]
    rfl) ?_
  unfold B_law_good_2
  refine seq_out (ρ' := [.fz (.lst (encRs r)), .fz (.int m), .ow (encRs r), .ow (encRs C), .no, .no]) (by
    unfold sIf
    rw [tLend_eq (ρ' := [.fz (.lst (encRs r)), .fz (.int m), .ow (encRs r), .fz (.lst (encRs C)), .no, .no]) rfl rfl (tLend_eq (ρ' := [.fz (.lst (encRs r)), .fz (.int m), .fz (.lst (encRs r)), .fz (.lst (encRs C)), .no, .no]) rfl rfl
      (or_no (not_t ((call1 rfl).trans (pairs_eq _))) (ne_rows (r := r) rfl rfl)))]
    rfl) ?_
  unfold B_law_good_3
  refine seqset (d := .lst (encRs C)) (eL_eq (lLend_eq (ρ' := [.fz (.lst (encRs r)), .fz (.int m), .ow (encRs r), .fz (.lst (encRs C)), .no, .no]) rfl rfl rfl (flats_rows _))) ?_
  unfold B_law_good_4
  refine seq_out (ρ' := [.fz (.lst (encRs r)), .fz (.int m), .ow (encRs r ++ [.tup [.int (10 ^ 50), .int (10 ^ 50)]]), .ow (encRs C), .fz (.lst (encRs C)), .no]) (by
    unfold sApp
    rw [p50, Option.bind_some]
    show (if (encRs r).length < lim then _ else none) = _
    rw [if_pos (by show (encRs r).length < 100000; rw [enc_len]; omega)]; rfl) ?_
  unfold B_law_good_5
  refine seq_out (ρ' := [.fz (.lst (encRs r)), .fz (.int m), .ow (encRs r ++ [.tup [.int (10 ^ 50), .int (10 ^ 50)]]), .ow (encRs C), .fz (.lst (encRs C)), .no]) (by
    unfold sIf
    rw [tLend_eq (ρ' := [.fz (.lst (encRs r)), .fz (.int m), .ow (encRs r ++ [.tup [.int (10 ^ 50), .int (10 ^ 50)]]), .fz (.lst (encRs C)), .fz (.lst (encRs C)), .no]) rfl rfl (ne_rows (r := C) rfl rfl)]
    rfl) ?_
  unfold B_law_good_6
  refine seq_out (ρ' := [.fz (.lst (encRs r)), .fz (.int m), .ow (encRs r ++ [.tup [.int (10 ^ 50), .int (10 ^ 50)]]), .ow (encRs C ++ [.tup [.int 0, .int 0]]), .fz (.lst (encRs C)), .no]) (by
    unfold sApp
    show (some (D.tup [.int 0, .int 0])).bind _ = _
    rw [Option.bind_some]
    show (if (encRs C).length < lim then _ else none) = _
    rw [if_pos (by show (encRs C).length < 100000; rw [enc_len]; omega)]; rfl) ?_
  unfold B_law_good_7
  refine seqset (d := .lst (encRs C)) (eL_eq ((lcall2 (x := .lst (encRs r)) rfl rfl).trans hc)) ?_
  unfold B_law_good_8
  refine seqif (ne_rows (r := C) rfl rfl) ?_
  unfold B_law_good_9
  have tle : ∀ (b : B), eB2 gLe (eLen (eV 0)) (eV 1) [.fz (.lst (encRs r)), .fz (.int m), .ow (encRs r ++ [.tup [.int (10 ^ 50), .int (10 ^ 50)]]), .fz (.lst (encRs C)), .fz (.lst (encRs C)), b] = some (decide ((r.length : Int) ≤ m)) := fun b => by rw [← enc_len r]; rfl
  show (sSeq _ _ [.fz (.lst (encRs r)), .fz (.int m), .ow (encRs r ++ [.tup [.int (10 ^ 50), .int (10 ^ 50)]]), .fz (.lst (encRs C)), .fz (.lst (encRs C)), .no]).bind outD = _
  by_cases hle : (r.length : Int) ≤ m
  · rw [sSeq_rt (d := .bl true) (by
      unfold sIf
      rw [tle, decide_eq_true hle, Option.bind_some, if_pos rfl]
      have e : C = r := by rw [← hC]; exact cov_all (by omega)
      rw [e]
      unfold sRet eOfT
      rw [show eB2 gEqD (eV 3) (eV 0) [.fz (.lst (encRs r)), .fz (.int m), .ow (encRs r ++ [.tup [.int (10 ^ 50), .int (10 ^ 50)]]), .fz (.lst (encRs r)), .fz (.lst (encRs r)), .no] = some true from eq_rows r]
      rfl)]
    rfl
  · refine seqif (by rw [tle, decide_eq_false hle]) ?_
    have hn0 : 0 < r.length := by omega
    have eC : C = seg r 0 (stN r (m - 1).toNat) r.length := by rw [← hC]; unfold covM; rw [if_neg (by omega)]
    have hmem : ∀ k ∈ stN r (m - 1).toNat, 0 < k ∧ k < r.length := fun k hk => ⟨(stN_mem.mp hk).1, (stN_mem.mp hk).2.1⟩
    have hlt := stN_lt r (m - 1).toNat
    have hw := walked_eq hR hr hn0 hmem hlt
    rw [← eC] at hw
    have hsl := stN_len r (m - 1).toNat
    have hsh := shutM_len (r := r) _ 0 hn0 hmem hlt
    have hCm : (C.length : Int) = m := by rw [eC, seg_len, hsl]; omega
    unfold B_law_good_10
    refine seqset ((call2 rfl rfl).trans hw) ?_
    unfold B_law_good_11
    refine seqif (or_no (by
      unfold eB2
      rw [show eLen (eV 3) _ = some (.int (C.length : Nat)) from by rw [← enc_len C]; rfl, Option.bind_some]
      show some (!((C.length : Int) == m)) = _
      rw [hCm]
      simp) rfl) ?_
    unfold B_law_good_12 sRet
    generalize hop : (stN r (m - 1).toNat).map (gp r) = op
    generalize hsd : shutM r 0 (stN r (m - 1).toNat) = sh
    have hs0 : 0 < sh.length := by rw [← hsd]; omega
    show ((eOrV _ _ [.fz (.lst (encRs r)), .fz (.int m), .ow (encRs r ++ [.tup [.int (10 ^ 50), .int (10 ^ 50)]]), .fz (.lst (encRs C)), .fz (.lst (encRs C)), .fz (.tup [.lst (encRs op), .lst (encRs sh)])]).map Out.rt).bind outD = _
    have t0 : eB2 gEqD (eIx (eV 5) (L2.eC (.int 0))) (eL (lDisp aNil)) [.fz (.lst (encRs r)), .fz (.int m), .ow (encRs r ++ [.tup [.int (10 ^ 50), .int (10 ^ 50)]]), .fz (.lst (encRs C)), .fz (.lst (encRs C)), .fz (.tup [.lst (encRs op), .lst (encRs sh)])] = some (decide (op.length = 0)) := by
      show (if (encRs op).length = 0 then eqDs (eqD 7) (encRs op) [] else some false) = _
      rw [enc_len]
      by_cases h : op.length = 0
      · rw [if_pos h, List.length_eq_zero_iff.mp h]; rfl
      · rw [if_neg h]; simp [h]
    unfold eOrV
    rw [show tB1 (eOfT (eB2 gEqD (eIx (eV 5) (L2.eC (.int 0))) (eL (lDisp aNil)))) _ = some (decide (op.length = 0)) from by unfold tB1 eOfT; rw [t0]; rfl, Option.bind_some]
    by_cases h : op.length = 0
    · rw [if_pos (by simp [h])]; rfl
    · rw [if_neg (by simp [h])]
      have hb : lxLt (best_max op) (best_min sh) = true := by
        obtain ⟨k, hk, ek⟩ := List.mem_map.mp (hop ▸ max_in (l := op) (by omega))
        obtain ⟨j, ej, j0, j1, jn⟩ := shutM_mem (r := r) _ 0 hn0 hmem hlt _ (hsd ▸ min_in (l := sh) hs0)
        rw [← hop, ← hsd, ← ek, ej]
        exact gp_lt (open_first hk j0 j1 jn)
      unfold eOfT eB2
      rw [max_eq (l := op) rfl (by omega), Option.bind_some, min_eq (l := sh) rfl hs0, Option.bind_some]
      show ((((some (lxLt (best_max op) (best_min sh))).map D.bl).map Out.rt).bind outD) = _
      rw [hb]
      rfl
theorem law_turn {r : List Row} (hR : Rising r) (hr : r.length ≤ 63) {s v w : B} {m : Int} (hm : 1 ≤ m) : L1_law_0 [s, .fz (.lst (encRs r)), v, w, .fz (.int m)] = some (.nx [s, .fz (.lst (encRs r)), v, w, .fz (.int m)]) := by
  unfold L1_law_0 sIf
  rw [not_t ((call2 rfl rfl).trans (good_eq hR hr hm))]
  rfl
theorem law_true (ns : List Int) (hn : ns.length ≤ 63) : d_law [.lst (ns.map D.int)] = some (.bl true) := by
  obtain ⟨c0, h0⟩ := cell_eq ns 0
  obtain ⟨c1, h1⟩ := cell_eq ns 1
  obtain ⟨cs, hcs, hcl⟩ : ∃ cs : List Int, cs.length ≤ 63 ∧ lSlice (eV 0) (oSome (eC (.int 2))) (oSome (eC (.int 62))) [.fz (.lst (ns.map D.int)), .no, .no, .no, .no] = some (cs.map D.int) := by
    refine ⟨_, ?_, by
      show some (cutD (ns.map D.int) (some 2) (some 62)) = _
      unfold cutD
      rw [← List.map_drop, ← List.map_take]⟩
    rw [List.length_take, List.length_drop]; omega
  obtain ⟨r, hr, hR, hlist⟩ := list_eq cs hcs (c0 % 10 ^ 40)
  have hr' : r.length ≤ 63 := by omega
  obtain ⟨v, v0, hv⟩ := mix_eq c1 0 1000037 (by decide) (by decide) (by decide) (by decide)
  generalize hs : D.lst (ns.map D.int) = s at *
  have hlen : ∀ (a b c : B), eLen (eV 1) [.fz s, .fz (.lst (encRs r)), a, b, c] = some (.int (r.length : Nat)) := fun a b c => by rw [← enc_len r]; rfl
  obtain ⟨x, hx1, hx⟩ : ∃ x : Int, 1 ≤ x ∧ ∀ a b c : B, eMax (eC (.int 1)) (eLen (eV 1)) [.fz s, .fz (.lst (encRs r)), a, b, c] = some (.int x) := by
    by_cases h : (r.length : Int) > 1
    · refine ⟨r.length, by omega, fun a b c => ?_⟩
      unfold eMax
      rw [hlen]
      show some (D.int (if (r.length : Int) > 1 then _ else _)) = _
      rw [if_pos h]
    · refine ⟨1, by omega, fun a b c => ?_⟩
      unfold eMax
      rw [hlen]
      show some (D.int (if (r.length : Int) > 1 then _ else _)) = _
      rw [if_neg h]
  have hf0 := Int.emod_nonneg v (show x ≠ 0 by omega)
  show (B_law_0 [.fz s, .no, .no, .no, .no]).bind outD = _
  unfold B_law_0
  refine seqset (d := .lst (encRs r)) ((call2 (eL_eq hcl) (eI_eq ((call2 rfl rfl).trans h0) rfl rfl)).trans hlist) ?_
  unfold B_law_1
  refine seqset (d := .int v) ((call3 ((call2 rfl rfl).trans h1) rfl rfl).trans hv) ?_
  unfold B_law_2
  refine seqset (d := .int (1 + v % x)) (eI_eq rfl (eI_eq rfl (hx _ _ _) (decide_eq_true (by omega))) rfl) ?_
  unfold B_law_3
  have hw0 := Int.emod_nonneg (v / 100) (show (10 : Int) ^ 6 ≠ 0 by decide)
  generalize hw : v / 100 % 10 ^ 6 = w at hw0
  refine seq_out (ρ' := [.fz s, .fz (.lst (encRs r)), .fz (.int v), .fz (.int (1 + v % x)), .fz (.int (r.length + 1 + w))]) ?_ rfl
  unfold sFor
  show (lDisp _ [.fz s, .fz (.lst (encRs r)), .fz (.int v), .fz (.int (1 + v % x)), .no]).bind _ = _
  have hl : lDisp (aCons (eC (.int 1)) (aCons (eV 3) (aCons (eMax (eC (.int 1)) (eLen (eV 1))) (aCons (eAdd (eAdd (eLen (eV 1)) (eC (.int 1))) (eMod (eDiv (eV 2) (eC (.int 100))) (ePow (eC (.int 10)) (eC (.int 6))))) aNil)))) [.fz s, .fz (.lst (encRs r)), .fz (.int v), .fz (.int (1 + v % x)), .no] = some [.int 1, .int (1 + v % x), .int x, .int (r.length + 1 + w)] := by
    unfold lDisp
    rw [aCons_eq (d := .int 1) rfl (aCons_eq (d := .int (1 + v % x)) rfl (aCons_eq (hx _ _ _) (aCons_eq (d := .int (r.length + 1 + w)) (by rw [← hw]; exact eI_eq (eI_eq (hlen _ _ _) rfl rfl) (eI_eq (eI_eq rfl rfl rfl) rfl rfl) rfl) rfl)))]
    rfl
  rw [hl, Option.bind_some]
  rw [forF_nx (ρ1 := [.fz s, .fz (.lst (encRs r)), .fz (.int v), .fz (.int (1 + v % x)), .fz (.int 1)]) rfl (law_turn hR hr' (by omega)),
    forF_nx (ρ1 := [.fz s, .fz (.lst (encRs r)), .fz (.int v), .fz (.int (1 + v % x)), .fz (.int (1 + v % x))]) rfl (law_turn hR hr' (by omega)),
    forF_nx (ρ1 := [.fz s, .fz (.lst (encRs r)), .fz (.int v), .fz (.int (1 + v % x)), .fz (.int x)]) rfl (law_turn hR hr' (by omega)),
    forF_nx (ρ1 := [.fz s, .fz (.lst (encRs r)), .fz (.int v), .fz (.int (1 + v % x)), .fz (.int (r.length + 1 + w))]) rfl (law_turn hR hr' (by omega))]
  rfl
end My


namespace My
open PySem PySem.W L2 PyData
theorem lam_at (P : Params) : LamAt (behind P) "cover" 16 := ⟨21, 20, 4, _, _, _, _, _, _, _, _, _, _, _, _, _, _, _, by kernel_rfl, rfl, rfl, rfl, ⟨rfl, rfl, rfl, rfl, rfl, rfl, by decide⟩, by kernel_rfl, rfl, by decide, by decide, by decide⟩
end My
open PySem PySem.W PyProof.Rows
set_option maxRecDepth 100000 in
set_option maxHeartbeats 0 in
theorem PySem.Challenge.cw_curveyard_k24_stretches_covered_holds : PySem.Challenge.rw_curveyard_k24_stretches_covered.Holds := by
  w_on
  refine PySem.W.holds_law My.said_ok fun said => ?_
  refine PySem.W.holds_open (r := PySem.Challenge.rw_curveyard_k24_stretches_covered.row) (q := My.seenTop) (loose := My.loose) (XP := PySem.W.XL My.seenTop [])
    (YP := fun w h => (My.behind w.params).In h ∧ h.get? 16 = some (tabObj #[])) My.top_run (fun w s x => L2.in_cons (My.no_tab _) (PySem.W.InK.of My.spots_ok w s x)) (fun w h h' x k => ⟨PySem.W.Frag.In.keeps x.1 k, k _ _ x.2⟩)
    (fun s e => PySem.W.xl_of s (Bool.and_eq_true_iff.mp e).1) PySem.W.XL.keeps (by rfl) (by rfl) (by rfl)
    (fun s e => PySem.W.recFacts_of (Bool.and_eq_true_iff.mp e).2) (by rfl) (by assumption) (by decide +kernel)
    ⟨rfl, rfl, rfl, rfl, rfl, by decide +kernel⟩ ?hw ?hc
  case hw => w_witness2
  k_fill
  refine L2.walk_ofT (l := PySem.Challenge.rw_curveyard_k24_stretches_covered) (n := 63) (k := 8) (x := "_law_script") (y := "cover") (P0 := 16) (K := My.behind) (CX := fun _ => L2.CX0) (sp := fun w => L2.spF _ 1 My.d_law) rfl (by decide) rfl ⟨rfl, by decide, by decide⟩ (fun w h Y => Y) (fun w => My.no_tab _) (fun w => My.lam_at _) (fun b hb => List.mem_singleton.mp hb) ?F (fun w H a ns hl hO hS => L2.law_okT hO hS (My.law_true ns hl)) (fun _ _ _ _ _ z => z)
  case F =>
    intro w mg fa h KX G hmg
    refine' My.all_mk KX G hmg ?g0 ?g1 ?g2 ?g3 ?g4 ?g5 ?g6 ?g7 ?g8 ?g9 ?g10 ?g11 ?z_bool ?z_enumerate ?z_int ?z_isinstance ?z_len ?z_list ?z_max ?z_min ?z_range ?z_sorted ?z_tuple ?z_zip ?gl
    all_goals (try exact ⟨_, _, _, _, _, _, _, _, _, _, by k_is, by k_is, by k_is, by k_is⟩)
    (case gl => exact My.lam_at _)
    (case z_bool => k_is)
    (case z_enumerate => k_is)
    (case z_int => k_is)
    (case z_isinstance => k_is)
    (case z_len => k_is)
    (case z_list => k_is)
    (case z_max => k_is)
    (case z_min => k_is)
    (case z_range => k_is)
    (case z_sorted => k_is)
    (case z_tuple => k_is)
    (case z_zip => k_is)




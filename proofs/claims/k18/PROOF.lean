import PyProof.Rows.All
import OpenK.KLine
import KE.KItem
import Wide.FinOn
import Lean
import PyProof.EqAt
import PyProof.EqKinds
import PyProof.TupleCall
import PyProof.TupleKey
import KE.KIntText
import KE.IntTextLaws
import OpenK.KOwn
import KE.KIsAll
import PyProof.InstStoreFacts
import PyProof.RaisesMany
import PyProof.RulesAs
import KE.KTryMore
import PyProof.MaxThree
import PyProof.WalkInts
import KE.KRevIter
import PyProof.ListRange
import KE.RegMulBits
import PyProof.ReprRoads
import PyProof.ReprLen
import PySem.Challenge.RW_curveyard_k18_off_the_floor
set_option Elab.async false
set_option Elab.async false
set_option linter.all false
set_option maxRecDepth 100000
set_option maxRecDepth 100000
noncomputable section
namespace L2
open PySem PySem.Spec PyProof.Rows
def inClass (s : Stmt) (j : Nat) : Stmt := match s with
 | .ClassDef _ _ _ body _ _ _ _ _ _ _ => body.getD j (.Pass ⟨0, 0, 0, 0⟩)
 | _ => .Pass ⟨0, 0, 0, 0⟩
def defArgs (s : Stmt) : Arguments := match s with
 | .FunctionDef _ a _ _ _ _ _ _ _ _ => a
 | _ => { posonlyargs := [], args := [], vararg := none, kwonlyargs := [], kw_defaults := [], kwarg := none, defaults := [] }
def defBody (s : Stmt) : List Stmt := match s with
 | .FunctionDef _ _ b _ _ _ _ _ _ _ => b
 | _ => []
def defScope (s : Stmt) : Scope := match s with
 | .FunctionDef _ _ _ _ _ _ sc _ _ _ => sc
 | _ => { kind := .function, names := [], isGenerator := false, isCoroutine := false }
end L2
namespace My
open PySem L2
def top (i : Nat) : Stmt := PySem.Challenge.pw_curveyard_k18_off_the_floor.main.body.getD i (.Pass ⟨0, 0, 0, 0⟩)
end My
namespace My
open PySem PySem.W L2 PyData
def behind : Params -> Frag := fun P =>
 (nat_lit 3, ⟨.type "dict", none, .dict #[⟨keyHash P "__name__", .str "__name__" 165, .str "law_curveyard_k18_off_the_floor" 572⟩, ⟨keyHash P "__doc__", .str "__doc__" 166, .none⟩, ⟨keyHash P "__package__", .str "__package__" 167, .none⟩, ⟨keyHash P "__loader__", .str "__loader__" 168, .builtin "__main__.__loader__#opaque"⟩, ⟨keyHash P "__spec__", .str "__spec__" 169, .none⟩, ⟨keyHash P "__annotations__", .str "__annotations__" 170, .ref 6⟩, ⟨keyHash P "__builtins__", .str "__builtins__" 171, .ref 4⟩, ⟨keyHash P "__file__", .str "__file__" 173, .str "/claim/cut.py" 172⟩, ⟨keyHash P "__cached__", .str "__cached__" 174, .none⟩, ⟨keyHash P "turned", .str "turned" 194, .ref 19⟩, ⟨keyHash P "still", .str "still" 200, .ref 24⟩, ⟨keyHash P "after", .str "after" 206, .ref 29⟩, ⟨keyHash P "undone", .str "undone" 217, .ref 36⟩, ⟨keyHash P "Part", .str "Part" 252, .ref 53⟩, ⟨keyHash P "Curve", .str "Curve" 287, .ref 74⟩, ⟨keyHash P "first_state", .str "first_state" 294, .ref 85⟩, ⟨keyHash P "part_at", .str "part_at" 307, .ref 92⟩, ⟨keyHash P "digit_at", .str "digit_at" 313, .ref 97⟩, ⟨keyHash P "walked", .str "walked" 322, .ref 104⟩, ⟨keyHash P "YardError", .str "YardError" 342, .ref 114⟩, ⟨keyHash P "OffFloor", .str "OffFloor" 358, .ref 127⟩, ⟨keyHash P "TooWide", .str "TooWide" 374, .ref 139⟩, ⟨keyHash P "BadBox", .str "BadBox" 390, .ref 151⟩, ⟨keyHash P "Twice", .str "Twice" 406, .ref 163⟩, ⟨keyHash P "NoThing", .str "NoThing" 422, .ref 175⟩, ⟨keyHash P "NoEntry", .str "NoEntry" 438, .ref 187⟩, ⟨keyHash P "TextError", .str "TextError" 463, .ref 206⟩, ⟨keyHash P "Unmet", .str "Unmet" 492, .ref 225⟩, ⟨keyHash P "full", .str "full" 504, .ref 234⟩, ⟨keyHash P "has_place", .str "has_place" 510, .ref 239⟩, ⟨keyHash P "ask_place", .str "ask_place" 519, .ref 246⟩, ⟨keyHash P "place_at", .str "place_at" 532, .ref 253⟩, ⟨keyHash P "digits_of", .str "digits_of" 543, .ref 260⟩, ⟨keyHash P "deeper", .str "deeper" 549, .ref 265⟩, ⟨keyHash P "number_at", .str "number_at" 555, .ref 270⟩, ⟨keyHash P "neighbours", .str "neighbours" 561, .ref 275⟩, ⟨keyHash P "places_around", .str "places_around" 571, .ref 282⟩, ⟨keyHash P "_law_mix", .str "_law_mix" 582, .ref 289⟩, ⟨keyHash P "_law_same", .str "_law_same" 591, .ref 296⟩, ⟨keyHash P "_law_turned", .str "_law_turned" 597, .ref 301⟩, ⟨keyHash P "_law_after", .str "_law_after" 603, .ref 306⟩, ⟨keyHash P "_law_undone", .str "_law_undone" 612, .ref 313⟩, ⟨keyHash P "_law_turn", .str "_law_turn" 618, .ref 318⟩, ⟨keyHash P "_law_base", .str "_law_base" 627, .ref 325⟩, ⟨keyHash P "_law_joined", .str "_law_joined" 633, .ref 330⟩, ⟨keyHash P "_law_corners", .str "_law_corners" 639, .ref 335⟩, ⟨keyHash P "_law_loose", .str "_law_loose" 651, .ref 342⟩, ⟨keyHash P "_law_altered", .str "_law_altered" 666, .ref 349⟩, ⟨keyHash P "_law_drawn", .str "_law_drawn" 675, .ref 356⟩, ⟨keyHash P "_law_curve", .str "_law_curve" 681, .ref 361⟩, ⟨keyHash P "_law_level", .str "_law_level" 688, .ref 368⟩, ⟨keyHash P "_law_off", .str "_law_off" 698, .ref 375⟩, ⟨keyHash P "_law_refused", .str "_law_refused" 710, .ref 382⟩, ⟨keyHash P "law", .str "law" 716, .ref 387⟩] 54, #[]⟩) ::
 (nat_lit 18, ⟨.type "code", none, .fields #[.str "turned" 189, .str "turned" 190, .str "/claim/cut.py" 191, .int 2 0, .int 2 0, .int 0 0, .int 0 0, .int 3 0, .ref 15, .bool true, .int 181 0, .ref 16, .none, .none, .none, .ref 17, .int 192 0, .int 2 0, .str "/claim/cut.py" 193], #[]⟩) ::
 (nat_lit 19, ⟨.type "function", none, .func (fnOf "turned" "turned" (defArgs (top 1)) (defBody (top 1)) (defScope (top 1)) (.none) (.none) (.none) (.str "curveyard.turns" 187) none (.ref 18) (.none)), #[]⟩) ::
 (nat_lit 23, ⟨.type "code", none, .fields #[.str "still" 195, .str "still" 196, .str "/claim/cut.py" 197, .int 4 0, .int 1 0, .int 0 0, .int 0 0, .int 3 0, .ref 20, .bool true, .int 181 0, .ref 21, .none, .none, .none, .ref 22, .int 198 0, .int 4 0, .str "/claim/cut.py" 199], #[]⟩) ::
 (nat_lit 24, ⟨.type "function", none, .func (fnOf "still" "still" (defArgs (top 2)) (defBody (top 2)) (defScope (top 2)) (.none) (.none) (.none) (.str "curveyard.turns" 187) none (.ref 23) (.none)), #[]⟩) ::
 (nat_lit 28, ⟨.type "code", none, .fields #[.str "after" 201, .str "after" 202, .str "/claim/cut.py" 203, .int 6 0, .int 2 0, .int 0 0, .int 0 0, .int 3 0, .ref 25, .bool true, .int 181 0, .ref 26, .none, .none, .none, .ref 27, .int 204 0, .int 6 0, .str "/claim/cut.py" 205], #[]⟩) ::
 (nat_lit 29, ⟨.type "function", none, .func (fnOf "after" "after" (defArgs (top 3)) (defBody (top 3)) (defScope (top 3)) (.none) (.none) (.none) (.str "curveyard.turns" 187) none (.ref 28) (.none)), #[]⟩) ::
 (nat_lit 35, ⟨.type "code", none, .fields #[.str "undone" 207, .str "undone" 208, .str "/claim/cut.py" 209, .int 8 0, .int 1 0, .int 0 0, .int 0 0, .int 3 0, .ref 30, .bool true, .int 181 0, .ref 31, .none, .ref 32, .ref 33, .ref 34, .int 215 0, .int 8 0, .str "/claim/cut.py" 216], #[]⟩) ::
 (nat_lit 36, ⟨.type "function", none, .func (fnOf "undone" "undone" (defArgs (top 4)) (defBody (top 4)) (defScope (top 4)) (.none) (.none) (.none) (.str "curveyard.turns" 187) none (.ref 35) (.none)), #[]⟩) ::
 (nat_lit 49, ⟨.type "code", none, .fields #[.str "__init__" 232, .str "Part.__init__" 233, .str "/claim/cut.py" 234, .int 17 0, .int 4 0, .int 0 0, .int 0 0, .int 3 0, .ref 44, .bool true, .int 181 0, .ref 45, .none, .ref 46, .ref 47, .ref 48, .int 239 0, .int 17 0, .str "/claim/cut.py" 240], #[]⟩) ::
 (nat_lit 50, ⟨.type "function", none, .func (fnOf "__init__" "Part.__init__" (defArgs (inClass (top 6) 0)) (defBody (inClass (top 6) 0)) (defScope (inClass (top 6) 0)) (.none) (.none) (.none) (.str "curveyard.curves" 218) none (.ref 49) (.none)), #[]⟩) ::
 (nat_lit 52, ⟨.type "dict", none, .dict #[⟨keyHash P "__module__", .str "__module__" 227, .str "curveyard.curves" 218⟩, ⟨keyHash P "__firstlineno__", .str "__firstlineno__" 231, .int 15 230⟩, ⟨keyHash P "__init__", .str "__init__" 241, .ref 50⟩, ⟨keyHash P "__static_attributes__", .str "__static_attributes__" 245, .ref 51⟩, ⟨keyHash P "__dict__", .str "__dict__" 247, .ref 54⟩, ⟨keyHash P "__weakref__", .str "__weakref__" 249, .ref 55⟩, ⟨keyHash P "__doc__", .str "__doc__" 250, .none⟩] 4, #[]⟩) ::
 (nat_lit 53, ⟨.type "type", none, .cls { name := "Part", bases := [.type "object"], mro := [.ref 53, .type "object"], ns := 52, qualname := "Part", hasDict := true, slotNames := [], subclasses := [], abstract := false, collection := none, hasDel := false }, #[none, none, some (.str "Part" 220), some (.str "Part" 228), some (.builtin "object.__new__"), some (.bool true)]⟩) ::
 (nat_lit 54, ⟨.type "getset_descriptor", none, .fields #[.str "__dict__" 246, .ref 53, .builtin "function.__dict__", .builtin "function.__dict__#set"], #[]⟩) ::
 (nat_lit 55, ⟨.type "getset_descriptor", none, .fields #[.str "__weakref__" 248, .ref 53, .builtin "ExceptionGroup.__weakref__", .none], #[]⟩) ::
 (nat_lit 70, ⟨.type "code", none, .fields #[.str "__init__" 265, .str "Curve.__init__" 266, .str "/claim/cut.py" 267, .int 23 0, .int 5 0, .int 0 0, .int 0 0, .int 3 0, .ref 65, .bool true, .int 181 0, .ref 66, .none, .ref 67, .ref 68, .ref 69, .int 273 0, .int 23 0, .str "/claim/cut.py" 274], #[]⟩) ::
 (nat_lit 71, ⟨.type "function", none, .func (fnOf "__init__" "Curve.__init__" (defArgs (inClass (top 7) 0)) (defBody (inClass (top 7) 0)) (defScope (inClass (top 7) 0)) (.none) (.none) (.none) (.str "curveyard.curves" 218) none (.ref 70) (.none)), #[]⟩) ::
 (nat_lit 73, ⟨.type "dict", none, .dict #[⟨keyHash P "__module__", .str "__module__" 260, .str "curveyard.curves" 218⟩, ⟨keyHash P "__firstlineno__", .str "__firstlineno__" 264, .int 21 263⟩, ⟨keyHash P "__init__", .str "__init__" 275, .ref 71⟩, ⟨keyHash P "__static_attributes__", .str "__static_attributes__" 280, .ref 72⟩, ⟨keyHash P "__dict__", .str "__dict__" 282, .ref 75⟩, ⟨keyHash P "__weakref__", .str "__weakref__" 284, .ref 76⟩, ⟨keyHash P "__doc__", .str "__doc__" 285, .none⟩] 4, #[]⟩) ::
 (nat_lit 74, ⟨.type "type", none, .cls { name := "Curve", bases := [.type "object"], mro := [.ref 74, .type "object"], ns := 73, qualname := "Curve", hasDict := true, slotNames := [], subclasses := [], abstract := false, collection := none, hasDel := false }, #[none, none, some (.str "Curve" 253), some (.str "Curve" 261), some (.builtin "object.__new__"), some (.bool true)]⟩) ::
 (nat_lit 75, ⟨.type "getset_descriptor", none, .fields #[.str "__dict__" 281, .ref 74, .builtin "function.__dict__", .builtin "function.__dict__#set"], #[]⟩) ::
 (nat_lit 76, ⟨.type "getset_descriptor", none, .fields #[.str "__weakref__" 283, .ref 74, .builtin "ExceptionGroup.__weakref__", .none], #[]⟩) ::
 (nat_lit 84, ⟨.type "code", none, .fields #[.str "first_state" 288, .str "first_state" 289, .str "/claim/cut.py" 290, .int 28 0, .int 1 0, .int 0 0, .int 0 0, .int 3 0, .ref 79, .bool true, .int 181 0, .ref 80, .none, .ref 81, .ref 82, .ref 83, .int 292 0, .int 28 0, .str "/claim/cut.py" 293], #[]⟩) ::
 (nat_lit 85, ⟨.type "function", none, .func (fnOf "first_state" "first_state" (defArgs (top 8)) (defBody (top 8)) (defScope (top 8)) (.none) (.none) (.none) (.str "curveyard.curves" 218) none (.ref 84) (.none)), #[]⟩) ::
 (nat_lit 91, ⟨.type "code", none, .fields #[.str "part_at" 295, .str "part_at" 296, .str "/claim/cut.py" 297, .int 30 0, .int 3 0, .int 0 0, .int 0 0, .int 3 0, .ref 86, .bool true, .int 181 0, .ref 87, .none, .ref 88, .ref 89, .ref 90, .int 305 0, .int 30 0, .str "/claim/cut.py" 306], #[]⟩) ::
 (nat_lit 92, ⟨.type "function", none, .func (fnOf "part_at" "part_at" (defArgs (top 9)) (defBody (top 9)) (defScope (top 9)) (.none) (.none) (.none) (.str "curveyard.curves" 218) none (.ref 91) (.none)), #[]⟩) ::
 (nat_lit 96, ⟨.type "code", none, .fields #[.str "digit_at" 308, .str "digit_at" 309, .str "/claim/cut.py" 310, .int 35 0, .int 3 0, .int 0 0, .int 0 0, .int 3 0, .ref 93, .bool true, .int 181 0, .ref 94, .none, .none, .none, .ref 95, .int 311 0, .int 35 0, .str "/claim/cut.py" 312], #[]⟩) ::
 (nat_lit 97, ⟨.type "function", none, .func (fnOf "digit_at" "digit_at" (defArgs (top 10)) (defBody (top 10)) (defScope (top 10)) (.none) (.none) (.none) (.str "curveyard.curves" 218) none (.ref 96) (.none)), #[]⟩) ::
 (nat_lit 103, ⟨.type "code", none, .fields #[.str "walked" 314, .str "walked" 315, .str "/claim/cut.py" 316, .int 40 0, .int 3 0, .int 0 0, .int 0 0, .int 3 0, .ref 98, .bool true, .int 181 0, .ref 99, .none, .ref 100, .ref 101, .ref 102, .int 320 0, .int 40 0, .str "/claim/cut.py" 321], #[]⟩) ::
 (nat_lit 104, ⟨.type "function", none, .func (fnOf "walked" "walked" (defArgs (top 11)) (defBody (top 11)) (defScope (top 11)) (.none) (.none) (.none) (.str "curveyard.curves" 218) none (.ref 103) (.none)), #[]⟩) ::
 (nat_lit 113, ⟨.type "dict", none, .dict #[⟨keyHash P "__module__", .str "__module__" 332, .str "curveyard.errors" 323⟩, ⟨keyHash P "__firstlineno__", .str "__firstlineno__" 336, .int 43 335⟩, ⟨keyHash P "__static_attributes__", .str "__static_attributes__" 337, .ref 112⟩, ⟨keyHash P "__weakref__", .str "__weakref__" 339, .ref 115⟩, ⟨keyHash P "__doc__", .str "__doc__" 340, .none⟩] 3, #[]⟩) ::
 (nat_lit 114, ⟨.type "type", none, .cls { name := "YardError", bases := [.type "ValueError"], mro := [.ref 114, .type "ValueError", .type "Exception", .type "BaseException", .type "object"], ns := 113, qualname := "YardError", hasDict := true, slotNames := [], subclasses := [.ref 127, .ref 139, .ref 151, .ref 163, .ref 175, .ref 187, .ref 206, .ref 225], abstract := false, collection := none, hasDel := false }, #[some (.ref 105), none, some (.str "YardError" 325), some (.str "YardError" 333), some (.builtin "ValueError.__new__"), some (.bool true)]⟩) ::
 (nat_lit 115, ⟨.type "getset_descriptor", none, .fields #[.str "__weakref__" 338, .ref 114, .builtin "ExceptionGroup.__weakref__", .none], #[]⟩) ::
 (nat_lit 126, ⟨.type "dict", none, .dict #[⟨keyHash P "__module__", .str "__module__" 350, .str "curveyard.errors" 323⟩, ⟨keyHash P "__firstlineno__", .str "__firstlineno__" 354, .int 45 353⟩, ⟨keyHash P "__static_attributes__", .str "__static_attributes__" 355, .ref 125⟩, ⟨keyHash P "__doc__", .str "__doc__" 356, .none⟩] 2, #[]⟩) ::
 (nat_lit 127, ⟨.type "type", none, .cls { name := "OffFloor", bases := [.ref 114], mro := [.ref 127, .ref 114, .type "ValueError", .type "Exception", .type "BaseException", .type "object"], ns := 126, qualname := "OffFloor", hasDict := true, slotNames := [], subclasses := [], abstract := false, collection := none, hasDel := false }, #[some (.ref 118), none, some (.str "OffFloor" 343), some (.str "OffFloor" 351), some (.builtin "ValueError.__new__"), some (.bool true)]⟩) ::
 (nat_lit 138, ⟨.type "dict", none, .dict #[⟨keyHash P "__module__", .str "__module__" 366, .str "curveyard.errors" 323⟩, ⟨keyHash P "__firstlineno__", .str "__firstlineno__" 370, .int 47 369⟩, ⟨keyHash P "__static_attributes__", .str "__static_attributes__" 371, .ref 137⟩, ⟨keyHash P "__doc__", .str "__doc__" 372, .none⟩] 2, #[]⟩) ::
 (nat_lit 139, ⟨.type "type", none, .cls { name := "TooWide", bases := [.ref 114], mro := [.ref 139, .ref 114, .type "ValueError", .type "Exception", .type "BaseException", .type "object"], ns := 138, qualname := "TooWide", hasDict := true, slotNames := [], subclasses := [], abstract := false, collection := none, hasDel := false }, #[some (.ref 130), none, some (.str "TooWide" 359), some (.str "TooWide" 367), some (.builtin "ValueError.__new__"), some (.bool true)]⟩) ::
 (nat_lit 150, ⟨.type "dict", none, .dict #[⟨keyHash P "__module__", .str "__module__" 382, .str "curveyard.errors" 323⟩, ⟨keyHash P "__firstlineno__", .str "__firstlineno__" 386, .int 49 385⟩, ⟨keyHash P "__static_attributes__", .str "__static_attributes__" 387, .ref 149⟩, ⟨keyHash P "__doc__", .str "__doc__" 388, .none⟩] 2, #[]⟩) ::
 (nat_lit 151, ⟨.type "type", none, .cls { name := "BadBox", bases := [.ref 114], mro := [.ref 151, .ref 114, .type "ValueError", .type "Exception", .type "BaseException", .type "object"], ns := 150, qualname := "BadBox", hasDict := true, slotNames := [], subclasses := [], abstract := false, collection := none, hasDel := false }, #[some (.ref 142), none, some (.str "BadBox" 375), some (.str "BadBox" 383), some (.builtin "ValueError.__new__"), some (.bool true)]⟩) ::
 (nat_lit 162, ⟨.type "dict", none, .dict #[⟨keyHash P "__module__", .str "__module__" 398, .str "curveyard.errors" 323⟩, ⟨keyHash P "__firstlineno__", .str "__firstlineno__" 402, .int 51 401⟩, ⟨keyHash P "__static_attributes__", .str "__static_attributes__" 403, .ref 161⟩, ⟨keyHash P "__doc__", .str "__doc__" 404, .none⟩] 2, #[]⟩) ::
 (nat_lit 163, ⟨.type "type", none, .cls { name := "Twice", bases := [.ref 114], mro := [.ref 163, .ref 114, .type "ValueError", .type "Exception", .type "BaseException", .type "object"], ns := 162, qualname := "Twice", hasDict := true, slotNames := [], subclasses := [], abstract := false, collection := none, hasDel := false }, #[some (.ref 154), none, some (.str "Twice" 391), some (.str "Twice" 399), some (.builtin "ValueError.__new__"), some (.bool true)]⟩) ::
 (nat_lit 174, ⟨.type "dict", none, .dict #[⟨keyHash P "__module__", .str "__module__" 414, .str "curveyard.errors" 323⟩, ⟨keyHash P "__firstlineno__", .str "__firstlineno__" 418, .int 53 417⟩, ⟨keyHash P "__static_attributes__", .str "__static_attributes__" 419, .ref 173⟩, ⟨keyHash P "__doc__", .str "__doc__" 420, .none⟩] 2, #[]⟩) ::
 (nat_lit 175, ⟨.type "type", none, .cls { name := "NoThing", bases := [.ref 114], mro := [.ref 175, .ref 114, .type "ValueError", .type "Exception", .type "BaseException", .type "object"], ns := 174, qualname := "NoThing", hasDict := true, slotNames := [], subclasses := [], abstract := false, collection := none, hasDel := false }, #[some (.ref 166), none, some (.str "NoThing" 407), some (.str "NoThing" 415), some (.builtin "ValueError.__new__"), some (.bool true)]⟩) ::
 (nat_lit 186, ⟨.type "dict", none, .dict #[⟨keyHash P "__module__", .str "__module__" 430, .str "curveyard.errors" 323⟩, ⟨keyHash P "__firstlineno__", .str "__firstlineno__" 434, .int 55 433⟩, ⟨keyHash P "__static_attributes__", .str "__static_attributes__" 435, .ref 185⟩, ⟨keyHash P "__doc__", .str "__doc__" 436, .none⟩] 2, #[]⟩) ::
 (nat_lit 187, ⟨.type "type", none, .cls { name := "NoEntry", bases := [.ref 114], mro := [.ref 187, .ref 114, .type "ValueError", .type "Exception", .type "BaseException", .type "object"], ns := 186, qualname := "NoEntry", hasDict := true, slotNames := [], subclasses := [], abstract := false, collection := none, hasDel := false }, #[some (.ref 178), none, some (.str "NoEntry" 423), some (.str "NoEntry" 431), some (.builtin "ValueError.__new__"), some (.bool true)]⟩) ::
 (nat_lit 202, ⟨.type "code", none, .fields #[.str "__init__" 451, .str "TextError.__init__" 452, .str "/claim/cut.py" 453, .int 59 0, .int 2 0, .int 0 0, .int 0 0, .int 3 0, .ref 197, .bool true, .int 181 0, .ref 198, .none, .ref 199, .ref 200, .ref 201, .int 456 0, .int 59 0, .str "/claim/cut.py" 457], #[]⟩) ::
 (nat_lit 203, ⟨.type "function", none, .func (fnOf "__init__" "TextError.__init__" (defArgs (inClass (top 20) 0)) (defBody (inClass (top 20) 0)) (defScope (inClass (top 20) 0)) (.none) (.none) (.none) (.str "curveyard.errors" 323) none (.ref 202) (.none)), #[]⟩) ::
 (nat_lit 205, ⟨.type "dict", none, .dict #[⟨keyHash P "__module__", .str "__module__" 446, .str "curveyard.errors" 323⟩, ⟨keyHash P "__firstlineno__", .str "__firstlineno__" 450, .int 57 449⟩, ⟨keyHash P "__init__", .str "__init__" 458, .ref 203⟩, ⟨keyHash P "__static_attributes__", .str "__static_attributes__" 460, .ref 204⟩, ⟨keyHash P "__doc__", .str "__doc__" 461, .none⟩] 2, #[]⟩) ::
 (nat_lit 206, ⟨.type "type", none, .cls { name := "TextError", bases := [.ref 114], mro := [.ref 206, .ref 114, .type "ValueError", .type "Exception", .type "BaseException", .type "object"], ns := 205, qualname := "TextError", hasDict := true, slotNames := [], subclasses := [], abstract := false, collection := none, hasDel := false }, #[some (.ref 190), none, some (.str "TextError" 439), some (.str "TextError" 447), some (.builtin "ValueError.__new__"), some (.bool true)]⟩) ::
 (nat_lit 221, ⟨.type "code", none, .fields #[.str "__init__" 476, .str "Unmet.__init__" 477, .str "/claim/cut.py" 478, .int 63 0, .int 4 0, .int 0 0, .int 0 0, .int 3 0, .ref 216, .bool true, .int 181 0, .ref 217, .none, .ref 218, .ref 219, .ref 220, .int 483 0, .int 63 0, .str "/claim/cut.py" 484], #[]⟩) ::
 (nat_lit 222, ⟨.type "function", none, .func (fnOf "__init__" "Unmet.__init__" (defArgs (inClass (top 21) 0)) (defBody (inClass (top 21) 0)) (defScope (inClass (top 21) 0)) (.none) (.none) (.none) (.str "curveyard.errors" 323) none (.ref 221) (.none)), #[]⟩) ::
 (nat_lit 224, ⟨.type "dict", none, .dict #[⟨keyHash P "__module__", .str "__module__" 471, .str "curveyard.errors" 323⟩, ⟨keyHash P "__firstlineno__", .str "__firstlineno__" 475, .int 61 474⟩, ⟨keyHash P "__init__", .str "__init__" 485, .ref 222⟩, ⟨keyHash P "__static_attributes__", .str "__static_attributes__" 489, .ref 223⟩, ⟨keyHash P "__doc__", .str "__doc__" 490, .none⟩] 2, #[]⟩) ::
 (nat_lit 225, ⟨.type "type", none, .cls { name := "Unmet", bases := [.ref 114], mro := [.ref 225, .ref 114, .type "ValueError", .type "Exception", .type "BaseException", .type "object"], ns := 224, qualname := "Unmet", hasDict := true, slotNames := [], subclasses := [], abstract := false, collection := none, hasDel := false }, #[some (.ref 209), none, some (.str "Unmet" 464), some (.str "Unmet" 472), some (.builtin "ValueError.__new__"), some (.bool true)]⟩) ::
 (nat_lit 233, ⟨.type "code", none, .fields #[.str "full" 495, .str "full" 496, .str "/claim/cut.py" 497, .int 68 0, .int 2 0, .int 0 0, .int 0 0, .int 3 0, .ref 228, .bool true, .int 181 0, .ref 229, .none, .ref 230, .ref 231, .ref 232, .int 502 0, .int 68 0, .str "/claim/cut.py" 503], #[]⟩) ::
 (nat_lit 234, ⟨.type "function", none, .func (fnOf "full" "full" (defArgs (top 23)) (defBody (top 23)) (defScope (top 23)) (.none) (.none) (.none) (.str "curveyard.numbering" 493) none (.ref 233) (.none)), #[]⟩) ::
 (nat_lit 238, ⟨.type "code", none, .fields #[.str "has_place" 505, .str "has_place" 506, .str "/claim/cut.py" 507, .int 73 0, .int 3 0, .int 0 0, .int 0 0, .int 3 0, .ref 235, .bool true, .int 181 0, .ref 236, .none, .none, .none, .ref 237, .int 508 0, .int 73 0, .str "/claim/cut.py" 509], #[]⟩) ::
 (nat_lit 239, ⟨.type "function", none, .func (fnOf "has_place" "has_place" (defArgs (top 24)) (defBody (top 24)) (defScope (top 24)) (.none) (.none) (.none) (.str "curveyard.numbering" 493) none (.ref 238) (.none)), #[]⟩) ::
 (nat_lit 245, ⟨.type "code", none, .fields #[.str "ask_place" 511, .str "ask_place" 512, .str "/claim/cut.py" 513, .int 76 0, .int 3 0, .int 0 0, .int 0 0, .int 3 0, .ref 240, .bool true, .int 181 0, .ref 241, .none, .ref 242, .ref 243, .ref 244, .int 517 0, .int 76 0, .str "/claim/cut.py" 518], #[]⟩) ::
 (nat_lit 246, ⟨.type "function", none, .func (fnOf "ask_place" "ask_place" (defArgs (top 25)) (defBody (top 25)) (defScope (top 25)) (.none) (.none) (.none) (.str "curveyard.numbering" 493) none (.ref 245) (.none)), #[]⟩) ::
 (nat_lit 252, ⟨.type "code", none, .fields #[.str "place_at" 520, .str "place_at" 521, .str "/claim/cut.py" 522, .int 79 0, .int 3 0, .int 0 0, .int 0 0, .int 3 0, .ref 247, .bool true, .int 181 0, .ref 248, .none, .ref 249, .ref 250, .ref 251, .int 530 0, .int 79 0, .str "/claim/cut.py" 531], #[]⟩) ::
 (nat_lit 253, ⟨.type "function", none, .func (fnOf "place_at" "place_at" (defArgs (top 26)) (defBody (top 26)) (defScope (top 26)) (.none) (.none) (.none) (.str "curveyard.numbering" 493) none (.ref 252) (.none)), #[]⟩) ::
 (nat_lit 259, ⟨.type "code", none, .fields #[.str "digits_of" 533, .str "digits_of" 534, .str "/claim/cut.py" 535, .int 88 0, .int 3 0, .int 0 0, .int 0 0, .int 3 0, .ref 254, .bool true, .int 181 0, .ref 255, .none, .ref 256, .ref 257, .ref 258, .int 541 0, .int 88 0, .str "/claim/cut.py" 542], #[]⟩) ::
 (nat_lit 260, ⟨.type "function", none, .func (fnOf "digits_of" "digits_of" (defArgs (top 27)) (defBody (top 27)) (defScope (top 27)) (.none) (.none) (.none) (.str "curveyard.numbering" 493) none (.ref 259) (.none)), #[]⟩) ::
 (nat_lit 264, ⟨.type "code", none, .fields #[.str "deeper" 544, .str "deeper" 545, .str "/claim/cut.py" 546, .int 94 0, .int 2 0, .int 0 0, .int 0 0, .int 3 0, .ref 261, .bool true, .int 181 0, .ref 262, .none, .none, .none, .ref 263, .int 547 0, .int 94 0, .str "/claim/cut.py" 548], #[]⟩) ::
 (nat_lit 265, ⟨.type "function", none, .func (fnOf "deeper" "deeper" (defArgs (top 28)) (defBody (top 28)) (defScope (top 28)) (.none) (.none) (.none) (.str "curveyard.numbering" 493) none (.ref 264) (.none)), #[]⟩) ::
 (nat_lit 269, ⟨.type "code", none, .fields #[.str "number_at" 550, .str "number_at" 551, .str "/claim/cut.py" 552, .int 96 0, .int 3 0, .int 0 0, .int 0 0, .int 3 0, .ref 266, .bool true, .int 181 0, .ref 267, .none, .none, .none, .ref 268, .int 553 0, .int 96 0, .str "/claim/cut.py" 554], #[]⟩) ::
 (nat_lit 270, ⟨.type "function", none, .func (fnOf "number_at" "number_at" (defArgs (top 29)) (defBody (top 29)) (defScope (top 29)) (.none) (.none) (.none) (.str "curveyard.numbering" 493) none (.ref 269) (.none)), #[]⟩) ::
 (nat_lit 274, ⟨.type "code", none, .fields #[.str "neighbours" 556, .str "neighbours" 557, .str "/claim/cut.py" 558, .int 108 0, .int 3 0, .int 0 0, .int 0 0, .int 3 0, .ref 271, .bool true, .int 181 0, .ref 272, .none, .none, .none, .ref 273, .int 559 0, .int 108 0, .str "/claim/cut.py" 560], #[]⟩) ::
 (nat_lit 275, ⟨.type "function", none, .func (fnOf "neighbours" "neighbours" (defArgs (top 30)) (defBody (top 30)) (defScope (top 30)) (.none) (.none) (.none) (.str "curveyard.numbering" 493) none (.ref 274) (.none)), #[]⟩) ::
 (nat_lit 281, ⟨.type "code", none, .fields #[.str "places_around" 562, .str "places_around" 563, .str "/claim/cut.py" 564, .int 111 0, .int 1 0, .int 0 0, .int 0 0, .int 3 0, .ref 276, .bool true, .int 181 0, .ref 277, .none, .ref 278, .ref 279, .ref 280, .int 569 0, .int 111 0, .str "/claim/cut.py" 570], #[]⟩) ::
 (nat_lit 282, ⟨.type "function", none, .func (fnOf "places_around" "places_around" (defArgs (top 31)) (defBody (top 31)) (defScope (top 31)) (.none) (.none) (.none) (.str "curveyard.numbering" 493) none (.ref 281) (.none)), #[]⟩) ::
 (nat_lit 288, ⟨.type "code", none, .fields #[.str "_law_mix" 574, .str "_law_mix" 575, .str "/claim/cut.py" 576, .int 118 0, .int 2 0, .int 0 0, .int 0 0, .int 3 0, .ref 283, .bool true, .int 181 0, .ref 284, .none, .ref 285, .ref 286, .ref 287, .int 580 0, .int 118 0, .str "/claim/cut.py" 581], #[]⟩) ::
 (nat_lit 289, ⟨.type "function", none, .func (fnOf "_law_mix" "_law_mix" (defArgs (top 33)) (defBody (top 33)) (defScope (top 33)) (.none) (.none) (.none) (.str "law_curveyard_k18_off_the_floor" 572) none (.ref 288) (.none)), #[]⟩) ::
 (nat_lit 295, ⟨.type "code", none, .fields #[.str "_law_same" 583, .str "_law_same" 584, .str "/claim/cut.py" 585, .int 121 0, .int 2 0, .int 0 0, .int 0 0, .int 3 0, .ref 290, .bool true, .int 181 0, .ref 291, .none, .ref 292, .ref 293, .ref 294, .int 589 0, .int 121 0, .str "/claim/cut.py" 590], #[]⟩) ::
 (nat_lit 296, ⟨.type "function", none, .func (fnOf "_law_same" "_law_same" (defArgs (top 34)) (defBody (top 34)) (defScope (top 34)) (.none) (.none) (.none) (.str "law_curveyard_k18_off_the_floor" 572) none (.ref 295) (.none)), #[]⟩) ::
 (nat_lit 300, ⟨.type "code", none, .fields #[.str "_law_turned" 592, .str "_law_turned" 593, .str "/claim/cut.py" 594, .int 142 0, .int 2 0, .int 0 0, .int 0 0, .int 3 0, .ref 297, .bool true, .int 181 0, .ref 298, .none, .none, .none, .ref 299, .int 595 0, .int 142 0, .str "/claim/cut.py" 596], #[]⟩) ::
 (nat_lit 301, ⟨.type "function", none, .func (fnOf "_law_turned" "_law_turned" (defArgs (top 35)) (defBody (top 35)) (defScope (top 35)) (.none) (.none) (.none) (.str "law_curveyard_k18_off_the_floor" 572) none (.ref 300) (.none)), #[]⟩) ::
 (nat_lit 305, ⟨.type "code", none, .fields #[.str "_law_after" 598, .str "_law_after" 599, .str "/claim/cut.py" 600, .int 144 0, .int 2 0, .int 0 0, .int 0 0, .int 3 0, .ref 302, .bool true, .int 181 0, .ref 303, .none, .none, .none, .ref 304, .int 601 0, .int 144 0, .str "/claim/cut.py" 602], #[]⟩) ::
 (nat_lit 306, ⟨.type "function", none, .func (fnOf "_law_after" "_law_after" (defArgs (top 36)) (defBody (top 36)) (defScope (top 36)) (.none) (.none) (.none) (.str "law_curveyard_k18_off_the_floor" 572) none (.ref 305) (.none)), #[]⟩) ::
 (nat_lit 312, ⟨.type "code", none, .fields #[.str "_law_undone" 604, .str "_law_undone" 605, .str "/claim/cut.py" 606, .int 146 0, .int 1 0, .int 0 0, .int 0 0, .int 3 0, .ref 307, .bool true, .int 181 0, .ref 308, .none, .ref 309, .ref 310, .ref 311, .int 610 0, .int 146 0, .str "/claim/cut.py" 611], #[]⟩) ::
 (nat_lit 313, ⟨.type "function", none, .func (fnOf "_law_undone" "_law_undone" (defArgs (top 37)) (defBody (top 37)) (defScope (top 37)) (.none) (.none) (.none) (.str "law_curveyard_k18_off_the_floor" 572) none (.ref 312) (.none)), #[]⟩) ::
 (nat_lit 317, ⟨.type "code", none, .fields #[.str "_law_turn" 613, .str "_law_turn" 614, .str "/claim/cut.py" 615, .int 151 0, .int 2 0, .int 0 0, .int 0 0, .int 3 0, .ref 314, .bool true, .int 181 0, .ref 315, .none, .none, .none, .ref 316, .int 616 0, .int 151 0, .str "/claim/cut.py" 617], #[]⟩) ::
 (nat_lit 318, ⟨.type "function", none, .func (fnOf "_law_turn" "_law_turn" (defArgs (top 38)) (defBody (top 38)) (defScope (top 38)) (.none) (.none) (.none) (.str "law_curveyard_k18_off_the_floor" 572) none (.ref 317) (.none)), #[]⟩) ::
 (nat_lit 324, ⟨.type "code", none, .fields #[.str "_law_base" 619, .str "_law_base" 620, .str "/claim/cut.py" 621, .int 158 0, .int 1 0, .int 0 0, .int 0 0, .int 3 0, .ref 319, .bool true, .int 181 0, .ref 320, .none, .ref 321, .ref 322, .ref 323, .int 625 0, .int 158 0, .str "/claim/cut.py" 626], #[]⟩) ::
 (nat_lit 325, ⟨.type "function", none, .func (fnOf "_law_base" "_law_base" (defArgs (top 39)) (defBody (top 39)) (defScope (top 39)) (.none) (.none) (.none) (.str "law_curveyard_k18_off_the_floor" 572) none (.ref 324) (.none)), #[]⟩) ::
 (nat_lit 329, ⟨.type "code", none, .fields #[.str "_law_joined" 628, .str "_law_joined" 629, .str "/claim/cut.py" 630, .int 168 0, .int 2 0, .int 0 0, .int 0 0, .int 3 0, .ref 326, .bool true, .int 181 0, .ref 327, .none, .none, .none, .ref 328, .int 631 0, .int 168 0, .str "/claim/cut.py" 632], #[]⟩) ::
 (nat_lit 330, ⟨.type "function", none, .func (fnOf "_law_joined" "_law_joined" (defArgs (top 40)) (defBody (top 40)) (defScope (top 40)) (.none) (.none) (.none) (.str "law_curveyard_k18_off_the_floor" 572) none (.ref 329) (.none)), #[]⟩) ::
 (nat_lit 334, ⟨.type "code", none, .fields #[.str "_law_corners" 634, .str "_law_corners" 635, .str "/claim/cut.py" 636, .int 184 0, .int 1 0, .int 0 0, .int 0 0, .int 3 0, .ref 331, .bool true, .int 181 0, .ref 332, .none, .none, .none, .ref 333, .int 637 0, .int 184 0, .str "/claim/cut.py" 638], #[]⟩) ::
 (nat_lit 335, ⟨.type "function", none, .func (fnOf "_law_corners" "_law_corners" (defArgs (top 41)) (defBody (top 41)) (defScope (top 41)) (.none) (.none) (.none) (.str "law_curveyard_k18_off_the_floor" 572) none (.ref 334) (.none)), #[]⟩) ::
 (nat_lit 341, ⟨.type "code", none, .fields #[.str "_law_loose" 640, .str "_law_loose" 641, .str "/claim/cut.py" 642, .int 189 0, .int 2 0, .int 0 0, .int 0 0, .int 3 0, .ref 336, .bool true, .int 181 0, .ref 337, .none, .ref 338, .ref 339, .ref 340, .int 649 0, .int 189 0, .str "/claim/cut.py" 650], #[]⟩) ::
 (nat_lit 342, ⟨.type "function", none, .func (fnOf "_law_loose" "_law_loose" (defArgs (top 42)) (defBody (top 42)) (defScope (top 42)) (.none) (.none) (.none) (.str "law_curveyard_k18_off_the_floor" 572) none (.ref 341) (.none)), #[]⟩) ::
 (nat_lit 348, ⟨.type "code", none, .fields #[.str "_law_altered" 652, .str "_law_altered" 653, .str "/claim/cut.py" 654, .int 197 0, .int 2 0, .int 0 0, .int 0 0, .int 3 0, .ref 343, .bool true, .int 181 0, .ref 344, .none, .ref 345, .ref 346, .ref 347, .int 664 0, .int 197 0, .str "/claim/cut.py" 665], #[]⟩) ::
 (nat_lit 349, ⟨.type "function", none, .func (fnOf "_law_altered" "_law_altered" (defArgs (top 43)) (defBody (top 43)) (defScope (top 43)) (.none) (.none) (.none) (.str "law_curveyard_k18_off_the_floor" 572) none (.ref 348) (.none)), #[]⟩) ::
 (nat_lit 355, ⟨.type "code", none, .fields #[.str "_law_drawn" 667, .str "_law_drawn" 668, .str "/claim/cut.py" 669, .int 208 0, .int 2 0, .int 0 0, .int 0 0, .int 3 0, .ref 350, .bool true, .int 181 0, .ref 351, .none, .ref 352, .ref 353, .ref 354, .int 673 0, .int 208 0, .str "/claim/cut.py" 674], #[]⟩) ::
 (nat_lit 356, ⟨.type "function", none, .func (fnOf "_law_drawn" "_law_drawn" (defArgs (top 44)) (defBody (top 44)) (defScope (top 44)) (.none) (.none) (.none) (.str "law_curveyard_k18_off_the_floor" 572) none (.ref 355) (.none)), #[]⟩) ::
 (nat_lit 360, ⟨.type "code", none, .fields #[.str "_law_curve" 676, .str "_law_curve" 677, .str "/claim/cut.py" 678, .int 215 0, .int 3 0, .int 0 0, .int 0 0, .int 3 0, .ref 357, .bool true, .int 181 0, .ref 358, .none, .none, .none, .ref 359, .int 679 0, .int 215 0, .str "/claim/cut.py" 680], #[]⟩) ::
 (nat_lit 361, ⟨.type "function", none, .func (fnOf "_law_curve" "_law_curve" (defArgs (top 45)) (defBody (top 45)) (defScope (top 45)) (.none) (.none) (.none) (.str "law_curveyard_k18_off_the_floor" 572) none (.ref 360) (.none)), #[]⟩) ::
 (nat_lit 367, ⟨.type "code", none, .fields #[.str "_law_level" 682, .str "_law_level" 683, .str "/claim/cut.py" 684, .int 217 0, .int 1 0, .int 0 0, .int 0 0, .int 3 0, .ref 362, .bool true, .int 181 0, .ref 363, .none, .ref 364, .ref 365, .ref 366, .int 686 0, .int 217 0, .str "/claim/cut.py" 687], #[]⟩) ::
 (nat_lit 368, ⟨.type "function", none, .func (fnOf "_law_level" "_law_level" (defArgs (top 46)) (defBody (top 46)) (defScope (top 46)) (.none) (.none) (.none) (.str "law_curveyard_k18_off_the_floor" 572) none (.ref 367) (.none)), #[]⟩) ::
 (nat_lit 374, ⟨.type "code", none, .fields #[.str "_law_off" 689, .str "_law_off" 690, .str "/claim/cut.py" 691, .int 221 0, .int 4 0, .int 0 0, .int 0 0, .int 3 0, .ref 369, .bool true, .int 181 0, .ref 370, .none, .ref 371, .ref 372, .ref 373, .int 696 0, .int 221 0, .str "/claim/cut.py" 697], #[]⟩) ::
 (nat_lit 375, ⟨.type "function", none, .func (fnOf "_law_off" "_law_off" (defArgs (top 47)) (defBody (top 47)) (defScope (top 47)) (.none) (.none) (.none) (.str "law_curveyard_k18_off_the_floor" 572) none (.ref 374) (.none)), #[]⟩) ::
 (nat_lit 381, ⟨.type "code", none, .fields #[.str "_law_refused" 699, .str "_law_refused" 700, .str "/claim/cut.py" 701, .int 229 0, .int 4 0, .int 0 0, .int 0 0, .int 3 0, .ref 376, .bool true, .int 181 0, .ref 377, .none, .ref 378, .ref 379, .ref 380, .int 708 0, .int 229 0, .str "/claim/cut.py" 709], #[]⟩) ::
 (nat_lit 382, ⟨.type "function", none, .func (fnOf "_law_refused" "_law_refused" (defArgs (top 48)) (defBody (top 48)) (defScope (top 48)) (.none) (.none) (.none) (.str "law_curveyard_k18_off_the_floor" 572) none (.ref 381) (.none)), #[]⟩) ::
 (nat_lit 386, ⟨.type "code", none, .fields #[.str "law" 711, .str "law" 712, .str "/claim/cut.py" 713, .int 243 0, .int 1 0, .int 0 0, .int 0 0, .int 3 0, .ref 383, .bool true, .int 181 0, .ref 384, .none, .none, .none, .ref 385, .int 714 0, .int 243 0, .str "/claim/cut.py" 715], #[]⟩) ::
 (nat_lit 387, ⟨.type "function", none, .func (fnOf "law" "law" (defArgs (top 49)) (defBody (top 49)) (defScope (top 49)) (.none) (.none) (.none) (.str "law_curveyard_k18_off_the_floor" 572) none (.ref 386) (.none)), #[]⟩) :: []
def seenTop : Program := view PySem.Challenge.pw_curveyard_k18_off_the_floor [49]
def loose : List Str := "turned" :: "still" :: "after" :: "undone" :: "Part" :: "Curve" :: "first_state" :: "part_at" :: "digit_at" :: "walked" :: "YardError" :: "OffFloor" :: "TooWide" :: "BadBox" :: "Twice" :: "NoThing" :: "NoEntry" :: "TextError" :: "Unmet" :: "full" :: "has_place" :: "ask_place" :: "place_at" :: "digits_of" :: "deeper" :: "number_at" :: "neighbours" :: "places_around" :: "_law_mix" :: "_law_same" :: "_law_turned" :: "_law_after" :: "_law_undone" :: "_law_turn" :: "_law_base" :: "_law_joined" :: "_law_corners" :: "_law_loose" :: "_law_altered" :: "_law_drawn" :: "_law_curve" :: "_law_level" :: "_law_off" :: "_law_refused" :: []
def spots : List Addr := nat_lit 3 :: nat_lit 18 :: nat_lit 19 :: nat_lit 23 :: nat_lit 24 :: nat_lit 28 :: nat_lit 29 :: nat_lit 35 :: nat_lit 36 :: nat_lit 49 :: nat_lit 50 :: nat_lit 52 :: nat_lit 53 :: nat_lit 54 :: nat_lit 55 :: nat_lit 70 :: nat_lit 71 :: nat_lit 73 :: nat_lit 74 :: nat_lit 75 :: nat_lit 76 :: nat_lit 84 :: nat_lit 85 :: nat_lit 91 :: nat_lit 92 :: nat_lit 96 :: nat_lit 97 :: nat_lit 103 :: nat_lit 104 :: nat_lit 113 :: nat_lit 114 :: nat_lit 115 :: nat_lit 126 :: nat_lit 127 :: nat_lit 138 :: nat_lit 139 :: nat_lit 150 :: nat_lit 151 :: nat_lit 162 :: nat_lit 163 :: nat_lit 174 :: nat_lit 175 :: nat_lit 186 :: nat_lit 187 :: nat_lit 202 :: nat_lit 203 :: nat_lit 205 :: nat_lit 206 :: nat_lit 221 :: nat_lit 222 :: nat_lit 224 :: nat_lit 225 :: nat_lit 233 :: nat_lit 234 :: nat_lit 238 :: nat_lit 239 :: nat_lit 245 :: nat_lit 246 :: nat_lit 252 :: nat_lit 253 :: nat_lit 259 :: nat_lit 260 :: nat_lit 264 :: nat_lit 265 :: nat_lit 269 :: nat_lit 270 :: nat_lit 274 :: nat_lit 275 :: nat_lit 281 :: nat_lit 282 :: nat_lit 288 :: nat_lit 289 :: nat_lit 295 :: nat_lit 296 :: nat_lit 300 :: nat_lit 301 :: nat_lit 305 :: nat_lit 306 :: nat_lit 312 :: nat_lit 313 :: nat_lit 317 :: nat_lit 318 :: nat_lit 324 :: nat_lit 325 :: nat_lit 329 :: nat_lit 330 :: nat_lit 334 :: nat_lit 335 :: nat_lit 341 :: nat_lit 342 :: nat_lit 348 :: nat_lit 349 :: nat_lit 355 :: nat_lit 356 :: nat_lit 360 :: nat_lit 361 :: nat_lit 367 :: nat_lit 368 :: nat_lit 374 :: nat_lit 375 :: nat_lit 381 :: nat_lit 382 :: nat_lit 386 :: nat_lit 387 :: []
theorem spots_ok (P : Params) : spots = (behind P).map (fun x => x.1) := by kernel_rfl
abbrev hook : Hook := kHook behind spots spots_ok
abbrev topOk (s : Shared) : Bool := xlAt seenTop [] s && recOk (RowW.records PySem.Challenge.rw_curveyard_k18_off_the_floor.row.toRowW) s
theorem top_seen (w : World) : (openEnds treeTable PySem.Challenge.rw_curveyard_k18_off_the_floor.row.prog w 7044).map (fun s => openSeen seenTop loose (importedModules PySem.Challenge.rw_curveyard_k18_off_the_floor.row.prog.main.body) topOk true s) = some (openGood seenTop loose) := by kernel_rfl
theorem top_objs (w : World) : (openEnds treeTable PySem.Challenge.rw_curveyard_k18_off_the_floor.row.prog w 7044).map hook.obs = some (hook.val w) := by kernel_rfl
theorem both_of {α β γ : Type} {x : Option α} {f : α -> β} {g : α -> γ} {a : β} {b : γ} (h1 : x.map f = some a) (h2 : x.map g = some b) : x.map (fun s => (f s, g s)) = some (a, b) := by
 cases x with
 | none => cases h1
 | some s => cases h1; cases h2; rfl
theorem top_run : LeftO PySem.Challenge.rw_curveyard_k18_off_the_floor.row.prog seenTop loose topOk hook.obs hook.val 7044 := fun w => both_of (top_seen w) (top_objs w)
end My
namespace L2
open PySem PySem.Spec PyProof.Rows
abbrev Key := Sum Int Str
def keyIs : Key -> Value -> Bool
 | .inl k, v => Value.isInt k v
 | .inr x, v => Value.isStrOf x v
def keyH (w : World) : Key -> Int
 | .inl k => hashInt k
 | .inr x => hashStr w x
theorem keyIs_shape : ∀ {k : Key} {v : Value}, keyIs k v = true -> (∃ i t, k = Sum.inl i /\ v = Value.int i t) ∨ (∃ x t, k = Sum.inr x /\ v = Value.str x t)
 | .inl i, v, h => by
   obtain ⟨t, e⟩ := Value.isInt_shape (k := i) (v := v) h
   exact .inl ⟨i, t, rfl, e⟩
 | .inr x, v, h => by
   obtain ⟨t, e⟩ := Value.isStrOf_shape (x := x) (v := v) h
   exact .inr ⟨x, t, rfl, e⟩
theorem key_ll (a b : Int) : decide ((Sum.inl a : Key) = Sum.inl b) = (a == b) := by
 by_cases e : a = b
 · subst e; simp
 · have h : ¬ (Sum.inl a : Key) = Sum.inl b := fun q => e (Sum.inl.inj q)
   rw [decide_eq_false h]
   exact (beq_eq_false_iff_ne.mpr e).symm
theorem key_rr (a b : Str) : decide ((Sum.inr a : Key) = Sum.inr b) = decide (a = b) := by
 by_cases e : a = b
 · subst e; simp
 · have h : ¬ (Sum.inr a : Key) = Sum.inr b := fun q => e (Sum.inr.inj q)
   rw [decide_eq_false h, decide_eq_false e]
theorem key_lr (a : Int) (b : Str) : decide ((Sum.inl a : Key) = Sum.inr b) = false := decide_eq_false (fun q => nomatch q)
theorem key_rl (a : Str) (b : Int) : decide ((Sum.inr a : Key) = Sum.inl b) = false := decide_eq_false (fun q => nomatch q)
def mixKind (prog : Program) (w : World) : PySem.KeyKind prog w Key where
 is := keyIs
 hash := keyH w
 inj := fun v a b ha hb => by
   rcases keyIs_shape ha with ⟨i, t, rfl, rfl⟩ | ⟨x, t, rfl, rfl⟩
   · rcases keyIs_shape hb with ⟨j, u, rfl, e⟩ | ⟨y, u, rfl, e⟩
     · injection e with e1 _; rw [e1]
     · exact nomatch e
   · rcases keyIs_shape hb with ⟨j, u, rfl, e⟩ | ⟨y, u, rfl, e⟩
     · exact nomatch e
     · injection e with e1 _; rw [e1]
 byValue := fun k v h => by
   rcases keyIs_shape h with ⟨i, t, rfl, rfl⟩ | ⟨x, t, rfl, rfl⟩ <;> rfl
 pyHash := fun hv h => by
   rcases keyIs_shape hv with ⟨i, t, rfl, rfl⟩ | ⟨x, t, rfl, rfl⟩
   · exact wpAny_pyHash_int h
   · exact wpAny_pyHash_str h
 eqBool := fun hu hv h => by
   rcases keyIs_shape hu with ⟨i, t, rfl, rfl⟩ | ⟨x, t, rfl, rfl⟩
   · rcases keyIs_shape hv with ⟨j, u, rfl, rfl⟩ | ⟨y, u, rfl, rfl⟩
     · rw [key_ll] at h; exact wpAny_eqBool_int h
     · rw [key_lr] at h; exact SeqAt.EqAt.int_str i t y u _ _ _ _ h
   · rcases keyIs_shape hv with ⟨j, u, rfl, rfl⟩ | ⟨y, u, rfl, rfl⟩
     · rw [key_rl] at h; exact SeqAt.EqAt.str_int x t j u _ _ _ _ h
     · rw [key_rr] at h; exact wpAny_eqBool_str h
 «strs» := fun k x t v h => by
   rcases keyIs_shape h with ⟨i, u, rfl, e⟩ | ⟨y, u, rfl, e⟩
   · exact nomatch e
   · injection e with e1 _
     subst e1
     cases v <;> rfl
end L2
namespace L2
open PySem PySem.Spec PyProof.Rows
inductive V where
 | non | bl (b : Bool) | int (i : Int) | str (x : Str) | byt (b : Array UInt8) | flt (b : UInt64) | ref (a : Addr) | ty (n : String)
 deriving DecidableEq
def RelV : V -> Value -> Prop
 | .non, u => u = Value.none
 | .bl b, u => u = Value.bool b
 | .int i, u => ∃ t, u = Value.int i t
 | .str x, u => ∃ t, u = Value.str x t
 | .byt b, u => ∃ t, u = Value.bytes b t
 | .flt b, u => ∃ t, u = Value.float b t
 | .ref a, u => u = Value.ref a
 | .ty n, u => u = Value.type n
abbrev Vals : List V -> List Value -> Prop := Paired RelV
theorem Vals.length {xs : List V} {us : List Value} (r : Vals xs us) : xs.length = us.length := Paired.length r
theorem Vals.get : ∀ {xs : List V} {us : List Value} {i : Nat} {x : V}, Vals xs us -> xs[i]? = some x -> ∃ u, us[i]? = some u /\ RelV x u
 | _, _, _, _, .nil, e => by simp at e
 | _, _, 0, _, .cons r _, e => by simp at e; subst e; exact ⟨_, rfl, r⟩
 | _, _, i + 1, x, .cons _ t, e => by
   obtain ⟨u, h1, h2⟩ := Vals.get (i := i) (x := x) t (by simpa using e)
   exact ⟨u, by simpa using h1, h2⟩
theorem Vals.set {x : V} {u : Value} (r : RelV x u) : ∀ {xs : List V} {us : List Value} (i : Nat), Vals xs us -> Vals (xs.set i x) (us.set i u)
 | _, _, _, .nil => .nil
 | _, _, 0, .cons _ t => .cons r t
 | _, _, i + 1, .cons q t => .cons q (Vals.set r i t)
theorem Vals.append : ∀ {xs ys : List V} {us ws : List Value}, Vals xs us -> Vals ys ws -> Vals (xs ++ ys) (us ++ ws)
 | _, _, _, _, .nil, s => s
 | _, _, _, _, .cons r t, s => .cons r (Vals.append t s)
theorem Vals.take : ∀ {xs : List V} {us : List Value} (n : Nat), Vals xs us -> Vals (xs.take n) (us.take n)
 | _, _, 0, _ => .nil
 | _, _, _ + 1, .nil => .nil
 | _, _, n + 1, .cons r t => .cons r (Vals.take n t)
theorem Vals.drop : ∀ {xs : List V} {us : List Value} (n : Nat), Vals xs us -> Vals (xs.drop n) (us.drop n)
 | _, _, 0, r => r
 | _, _, _ + 1, .nil => .nil
 | _, _, n + 1, .cons _ t => Vals.drop n t
def RelO : Option V -> Option Value -> Prop
 | some v, some u => RelV v u
 | none, none => True
 | _, _ => False
def KV {κ : Type} : List (κ × V) -> List (κ × Value) -> Prop := Paired fun (p : κ × V) (q : κ × Value) => p.1 = q.1 /\ RelV p.2 q.2
def kV : Key -> V
 | .inl i => .int i
 | .inr x => .str x
inductive HO where
 /-- a list -/
 | lst (xs : List V)
 /-- a tuple (never changes) -/
 | tup (xs : List V)
 /-- a dict whose keys are ints and texts; one whose keys are tuples of ints and texts (the empty one is both) -/
 | dK (kvs : List (Key × V)) | dT (kvs : List (List Key × V))
 /-- a set of ints: its members, its size -/
 | set (S : Int -> Bool) (n : Nat)
 /-- an instance of the class at C, its dict at dx, its attributes -/
 | ins (C dx : Addr) (fs : List (Str × V))
 /-- the dict of the instance at x -/
 | own (x : Addr)
 /-- the dict of an exception -/
 | xd (fs : List (Str × V))
 /-- a bound method, f of x -/
 | met (f x : Addr)
 /-- a range object lo, lo + 1, .. below hi -/
 | rng (lo hi : Int)
 /-- a thing that is known to the object (the script; a dict while a loop walks it): read, never written while it is so -/
 | frz (o : Obj) (u : HO)
 /-- a code object's table -/
 | tbl (ps : Array Value)
 /-- any other thing, by what is true of its one object (a def of one's own: SetO a S n := HO.ext fun h => ..) -/
 | ext (φ : Heap -> Prop)
abbrev Hp := Addr -> Option HO
def upd (H : Hp) (a : Addr) (o : HO) : Hp := fun b => if b = a then some o else H b
theorem upd_same {H : Hp} {a : Addr} {o : HO} : upd H a o a = some o := by unfold upd; rw [if_pos rfl]
theorem upd_ne {H : Hp} {a b : Addr} {o : HO} (h : b ≠ a) : upd H a o b = H b := by unfold upd; rw [if_neg h]
theorem ne_of_none {H : Hp} {a b : Addr} {o : HO} (h : H a = some o) (h' : H b = none) : a ≠ b := by
 intro e; subst e; rw [h] at h'; cases h'
section
variable (P : Program) (w : World)
def ObjOk (H : Hp) (h : Heap) (a : Addr) : HO -> Prop
 | .lst xs => xs.length <= sizeLine /\ ∃ (its : List Value) (n : Nat), Vals xs its /\ h.get? a = some { cls := .type "list", data := .seq its.toArray n }
 | .tup xs => xs.length <= sizeLine /\ ∃ its : List Value, Vals xs its /\ IsTup h a its.toArray
 | .dK kvs => kvs.length <= sizeLine /\ (a == sysModules) = false /\ ∃ vs, KV kvs vs /\ h.DictOf (mixKind P w) a vs
 | .dT kvs => kvs.length <= sizeLine /\ (a == sysModules) = false /\ ∃ xs : List (List Key × Addr × Value),
     Paired (fun (p : List Key × V) (q : List Key × Addr × Value) => p.1 = q.1 /\ H q.2.1 = some (.tup (p.1.map kV)) /\ RelV p.2 q.2.2) kvs xs /\
     ∃ o es ep, h.get? a = some o /\ o.ExactDict /\ o.data = .dict es ep /\ es.toList = xs.map (entryOfKey (tupleKind (mixKind P w))) /\ (xs.map (·.1)).Nodup
 | .set S n => h.SetOf (intKind P w) a S n
 | .ins C dx fs => H dx = some (.own a) /\ fs.length <= 1000 /\ dx ≠ a /\ h.get? a = some (PySem.W.instObj C dx) /\
     ∃ mA, h.Ns1 dx mA /\ (∀ f, RelO (fs.lookup f) (mA f)) /\ PySem.Within mA (fs.map (·.1))
 | .own _ => ∃ o, h.get? a = some o
 | .xd fs => ∃ mA, h.Ns1 a mA /\ ∀ f, RelO (fs.lookup f) (mA f)
 | .rng lo hi => ∃ t u v, h.get? a = some { cls := .type "range", data := .fields #[.int lo t, .int hi u, .int 1 v] }
 | .frz o u => h.get? a = some o /\ ObjOk H h a u
 | .tbl ps => h.get? a = some { cls := .none, data := .fields ps }
 | .met f x => h.get? a = some (PySem.W.methodObj (.ref f) (.ref x))
 | .ext φ => φ h /\ (∃ o, h.get? a = some o) /\ ∀ h1 h2 : Heap, φ h1 -> (∀ o, h1.get? a = some o -> h2.get? a = some o) -> φ h2
def HOk (H : Hp) (h : Heap) : Prop := ∀ a o, H a = some o -> ObjOk P w H h a o
end
section
variable {P : Program} {w : World} {H H' : Hp} {h h' : Heap} {a : Addr} {o : HO}
theorem ObjOk.lt (x : ObjOk P w H h a o) : a < h.objs.size := by
 cases o with
 | lst xs => obtain ⟨_, _, _, _, e⟩ := x; exact Heap.lt_size e
 | tup xs => obtain ⟨_, _, _, p⟩ := x; exact p.lt
 | dK kvs => obtain ⟨_, _, _, _, o, _, _, e, _⟩ := x; exact Heap.lt_size e
 | dT kvs => obtain ⟨_, _, _, _, o, _, _, e, _⟩ := x; exact Heap.lt_size e
 | set S n => obtain ⟨o, _, _, _, e, _⟩ := x; exact Heap.lt_size e
 | ins C dx fs => obtain ⟨_, _, _, e, _⟩ := x; exact Heap.lt_size e
 | own y => obtain ⟨_, e⟩ := x; exact Heap.lt_size e
 | xd fs => obtain ⟨_, ⟨_, _, _, e, _⟩, _⟩ := x; exact Heap.lt_size e
 | rng lo hi => obtain ⟨_, _, _, e⟩ := x; exact Heap.lt_size e
 | frz ob u => obtain ⟨e, _⟩ := x; exact Heap.lt_size e
 | tbl ps => exact Heap.lt_size (show h.get? a = some _ from x)
 | met f y => exact Heap.lt_size (show h.get? a = some _ from x)
 | ext φ => obtain ⟨_, ⟨_, e⟩, _⟩ := x; exact Heap.lt_size e
theorem Paired.mapP {α β : Type} {F G : α -> β -> Prop} : ∀ {l₁ : List α} {l₂ : List β}, Paired F l₁ l₂ -> (∀ a b, F a b -> G a b) -> Paired G l₁ l₂
 | _, _, .nil, _ => .nil
 | _, _, .cons r t, f => .cons (f _ _ r) (Paired.mapP t f)
theorem ObjOk.stay (x : ObjOk P w H h a o) (k : ∀ b u, (b = a ∨ H b = some (.own a)) -> h.get? b = some u -> h'.get? b = some u)
   (ho : ∀ b, H b = some (.own a) -> H' b = some (.own a)) (ht : ∀ b xs, H b = some (.tup xs) -> H' b = some (.tup xs)) : ObjOk P w H' h' a o := by
 induction o with
 | lst xs => obtain ⟨z, its, n, r, e⟩ := x; exact ⟨z, its, n, r, k _ _ (.inl rfl) e⟩
 | tup xs => obtain ⟨z, its, r, ob, e, c⟩ := x; exact ⟨z, its, r, ob, k _ _ (.inl rfl) e, c⟩
 | dK kvs => obtain ⟨z, y, vs, r, ob, es, ep, e, c⟩ := x; exact ⟨z, y, vs, r, ob, es, ep, k _ _ (.inl rfl) e, c⟩
 | dT kvs =>
   obtain ⟨z, y, xs, r, ob, es, ep, e, c⟩ := x
   exact ⟨z, y, xs, Paired.mapP r fun p q z => ⟨z.1, ht _ _ z.2.1, z.2.2⟩, ob, es, ep, k _ _ (.inl rfl) e, c⟩
 | set S n => obtain ⟨ob, es, ep, t, e, c⟩ := x; exact ⟨ob, es, ep, t, k _ _ (.inl rfl) e, c⟩
 | ins C dx fs =>
   obtain ⟨d, z, ne, e, mA, ⟨od, es, ep, e2, c⟩, r⟩ := x
   exact ⟨ho _ d, z, ne, k _ _ (.inl rfl) e, mA, ⟨od, es, ep, k _ _ (.inr d) e2, c⟩, r⟩
 | own y => obtain ⟨ob, e⟩ := x; exact ⟨ob, k _ _ (.inl rfl) e⟩
 | xd fs => obtain ⟨mA, ⟨od, es, ep, e, c⟩, r⟩ := x; exact ⟨mA, ⟨od, es, ep, k _ _ (.inl rfl) e, c⟩, r⟩
 | rng lo hi => obtain ⟨t, u, v, e⟩ := x; exact ⟨t, u, v, k _ _ (.inl rfl) e⟩
 | frz ob u ih => obtain ⟨e, q⟩ := x; exact ⟨k _ _ (.inl rfl) e, ih q⟩
 | tbl ps =>
   have e : h.get? a = some { cls := .none, data := .fields ps } := x
   show h'.get? a = some { cls := .none, data := .fields ps }
   exact k a _ (.inl rfl) e
 | met f y =>
   have e : h.get? a = some (PySem.W.methodObj (.ref f) (.ref y)) := x
   show h'.get? a = some (PySem.W.methodObj (.ref f) (.ref y))
   exact k a _ (.inl rfl) e
 | ext φ => obtain ⟨p, ⟨o, e⟩, st⟩ := x; exact ⟨st _ _ p fun o q => k _ _ (.inl rfl) q, ⟨o, k _ _ (.inl rfl) e⟩, st⟩
theorem HOk.lt (x : HOk P w H h) (e : H a = some o) : a < h.objs.size := (x a o e).lt
theorem HOk.fresh (x : HOk P w H h) (e : h.objs.size <= a) : H a = none := by
 cases q : H a with
 | none => rfl
 | some u => exact absurd (Nat.lt_of_lt_of_le (x.lt q) e) (Nat.lt_irrefl _)
theorem HOk.kept (x : HOk P w H h) (k : ∀ b u, h.get? b = some u -> h'.get? b = some u) : HOk P w H h' := fun a o e =>
 (x a o e).stay (fun b u _ q => k b u q) (fun _ q => q) fun _ _ q => q
theorem HOk.laid (x : HOk P w H h) (k : ∀ b u, h.get? b = some u -> h'.get? b = some u) (hp : h.objs.size <= a) (new : ObjOk P w (upd H a o) h' a o) : HOk P w (upd H a o) h' := fun b u e => by
 have hn := x.fresh hp
 by_cases hb : b = a
 · subst hb; rw [upd_same] at e; cases e; exact new
 · rw [upd_ne hb] at e
   exact (x b u e).stay (fun c v _ q => k c v q) (fun c q => by rw [upd_ne (ne_of_none q hn)]; exact q) fun c xs q => by rw [upd_ne (ne_of_none q hn)]; exact q
end
def Rd (H : Hp) (a : Addr) (u : HO) : Prop := H a = some u ∨ ∃ o, H a = some (.frz o u)
theorem Rd.of {H : Hp} {a : Addr} {u : HO} (h : H a = some u) : Rd H a u := .inl h
theorem Rd.ok {P : Program} {w : World} {H : Hp} {h : Heap} {a : Addr} {u : HO} (r : Rd H a u) (x : HOk P w H h) : ObjOk P w H h a u := by
 rcases r with r | ⟨o, r⟩
 · exact x a u r
 · obtain ⟨_, q⟩ := x a _ r
   exact q
def Mut : Option HO -> Prop
 | some (.lst _) => True
 | some (.dK _) => True
 | some (.dT _) => True
 | some (.set _ _) => True
 | some (.ins _ _ _) => True
 | some (.ext _) => True
 | _ => False
section
variable {P : Program} {w : World} {H : Hp} {h h' : Heap} {x e : Addr} {o' : HO}
theorem HOk.write (ok : HOk P w H h) (mu : Mut (H x)) (he : e = x ∨ H e = some (.own x)) (k : ∀ b u, b ≠ e -> h.get? b = some u -> h'.get? b = some u) (heo : ∃ u, h'.get? e = some u)
   (new : ObjOk P w (upd H x o') h' x o') : HOk P w (upd H x o') h' := fun b u q => by
 have nown : ∀ c y, H c = some (.own y) -> c ≠ x := fun c y r z => by subst z; rw [r] at mu; exact mu
 have ntup : ∀ c xs, H c = some (.tup xs) -> c ≠ x := fun c xs r z => by subst z; rw [r] at mu; exact mu
 by_cases hb : b = x
 · subst hb; rw [upd_same] at q; cases q; exact new
 · rw [upd_ne hb] at q
   by_cases hbe : b = e
   · have q' : H b = some (.own x) := by
       rcases he with z | z
       · exact absurd (hbe.trans z) hb
       · rw [hbe]; exact z
     rw [q] at q'; cases q'
     obtain ⟨v, hv⟩ := heo
     exact ⟨v, by rw [hbe]; exact hv⟩
   · refine (ok b u q).stay (fun c v hc r => k c v ?_ r) (fun c r => by rw [upd_ne (nown c b r)]; exact r) fun c xs r => by rw [upd_ne (ntup c xs r)]; exact r
     rcases hc with rfl | hc
     · exact hbe
     · rintro rfl
       rcases he with z | z
       · exact nown c b hc z
       · rw [hc] at z; cases z; exact hb rfl
end
structure Un (fs ex : List Addr) (H H' : Hp) (h h' : Heap) : Prop where
 keep : ∀ b o, h.get? b = some o -> H b = none -> b ∉ fs -> b ∉ ex -> h'.get? b = some o
 slot : ∀ b o, h.get? b = some o -> H b = none -> b ∈ fs -> b ∉ ex -> ∃ sl, h'.get? b = some { o with slots := sl }
 free : ∀ b o, h.get? b = some o -> H b = none -> b ∉ ex -> H' b = none
 there : ∀ b o, h.get? b = some o -> b ∉ ex -> ∃ o', h'.get? b = some o'
 tups : ∀ b xs, H b = some (.tup xs) -> H' b = some (.tup xs)
 frzs : ∀ b o u, H b = some (.frz o u) -> H' b = some (.frz o u)
 tbls : ∀ b ps, H b = some (.tbl ps) -> ∃ more, H' b = some (.tbl (ps ++ more))
section
variable {fs fs' ex ex' : List Addr} {H H1 H2 : Hp} {h h1 h2 h' : Heap} {a x e : Addr} {o : HO}
theorem Un.any (u : Un fs ex H H1 h h1) {b : Addr} {ob : Obj} (q : h.get? b = some ob) (n : H b = none) (hx : b ∉ ex) : ∃ sl, h1.get? b = some { ob with slots := sl } := by
 by_cases hb : b ∈ fs
 · exact u.slot b ob q n hb hx
 · exact ⟨ob.slots, u.keep b ob q n hb hx⟩
theorem Un.trans (a : Un fs ex H H1 h h1) (b : Un fs ex H1 H2 h1 h2) : Un fs ex H H2 h h2 where
 keep := fun c ob q n hc hx => b.keep c ob (a.keep c ob q n hc hx) (a.free c ob q n hx) hc hx
 slot := fun c ob q n hc hx => by
   obtain ⟨sl, e1⟩ := a.slot c ob q n hc hx
   obtain ⟨sl', e2⟩ := b.slot c _ e1 (a.free c ob q n hx) hc hx
   exact ⟨sl', e2⟩
 free := fun c ob q n hx => by
   obtain ⟨o', e1⟩ := a.there c ob q hx
   exact b.free c o' e1 (a.free c ob q n hx) hx
 there := fun c ob q hx => by
   obtain ⟨o', e1⟩ := a.there c ob q hx
   exact b.there c o' e1 hx
 tups := fun c xs q => b.tups c xs (a.tups c xs q)
 frzs := fun c ob xs q => b.frzs c ob xs (a.frzs c ob xs q)
 tbls := fun c ps q => by
   obtain ⟨m1, e1⟩ := a.tbls c ps q
   obtain ⟨m2, e2⟩ := b.tbls c _ e1
   exact ⟨m1 ++ m2, by rw [e2, Array.append_assoc]⟩
theorem Un.kept (k : ∀ b u, h.get? b = some u -> h'.get? b = some u) : Un fs ex H H h h' :=
 ⟨fun b ob q _ _ _ => k b ob q, fun b ob q _ _ _ => ⟨ob.slots, k b ob q⟩, fun _ _ _ n _ => n, fun b ob q _ => ⟨ob, k b ob q⟩, fun _ _ q => q, fun _ _ _ q => q, fun _ ps q => ⟨#[], by rw [q]; simp⟩⟩
theorem Un.refl : Un fs ex H H h h := Un.kept fun _ _ q => q
theorem Un.laid (k : ∀ b u, h.get? b = some u -> h'.get? b = some u) (hp : h.objs.size <= a) (hn : H a = none) : Un fs ex H (upd H a o) h h' where
 keep := fun b u q _ _ _ => k b u q
 slot := fun b u q _ _ _ => ⟨u.slots, k b u q⟩
 free := fun b u q n _ => by rw [upd_ne (Nat.ne_of_lt (Nat.lt_of_lt_of_le (Heap.lt_size q) hp))]; exact n
 there := fun b u q _ => ⟨u, k b u q⟩
 tups := fun b xs q => by rw [upd_ne (ne_of_none q hn)]; exact q
 frzs := fun b u xs q => by rw [upd_ne (ne_of_none q hn)]; exact q
 tbls := fun b ps q => ⟨#[], by rw [upd_ne (ne_of_none q hn), q]; simp⟩
theorem Un.write (mu : Mut (H x)) (he : e = x ∨ H e = some (.own x)) (k : ∀ b u, b ≠ e -> h.get? b = some u -> h'.get? b = some u) (heo : ∃ u, h'.get? e = some u) : Un fs ex H (upd H x o) h h' := by
 have hx : ∀ b, H b = none -> b ≠ x := fun b n z => by subst z; rw [n] at mu; exact mu
 have hb : ∀ b, H b = none -> b ≠ e := fun b n z => by
   subst z
   rcases he with r | r
   · exact hx b n r
   · rw [n] at r; cases r
 have hm : ∀ b u, H b = some u -> ¬ Mut (some u) -> b ≠ x := fun b u q nm z => by subst z; rw [q] at mu; exact nm mu
 refine ⟨fun b u q n _ _ => k b u (hb b n) q, fun b u q n _ _ => ⟨u.slots, k b u (hb b n) q⟩, fun b u q n _ => by rw [upd_ne (hx b n)]; exact n, fun b u q _ => ?_,
   fun b xs q => by rw [upd_ne (hm b _ q fun z => z)]; exact q, fun b u xs q => by rw [upd_ne (hm b _ q fun z => z)]; exact q, fun b ps q => ⟨#[], by rw [upd_ne (hm b _ q fun z => z), q]; simp⟩⟩
 by_cases hbe : b = e
 · subst hbe; exact heo
 · exact ⟨u, k b u hbe q⟩
theorem Un.mono (u : Un fs ex H H1 h h1) (hs : ∀ b ∈ fs, b ∈ fs') (hx : ∀ b ∈ ex, b ∈ ex') : Un fs' ex' H H1 h h1 :=
 ⟨fun b ob q n hb he => u.keep b ob q n (fun z => hb (hs b z)) fun z => he (hx b z), fun _ _ q n _ he => u.any q n fun z => he (hx _ z), fun b ob q n he => u.free b ob q n fun z => he (hx b z), fun b ob q he => u.there b ob q fun z => he (hx b z), u.tups, u.frzs, u.tbls⟩
end
def trk (h : Heap) (H : Hp) : List Addr := (List.range h.objs.size).filter fun a => (H a).isSome
def hidT (h : Heap) (H : Hp) : Heap := PySem.W.hideAll h (trk h H)
theorem hidT_size (h : Heap) (H : Hp) : (hidT h H).objs.size = h.objs.size := PySem.W.hideAll_size _ _
theorem hidT_get {h : Heap} {H : Hp} {b : Addr} {o : Obj} (e : h.get? b = some o) (n : H b = none) : (hidT h H).get? b = some o :=
 PySem.W.hideAll_get _ e fun hm => by
   have q : (H b).isSome = true := (List.mem_filter.mp hm).2
   rw [n] at q; simp at q
theorem of_hidT {h : Heap} {H : Hp} {b : Addr} {o : Obj} (e : (hidT h H).get? b = some o) : h.get? b = some o /\ H b = none := by
 have e' : h.get? b = some o := PySem.W.of_hideAll (trk h H) e
 refine ⟨e', ?_⟩
 cases q : H b with
 | none => rfl
 | some x =>
   have hm : b ∈ trk h H := List.mem_filter.mpr ⟨List.mem_range.mpr (Heap.lt_size e'), by simp [q]⟩
   have z : (hidT h H).get? b = none := PySem.W.hideAll_none (trk h H) hm
   rw [z] at e; cases e
def allNews (g h : Heap) (L : Addr) : List (Addr × Obj) := (List.range h.objs.size).filterMap fun a => if a = L ∨ (g.get? a).isSome = true then none else (h.get? a).map fun o => (a, o)
def rest (g h : Heap) (L d : Addr) : List (Addr × Obj) := (allNews g h L).filter fun p => decide (p.1 ≠ d)
end L2
namespace L2
open PySem PySem.Spec PyProof.Rows
structure Mod (K : PySem.W.Frag) (mg : Str -> Option Value) (base : Heap) : Prop where
 kin : K.In base
 glob : base.Ns mainGlobals mg
 blt : ∃ mb, base.Ns builtinsNs mb /\ ∀ x : Str, x ≠ "__name__" -> mb x = bootBuiltins x
 nolimit : base.NoLimit
/-- the context: a def's body (or a comprehension's block) running. base: fixed through the whole law; s₀, H₀: the entry; outer: the frames whose slots others may change (a def's callers); stack: all frames that run;
  ex: iterators that were made ahead of the entry and are walked here (a comprehension's); fn: the names whose cells were made at the entry (a def: all; a comprehension's block: its own); calm: not within an except suite; pn: pins that every state bears; xe: what is wanted of an exception that leaves the code -/
structure Cx where
 prog : Program
 w : World
 K : PySem.W.Frag
 mg : Str -> Option Value
 base : Heap
 A : Around
 N : List Str
 s₀ : Shared
 H₀ : Hp
 env : Env
 outer : List Env
 stack : List Env
 ex : List Addr
 fn : Str -> Bool
 calm : Bool
 pn : List (Addr × Obj)
 xe : Value -> Shared -> Prop
def frs (l : List Env) : List Addr := l.filterMap (·.frame)
abbrev Cx.fs (X : Cx) : List Addr := frs X.outer
def Vis (sc : Scope) (x : Str) : Prop := sc.names.lookup x = some .local ∨ sc.names.lookup x = some .cell ∨ sc.names.lookup x = some .free
def Loc (sc : Scope) (x : Str) : Prop := sc.names.lookup x = some .local ∨ sc.names.lookup x = some .cell
def Look (env : Env) (h : Heap) (m : Str -> Option Value) (x : Str) (u : Value) : Prop :=
 (env.kindOf x = some .local /\ m x = some u) ∨ ((env.kindOf x = some .cell ∨ env.kindOf x = some .free) /\ ∃ c, env.cells.lookup x = some c /\ h.IsCell c (some u))
structure Cx.Ok (X : Cx) : Prop where
 mod : Mod X.K X.mg X.base
 kind : X.env.scope.kind = .function
 glob : X.env.globals = mainGlobals
 blt : X.env.builtins = builtinsNs
 above : X.s₀.heap.objs.size <= X.env.locals
 inj : ∀ x y c, X.env.cells.lookup x = some c -> X.env.cells.lookup y = some c -> x = y
 has : ∀ x, (X.env.kindOf x = some .cell ∨ X.env.kindOf x = some .free) -> ∃ c, X.env.cells.lookup x = some c
 cab : ∀ x c, X.fn x = true -> X.env.cells.lookup x = some c -> X.s₀.heap.objs.size <= c
 hd : X.calm = true -> X.A.handled = none
 frames : X.A.frames = some X.stack
 stk : X.stack = X.outer ∨ (X.stack = X.env :: X.outer /\ X.env.frame = some X.env.locals)
 exf : ∀ b ∈ X.ex, b ≠ X.env.locals /\ ∀ x c, X.env.cells.lookup x = some c -> c ≠ b
 bs : ∀ b o, X.base.get? b = some o -> X.s₀.heap.get? b = some o /\ X.H₀ b = none
 bsz : X.base.objs.size <= X.s₀.heap.objs.size
 noex : ∀ b o, X.base.get? b = some o -> b ∉ X.ex
 exfs : ∀ b ∈ X.ex, b ∉ X.fs
 funs : X.s₀.heap.FunFrames X.base X.outer
 frf : ∀ b ∈ X.fs, X.H₀ b = none
structure Inv (X : Cx) (pins : List (Addr × Obj)) (σ : List (Option V)) (H : Hp) (s : Shared) : Prop where
 ok : X.Ok
 os : s.os = X.s₀.os
 bare : AllBare s.gens
 base : Un X.fs X.ex X.H₀ H X.s₀.heap s.heap
 loc : ∃ m, s.heap.Ns X.env.locals m /\ ∀ (i : Nat) (x : Str) (v : V), X.N[i]? = some x -> σ[i]? = some (some v) -> Vis X.env.scope x -> ∃ u, RelV v u /\ Look X.env s.heap m x u
 cell : ∀ x c, X.env.cells.lookup x = some c -> ∃ v, s.heap.IsCell c v
 free : H X.env.locals = none
 freeC : ∀ x c, X.env.cells.lookup x = some c -> H c = none
 pin : ∀ p ∈ X.pn ++ pins, s.heap.get? p.1 = some p.2 /\ H p.1 = none /\ p.1 ≠ X.env.locals /\ p.1 ∉ X.fs /\ ∀ v, p.2.data ≠ .cell v
 hok : HOk X.prog X.w H s.heap
 len : σ.length = X.N.length
section
variable {X : Cx} {pins : List (Addr × Obj)} {σ : List (Option V)} {H H' : Hp} {s : Shared} {h' : Heap}
theorem Cx.Ok.nofr (ok : X.Ok) {b : Addr} {o : Obj} (e : X.base.get? b = some o) : b ∉ X.fs := fun hb => by
 have := (ok.funs.mem hb).1
 rw [e] at this; cases this
theorem Inv.bs (I : Inv X pins σ H s) : ∀ b o, X.base.get? b = some o -> s.heap.get? b = some o /\ H b = none := fun b o e =>
 ⟨I.base.keep b o (I.ok.bs b o e).1 (I.ok.bs b o e).2 (I.ok.nofr e) (I.ok.noex b o e), I.base.free b o (I.ok.bs b o e).1 (I.ok.bs b o e).2 (I.ok.noex b o e)⟩
theorem Inv.bk (I : Inv X pins σ H s) : ∀ b o, X.base.get? b = some o -> s.heap.get? b = some o := fun b o e => (I.bs b o e).1
theorem Inv.mod (I : Inv X pins σ H s) : Mod X.K X.mg X.base := I.ok.mod
theorem Inv.kIn (I : Inv X pins σ H s) : X.K.In s.heap := I.ok.mod.kin.keeps I.bk
theorem Inv.nolimit (I : Inv X pins σ H s) : s.heap.NoLimit := I.ok.mod.nolimit.keeps I.bk
theorem Inv.fr (I : Inv X pins σ H s) : ∃ m, Fr X.base X.env.locals s.heap m :=
 let ⟨m, hn, _⟩ := I.loc
 ⟨m, hn, I.bk, Nat.le_trans I.ok.bsz I.ok.above⟩
theorem Inv.lt (I : Inv X pins σ H s) : X.env.locals < s.heap.objs.size := let ⟨_, hn, _⟩ := I.loc; hn.lt
theorem Inv.sz (I : Inv X pins σ H s) : X.s₀.heap.objs.size <= s.heap.objs.size := Nat.le_trans I.ok.above (Nat.le_of_lt I.lt)
theorem Inv.nofs (I : Inv X pins σ H s) {a : Addr} (h : s.heap.objs.size <= a) : a ∉ X.fs := fun hb => by
 obtain ⟨_, o, ho, _⟩ := I.ok.funs.mem hb
 exact absurd (Nat.lt_of_lt_of_le (Heap.lt_size ho) (Nat.le_trans I.sz h)) (Nat.lt_irrefl _)
theorem Inv.cne (I : Inv X pins σ H s) : ∀ x c, X.env.cells.lookup x = some c -> c ≠ X.env.locals := fun x c e z => by
 obtain ⟨v, o, ho, hd⟩ := I.cell x c e
 obtain ⟨m, ⟨o', es, ep, ho', hd', _⟩, _⟩ := I.loc
 rw [z, ho'] at ho; cases ho; rw [hd'] at hd; cases hd
theorem Inv.funs (I : Inv X pins σ H s) : s.heap.FunFrames X.base X.outer := by
 have all : ∀ (l : List Env), (∀ b ∈ frs l, b ∈ X.fs) -> X.s₀.heap.FunFrames X.base l -> s.heap.FunFrames X.base l := by
   intro l
   induction l with
   | nil => intro _ _; trivial
   | cons env r ih =>
     intro hs hl
     obtain ⟨hk, ⟨L, o, hf, hn, ho, hd⟩, hr⟩ := hl
     have hL : L ∈ X.fs := hs L (by unfold frs; rw [List.filterMap_cons, hf]; exact List.mem_cons_self)
     obtain ⟨sl, e⟩ := I.base.slot L o ho (I.ok.frf L hL) hL fun z => I.ok.exfs L z hL
     exact ⟨hk, ⟨L, _, hf, hn, e, hd⟩, ih (fun b hb => hs b (by unfold frs; rw [List.filterMap_cons, hf]; exact List.mem_cons_of_mem _ hb)) hr⟩
 exact all X.outer (fun _ hb => hb) I.ok.funs
theorem Inv.stack (I : Inv X pins σ H s) : s.heap.FunFrames X.base X.stack := by
 rcases I.ok.stk with e | ⟨e, hf⟩
 · rw [e]; exact I.funs
 · rw [e]
   obtain ⟨m, hn, _⟩ := I.loc
   refine .cons (by rw [I.ok.kind]; decide) hf hn ?_ I.funs
   exact Heap.get?_none_of_le (Nat.le_trans I.ok.bsz I.ok.above)
theorem Inv.stkSub (I : Inv X pins σ H s) : ∀ b ∈ frs X.stack, b ∈ X.env.locals :: X.fs := fun b hb => by
 rcases I.ok.stk with e | ⟨e, hf⟩
 · rw [e] at hb; exact List.mem_cons_of_mem _ hb
 · rw [e] at hb
   unfold frs at hb
   rw [List.filterMap_cons, hf] at hb
   exact hb
theorem Inv.stkFree (I : Inv X pins σ H s) : ∀ b ∈ frs X.stack, H b = none := fun b hb => by
 rcases List.mem_cons.mp (I.stkSub b hb) with e | hb
 · rw [e]; exact I.free
 · obtain ⟨_, o, ho, _⟩ := I.ok.funs.mem hb
   exact I.base.free b o ho (I.ok.frf b hb) fun z => I.ok.exfs b z hb
theorem Inv.step {g' : Array GenState} {t' : Nat} {d' : Drawn} {ch : List Addr} (I : Inv X pins σ H s)
   (hch : ∀ b ∈ ch, (b ∈ X.ex ∨ X.s₀.heap.objs.size <= b) /\ b ≠ X.env.locals /\ (∀ x c, X.env.cells.lookup x = some c -> c ≠ b) /\ ∀ p ∈ X.pn ++ pins, p.1 ≠ b)
   (keep : ∀ b o, b ≠ X.env.locals -> b ∉ X.fs -> b ∉ ch -> s.heap.get? b = some o -> H b = none -> h'.get? b = some o)
   (slot : ∀ b o, b ≠ X.env.locals -> b ∈ X.fs -> b ∉ ch -> s.heap.get? b = some o -> H b = none -> ∃ sl, h'.get? b = some { o with slots := sl }) (free : ∀ b o, b ∉ ch -> s.heap.get? b = some o -> H b = none -> H' b = none)
   (there : ∀ b o, b ∉ ch -> s.heap.get? b = some o -> ∃ o', h'.get? b = some o')
   (tups : ∀ b xs, H b = some (.tup xs) -> H' b = some (.tup xs)) (frzs : ∀ b o u, H b = some (.frz o u) -> H' b = some (.frz o u)) (tbls : ∀ b ps, H b = some (.tbl ps) -> ∃ more, H' b = some (.tbl (ps ++ more)))
   (ns : ∀ m, s.heap.Ns X.env.locals m -> h'.Ns X.env.locals m) (hok : HOk X.prog X.w H' h') (hg : AllBare g') :
   Inv X pins σ H' { s with heap := h', gens := g', drawn := d', toks := t' } := by
 have neL : ∀ b o, X.s₀.heap.get? b = some o -> b ≠ X.env.locals := fun b o e => Nat.ne_of_lt (Nat.lt_of_lt_of_le (Heap.lt_size e) I.ok.above)
 have neC : ∀ b o, X.s₀.heap.get? b = some o -> b ∉ X.ex -> b ∉ ch := fun b o e hx hb => by
   rcases (hch b hb).1 with z | z
   · exact hx z
   · exact absurd (Nat.lt_of_lt_of_le (Heap.lt_size e) z) (Nat.lt_irrefl _)
 have cellK : ∀ x c, X.env.cells.lookup x = some c -> ∀ v, s.heap.IsCell c v -> h'.IsCell c v := fun x c e v ⟨o, ho, hd⟩ => by
   have nch : c ∉ ch := fun z => (hch c z).2.2.1 x c e rfl
   by_cases hc : c ∈ X.fs
   · obtain ⟨sl, q⟩ := slot c o (I.cne x c e) hc nch ho (I.freeC x c e)
     exact ⟨_, q, hd⟩
   · exact ⟨o, keep c o (I.cne x c e) hc nch ho (I.freeC x c e), hd⟩
 refine ⟨I.ok, I.os, hg, ⟨fun b o e n hb hx => ?_, fun b o e n hb hx => ?_, fun b o e n hx => ?_, fun b o e hx => ?_, fun b xs e => tups b xs (I.base.tups b xs e), fun b o xs e => frzs b o xs (I.base.frzs b o xs e), fun b ps e => ?_⟩, ?_, fun x c e => ?_, ?_, fun x c e => ?_, fun p hp => ?_, hok, I.len⟩
 · exact keep b o (neL b o e) hb (neC b o e hx) (I.base.keep b o e n hb hx) (I.base.free b o e n hx)
 · obtain ⟨sl, e1⟩ := I.base.slot b o e n hb hx
   obtain ⟨sl', e2⟩ := slot b _ (neL b o e) hb (neC b o e hx) e1 (I.base.free b o e n hx)
   exact ⟨sl', e2⟩
 · obtain ⟨o', e1⟩ := I.base.there b o e hx
   exact free b o' (neC b o e hx) e1 (I.base.free b o e n hx)
 · obtain ⟨o', e1⟩ := I.base.there b o e hx
   exact there b o' (neC b o e hx) e1
 · obtain ⟨m1, e1⟩ := I.base.tbls b ps e
   obtain ⟨m2, e2⟩ := tbls b _ e1
   exact ⟨m1 ++ m2, by rw [e2, Array.append_assoc]⟩
 · obtain ⟨m, hn, hl⟩ := I.loc
   refine ⟨m, ns m hn, fun i x v e1 e2 e3 => ?_⟩
   obtain ⟨u, r, l⟩ := hl i x v e1 e2 e3
   refine ⟨u, r, ?_⟩
   rcases l with l | ⟨k, c, e, z⟩
   · exact .inl l
   · exact .inr ⟨k, c, e, cellK x c e _ z⟩
 · obtain ⟨v, z⟩ := I.cell x c e
   exact ⟨v, cellK x c e v z⟩
 · obtain ⟨m, ⟨o, _, _, ho, _⟩, _⟩ := I.loc
   exact free _ o (fun z => (hch _ z).2.1 rfl) ho I.free
 · obtain ⟨v, o, ho, hd⟩ := I.cell x c e
   exact free c o (fun z => (hch c z).2.2.1 x c e rfl) ho (I.freeC x c e)
 · obtain ⟨e, n, ne, nf, d⟩ := I.pin p hp
   have nch : p.1 ∉ ch := fun z => (hch p.1 z).2.2.2 p hp rfl
   exact ⟨keep p.1 p.2 ne nf nch e n, free p.1 p.2 nch e n, ne, nf, d⟩
theorem Inv.un {t' : Nat} (I : Inv X pins σ H s) (u : Un X.fs [] H H' s.heap h') (hok : HOk X.prog X.w H' h') : Inv X pins σ H' { s with heap := h', toks := t' } := by
 obtain ⟨m, ⟨o, es, ep, ho, r⟩, _⟩ := id I.loc
 obtain ⟨sl, hL⟩ := u.any ho I.free (by simp)
 exact I.step (g' := s.gens) (d' := s.drawn) (ch := []) (fun _ z => nomatch z) (fun b o _ hb _ e n => u.keep b o e n hb (by simp)) (fun b o _ hb _ e n => u.slot b o e n hb (by simp)) (fun b o _ e n => u.free b o e n (by simp)) (fun b o _ e => u.there b o e (by simp)) u.tups u.frzs u.tbls (fun m' hm => by
   obtain ⟨o', es', ep', ho', r'⟩ := hm
   rw [ho] at ho'; cases ho'
   exact ⟨_, es', ep', hL, r'⟩) hok I.bare
theorem Inv.call {g' : Array GenState} {t' : Nat} {d' : Drawn} {ch : List Addr} (I : Inv X pins σ H s) (u : Un (frs X.stack) ch H H' s.heap h') (hok : HOk X.prog X.w H' h') (hg : AllBare g')
   (hch : ∀ b ∈ ch, (b ∈ X.ex ∨ X.s₀.heap.objs.size <= b) /\ b ≠ X.env.locals /\ (∀ x c, X.env.cells.lookup x = some c -> c ≠ b) /\ ∀ p ∈ X.pn ++ pins, p.1 ≠ b) :
   Inv X pins σ H' { s with heap := h', gens := g', drawn := d', toks := t' } := by
 obtain ⟨m, ⟨o, es, ep, ho, r⟩, _⟩ := id I.loc
 obtain ⟨sl, hL⟩ := u.any ho I.free fun z => (hch _ z).2.1 rfl
 exact I.step (ch := ch) hch (fun b o hL hb hc e n => u.keep b o e n (fun z => (List.mem_cons.mp (I.stkSub b z)).elim hL hb) hc) (fun b o _ _ hc e n => u.any e n hc) (fun b o hc e n => u.free b o e n hc) (fun b o hc e => u.there b o e hc) u.tups u.frzs u.tbls (fun m' hm => by
   obtain ⟨o', es', ep', ho', r'⟩ := hm
   rw [ho] at ho'; cases ho'
   exact ⟨_, es', ep', hL, r'⟩) hok hg
theorem Inv.turned {t' : Nat} {it : Addr} (I : Inv X pins σ H s) (k : ∀ b o, b ≠ it -> s.heap.get? b = some o -> h'.get? b = some o) (hn : H it = none) (hL : it ≠ X.env.locals)
   (h1 : it ∈ X.ex ∨ X.s₀.heap.objs.size <= it) (h2 : ∀ x c, X.env.cells.lookup x = some c -> c ≠ it) (h3 : ∀ p ∈ X.pn ++ pins, p.1 ≠ it) : Inv X pins σ H { s with heap := h', toks := t' } := by
 have nit : ∀ b u, H b = some u -> b ≠ it := fun b u e z => by rw [z, hn] at e; cases e
 refine I.step (g' := s.gens) (d' := s.drawn) (ch := [it]) (fun b hb => ?_) (fun b o _ _ hc e _ => k b o (fun z => hc (by simp [z])) e) (fun b o _ _ hc e _ => ⟨o.slots, k b o (fun z => hc (by simp [z])) e⟩) (fun _ _ _ _ n => n)
   (fun b o hc e => ⟨o, k b o (fun z => hc (by simp [z])) e⟩) (fun _ _ e => e) (fun _ _ _ e => e) (fun b ps e => ⟨#[], by rw [e]; simp⟩) (fun m hm => ?_) (fun b u e => ?_) I.bare
 · have e : b = it := by simpa using hb
   subst e
   exact ⟨h1, hL, h2, h3⟩
 · obtain ⟨o, es, ep, ho, r⟩ := hm
   exact ⟨o, es, ep, k _ o (Ne.symm hL) ho, r⟩
 · refine (I.hok b u e).stay (fun c v hc q => k c v ?_ q) (fun _ q => q) fun _ _ q => q
   rcases hc with z | z
   · rw [z]; exact nit b u e
   · exact nit c _ z
theorem Inv.tok (I : Inv X pins σ H s) (t : Nat) : Inv X pins σ H { s with toks := t } := I.un (h' := s.heap) (t' := t) Un.refl I.hok
theorem Inv.kept {t' : Nat} (I : Inv X pins σ H s) (k : ∀ b u, s.heap.get? b = some u -> h'.get? b = some u) : Inv X pins σ H { s with heap := h', toks := t' } := I.un (Un.kept k) (I.hok.kept k)
theorem Inv.laid {a : Addr} {o : HO} {t' : Nat} (I : Inv X pins σ H s) (k : ∀ b u, s.heap.get? b = some u -> h'.get? b = some u) (hp : s.heap.objs.size <= a) (new : ObjOk X.prog X.w (upd H a o) h' a o) :
   Inv X pins σ (upd H a o) { s with heap := h', toks := t' } := I.un (Un.laid k hp (I.hok.fresh hp)) (I.hok.laid k hp new)
theorem Inv.write {x e : Addr} {o : HO} {t' : Nat} (I : Inv X pins σ H s) (mu : Mut (H x)) (he : e = x ∨ H e = some (.own x)) (k : ∀ b u, b ≠ e -> s.heap.get? b = some u -> h'.get? b = some u) (heo : ∃ u, h'.get? e = some u)
   (new : ObjOk X.prog X.w (upd H x o) h' x o) : Inv X pins σ (upd H x o) { s with heap := h', toks := t' } := I.un (Un.write mu he k heo) (I.hok.write mu he k heo new)
theorem Inv.pins_of {pins' : List (Addr × Obj)} (I : Inv X pins σ H s) (h : ∀ p ∈ pins', s.heap.get? p.1 = some p.2 /\ H p.1 = none /\ p.1 ≠ X.env.locals /\ p.1 ∉ X.fs /\ ∀ v, p.2.data ≠ .cell v) : Inv X pins' σ H s :=
 ⟨I.ok, I.os, I.bare, I.base, I.loc, I.cell, I.free, I.freeC, fun p hp => (List.mem_append.mp hp).elim (fun z => I.pin p (List.mem_append_left _ z)) (h p), I.hok, I.len⟩
theorem nodup_ix {N : List Str} (hN : N.Nodup) {i j : Nat} {x : Str} (a : N[i]? = some x) (b : N[j]? = some x) : i = j := by
 obtain ⟨h1, e1⟩ := List.getElem?_eq_some_iff.mp a
 obtain ⟨h2, e2⟩ := List.getElem?_eq_some_iff.mp b
 exact (List.getElem_inj hN).mp (e1.trans e2.symm)
theorem store_ok2 {M : Model} {A : Around} {E : Value -> Shared -> Prop} {i : Nat} {x : Str} {v : V} {u : Value} {Q : Unit -> Shared -> Prop} (I : Inv X pins σ H s) (hN : X.N.Nodup) (hi : X.N[i]? = some x) (hx : Loc X.env.scope x) (r : RelV v u)
   (h : ∀ s', Inv X pins (σ.set i (some v)) H s' -> (∃ a, Heap.SameBut a s.heap s'.heap /\ (a = X.env.locals ∨ X.env.cells.lookup x = some a)) -> Q () s') (hf : X.fn x = true ∨ X.env.scope.names.lookup x = some .local := by first | exact .inl rfl | exact .inr rfl | assumption) : wpAny M A (storeName X.env x u) Q E s := by
 obtain ⟨m, hn, hl⟩ := id I.loc
 have hcls : (X.env.scope.kind == .class || (X.env.scope.kind == .module && X.env.locals != X.env.globals)) = false := by rw [I.ok.kind]; rfl
 have hiσ : i < σ.length := by rw [I.len]; exact (List.getElem?_eq_some_iff.mp hi).1
 have cne := I.cne
 have tracked : ∀ {a : Addr} {h' : Heap}, (∃ o, s.heap.get? a = some o /\ H a = none) -> Heap.SameBut a s.heap h' -> HOk X.prog X.w H h' := fun {a h'} ha hs b ob e => by
   obtain ⟨_, _, hfree⟩ := ha
   refine (I.hok b ob e).stay (fun c w' hc q => (hs.2 c ?_).trans q) (fun _ q => q) fun _ _ q => q
   rintro rfl
   rcases hc with rfl | hc
   · rw [hfree] at e; cases e
   · rw [hfree] at hc; cases hc
 rcases hx with hk | hk
 · refine wpAny_storeName_local hk hn (fun h' hn' hs => ?_) hcls
   obtain ⟨oL, _, _, hoL, _⟩ := id hn
   refine h _ ⟨I.ok, I.os, I.bare, ⟨fun b o e n hb hx => ?_, fun b o e n hb hx => ?_, I.base.free, fun b o e hx => ?_, I.base.tups, I.base.frzs, I.base.tbls⟩, ⟨_, hn', fun j y v' e1 e2 e3 => ?_⟩, fun y c e => ?_, I.free, I.freeC, fun p hp => ?_, tracked ⟨oL, hoL, I.free⟩ hs, by simpa using I.len⟩ ⟨_, hs, .inl rfl⟩
   · exact (hs.2 b (Nat.ne_of_lt (Nat.lt_of_lt_of_le (Heap.lt_size e) I.ok.above))).trans (I.base.keep b o e n hb hx)
   · obtain ⟨sl, e1⟩ := I.base.slot b o e n hb hx
     exact ⟨sl, (hs.2 b (Nat.ne_of_lt (Nat.lt_of_lt_of_le (Heap.lt_size e) I.ok.above))).trans e1⟩
   · obtain ⟨o', e1⟩ := I.base.there b o e hx
     exact ⟨o', (hs.2 b (Nat.ne_of_lt (Nat.lt_of_lt_of_le (Heap.lt_size e) I.ok.above))).trans e1⟩
   · by_cases hj : j = i
     · subst hj
       rw [hi] at e1; cases e1
       rw [List.getElem?_set_self hiσ] at e2
       cases e2
       exact ⟨u, r, .inl ⟨hk, by simp⟩⟩
     · rw [List.getElem?_set_ne (Ne.symm hj)] at e2
       obtain ⟨u', r', q⟩ := hl j y v' e1 e2 e3
       refine ⟨u', r', ?_⟩
       rcases q with ⟨k, e⟩ | ⟨k, c, e, z⟩
       · refine .inl ⟨k, ?_⟩
         have : y ≠ x := fun e => hj (nodup_ix hN e1 (e ▸ hi))
         simp [this, e]
       · exact .inr ⟨k, c, e, z.sameBut hs (cne y c e)⟩
   · obtain ⟨w', z⟩ := I.cell y c e
     exact ⟨w', z.sameBut hs (cne y c e)⟩
   · obtain ⟨e, n, ne, nf, d⟩ := I.pin p hp
     exact ⟨(hs.2 p.1 ne).trans e, n, ne, nf, d⟩
 · have hfn : X.fn x = true := by
     rcases hf with z | z
     · exact z
     · rw [z] at hk; cases hk
   obtain ⟨c, hc⟩ := I.ok.has x (.inl hk)
   obtain ⟨w', z⟩ := I.cell x c hc
   refine wpAny_storeName_cell I.ok.kind hk hc z (fun h' hc' hs => ?_)
   obtain ⟨oc, hoc, hocd⟩ := id z
   refine h { s with heap := h' } ⟨I.ok, I.os, I.bare, ⟨fun b o e n hb hx => ?_, fun b o e n hb hx => ?_, I.base.free, fun b o e hx => ?_, I.base.tups, I.base.frzs, I.base.tbls⟩, ⟨m, hn.sameBut hs (Ne.symm (cne x c hc)), fun j y v' e1 e2 e3 => ?_⟩, fun y c' e => ?_, I.free, I.freeC, fun p hp => ?_, tracked ⟨oc, hoc, I.freeC x c hc⟩ hs, by simpa using I.len⟩ ⟨c, hs, .inr hc⟩
   · exact (hs.2 b (Nat.ne_of_lt (Nat.lt_of_lt_of_le (Heap.lt_size e) (I.ok.cab x c hfn hc)))).trans (I.base.keep b o e n hb hx)
   · obtain ⟨sl, e1⟩ := I.base.slot b o e n hb hx
     exact ⟨sl, (hs.2 b (Nat.ne_of_lt (Nat.lt_of_lt_of_le (Heap.lt_size e) (I.ok.cab x c hfn hc)))).trans e1⟩
   · obtain ⟨o', e1⟩ := I.base.there b o e hx
     exact ⟨o', (hs.2 b (Nat.ne_of_lt (Nat.lt_of_lt_of_le (Heap.lt_size e) (I.ok.cab x c hfn hc)))).trans e1⟩
   · by_cases hj : j = i
     · subst hj
       rw [hi] at e1; cases e1
       rw [List.getElem?_set_self hiσ] at e2
       cases e2
       exact ⟨u, r, .inr ⟨.inl hk, c, hc, hc'⟩⟩
     · rw [List.getElem?_set_ne (Ne.symm hj)] at e2
       obtain ⟨u', r', q⟩ := hl j y v' e1 e2 e3
       refine ⟨u', r', ?_⟩
       rcases q with q | ⟨k, c', e, z'⟩
       · exact .inl q
       · refine .inr ⟨k, c', e, z'.sameBut hs ?_⟩
         rintro rfl
         exact hj (nodup_ix hN e1 (I.ok.inj _ _ _ e hc ▸ hi))
   · by_cases hcc : c' = c
     · subst hcc; exact ⟨_, hc'⟩
     · obtain ⟨w2, z2⟩ := I.cell y c' e
       exact ⟨w2, z2.sameBut hs hcc⟩
   · obtain ⟨e, n, ne, nf, d⟩ := I.pin p hp
     refine ⟨(hs.2 p.1 ?_).trans e, n, ne, nf, d⟩
     intro q
     rw [q, hoc] at e
     have q' : oc = p.2 := Option.some.inj e
     exact d w' (by rw [← q']; exact hocd)
theorem store_ok {M : Model} {A : Around} {E : Value -> Shared -> Prop} {i : Nat} {x : Str} {v : V} {u : Value} {Q : Unit -> Shared -> Prop} (I : Inv X pins σ H s) (hN : X.N.Nodup) (hi : X.N[i]? = some x) (hx : Loc X.env.scope x) (r : RelV v u)
   (h : ∀ s', Inv X pins (σ.set i (some v)) H s' -> Q () s') (hf : X.fn x = true ∨ X.env.scope.names.lookup x = some .local := by first | exact .inl rfl | exact .inr rfl | assumption) : wpAny M A (storeName X.env x u) Q E s :=
 store_ok2 I hN hi hx r (fun s' I' _ => h s' I') hf
theorem Inv.call' {s' : Shared} {ch : List Addr} (I : Inv X pins σ H s) (ho : s'.os = s.os) (u : Un (frs X.stack) ch H H' s.heap s'.heap) (hok : HOk X.prog X.w H' s'.heap) (hg : AllBare s'.gens)
   (hch : ∀ b ∈ ch, (b ∈ X.ex ∨ X.s₀.heap.objs.size <= b) /\ b ≠ X.env.locals /\ (∀ x c, X.env.cells.lookup x = some c -> c ≠ b) /\ ∀ p ∈ X.pn ++ pins, p.1 ≠ b) : Inv X pins σ H' s' := by
 obtain ⟨h', g', d', t', o'⟩ := s'
 have e : o' = s.os := ho
 subst e
 exact I.call (g' := g') (t' := t') (d' := d') u hok hg hch
end
abbrev XK := Value -> Option Addr -> Hp -> Prop
abbrev St := List (Option V)
abbrev VK := V -> Hp -> Prop
abbrev TE := St -> Hp -> VK -> Prop
abbrev TT := St -> Hp -> (Bool -> Hp -> Prop) -> Prop
abbrev TA := St -> Hp -> (List V -> Hp -> Prop) -> Prop
structure Ends where
 nx : St -> Hp -> Prop
 rt : VK
 bk : St -> Hp -> Prop := fun _ _ => False
 ct : St -> Hp -> Prop := fun _ _ => False
abbrev TS := Ends -> St -> Hp -> Prop
def EP (X : Cx) (pins : List (Addr × Obj)) (σ : St) (Q : VK) (u : Value) (s' : Shared) : Prop := ∃ v H', Inv X pins σ H' s' /\ RelV v u /\ Q v H'
def TP (X : Cx) (pins : List (Addr × Obj)) (σ : St) (Q : Bool -> Hp -> Prop) (b : Bool) (s' : Shared) : Prop := ∃ H', Inv X pins σ H' s' /\ Q b H'
def AP (X : Cx) (pins : List (Addr × Obj)) (σ : St) (Q : List V -> Hp -> Prop) (us : List Value) (s' : Shared) : Prop := ∃ vs H', Inv X pins σ H' s' /\ Vals vs us /\ Q vs H'
def SP (X : Cx) (pins : List (Addr × Obj)) (D : Ends) (f : Flow) (s' : Shared) : Prop :=
 match f with
 | .next => ∃ σ' H', Inv X pins σ' H' s' /\ D.nx σ' H'
 | .brk => ∃ σ' H', Inv X pins σ' H' s' /\ D.bk σ' H'
 | .cont => ∃ σ' H', Inv X pins σ' H' s' /\ D.ct σ' H'
 | .ret u => ∃ v σ' H', Inv X pins σ' H' s' /\ RelV v u /\ D.rt v H'
def PE (X : Cx) (e : Expr) (t : TE) : Prop :=
 ∀ (pins : List (Addr × Obj)) (s : Shared) (σ : St) (H : Hp) (Q : VK), Inv X pins σ H s -> t σ H Q -> wpAny (model X.prog X.w) X.A (eval e X.env) (EP X pins σ Q) X.xe s
def PT (X : Cx) (e : Expr) (t : TT) : Prop :=
 ∀ (pins : List (Addr × Obj)) (s : Shared) (σ : St) (H : Hp) (Q : Bool -> Hp -> Prop), Inv X pins σ H s -> t σ H Q -> wpAny (model X.prog X.w) X.A (isTrue e X.env (eval e X.env)) (TP X pins σ Q) X.xe s
def PW (X : Cx) (e : Expr) (t : TT) : Prop :=
 ∀ (whole : Sem Value) (pins : List (Addr × Obj)) (s : Shared) (σ : St) (H : Hp) (Q : Bool -> Hp -> Prop), Inv X pins σ H s -> t σ H Q -> wpAny (model X.prog X.w) X.A (isTrue e X.env whole) (TP X pins σ Q) X.xe s
theorem PW.pt {X : Cx} {e : Expr} {t : TT} (h : PW X e t) : PT X e t := h _
def PA (X : Cx) (es : List Expr) (t : TA) : Prop :=
 ∀ (pos : Pos) (pins : List (Addr × Obj)) (s : Shared) (σ : St) (H : Hp) (Q : List V -> Hp -> Prop), Inv X pins σ H s -> t σ H Q -> wpAny (model X.prog X.w) X.A (spliced (backTo pos (starEach es X.env))) (AP X pins σ Q) X.xe s
def PS (X : Cx) (st : Stmt) (t : TS) : Prop :=
 ∀ (pins : List (Addr × Obj)) (s : Shared) (σ : St) (H : Hp) (D : Ends), Inv X pins σ H s -> t D σ H -> wpAny (model X.prog X.w) X.A (exec st X.env) (SP X pins D) X.xe s
def PSs (X : Cx) (st : List Stmt) (t : TS) : Prop :=
 ∀ (pins : List (Addr × Obj)) (s : Shared) (σ : St) (H : Hp) (D : Ends), Inv X pins σ H s -> t D σ H -> wpAny (model X.prog X.w) X.A (execs st X.env) (SP X pins D) X.xe s
theorem thn {α : Type} {t : Sem α} {Q Q' : α -> Shared -> Prop} {M : Model} {A : Around} {E : Value -> Shared -> Prop} {s : Shared} (h : wpAny M A t Q E s) (hQ : ∀ a s, Q a s -> Q' a s) : wpAny M A t Q' E s := wpAny_mono h hQ fun _ _ x => x
end L2
namespace L2
open PySem PySem.Spec PyProof.Rows
section
variable {X : Cx}
def tVar (i : Nat) : TE := fun σ H Q => ∃ v, σ[i]? = some (some v) /\ Q v H
def tC (v : V) : TE := fun _ H Q => Q v H
theorem pe_var {i : Nat} {x : Str} {pos : Pos} (hN : X.N[i]? = some x) (hv : Vis X.env.scope x) (hd : (x == ("__debug__" : Str)) = false := by decide) (hcd : (x == ("__classdict__" : Str)) = false := by decide) : PE X (.Name x pos) (tVar i) := by
 intro pins s σ H Q I h
 obtain ⟨v, e, h⟩ := h
 obtain ⟨m, hn, hl⟩ := I.loc
 obtain ⟨u, r, l⟩ := hl i x v hN e hv
 have fin : EP X pins σ Q u s := ⟨v, H, I, r, h⟩
 rcases l with ⟨hk, hm⟩ | ⟨hk, c, hc, hcell⟩
 · exact wpAny_Name (wpAny_loadName_local I.ok.kind hk hn hm fin) hd
 · rcases hk with hk | hk
   · exact wpAny_Name (wpAny_loadName_cell I.ok.kind hk hc hcell fin) hd
   · exact wpAny_Name (wpAny_loadName_free I.ok.kind hk hc hcell fin hcd) hd
theorem pe_int {i j pos} : PE X (.Constant (.int i) j pos) (tC (.int i)) := fun _ _ _ H _ I h => wpAny_Constant_int ⟨.int i, H, I.tok _, ⟨_, rfl⟩, h⟩
theorem pe_bl {b j pos} : PE X (.Constant (.bool b) j pos) (tC (.bl b)) := fun _ _ _ H _ I h => Constant_bool ⟨.bl b, H, I, rfl, h⟩
theorem pe_non {j pos} : PE X (.Constant .none j pos) (tC .non) := fun _ _ _ H _ I h => Constant_none ⟨.non, H, I, rfl, h⟩
theorem pe_str {x j pos} : PE X (.Constant (.str x) j pos) (tC (.str x)) := fun _ _ _ H _ I h => Calls.Constant_str ⟨.str x, H, I.tok _, ⟨_, rfl⟩, h⟩
def Gl (X : Cx) (x : Str) : Prop := X.env.kindOf x = some .globalImplicit
theorem ld_glob {E : Value -> Shared -> Prop} {pins : List (Addr × Obj)} {s : Shared} {σ : St} {H : Hp} {x : Str} {u : Value} {pos : Pos} {Q : Value -> Shared -> Prop} (I : Inv X pins σ H s) (hg : Gl X x) (hm : X.mg x = some u) (h : Q u s)
   (hd : (x == ("__debug__" : Str)) = false := by decide) : wpAny (model X.prog X.w) X.A (eval (.Name x pos) X.env) Q E s :=
 Calls.Name_function_global I.ok.kind hg (Calls.loadGlobal_global (by rw [I.ok.glob]; exact I.mod.glob.keeps I.bk) hm h) hd
theorem ld_blt {E : Value -> Shared -> Prop} {pins : List (Addr × Obj)} {s : Shared} {σ : St} {H : Hp} {x : Str} {u : Value} {pos : Pos} {Q : Value -> Shared -> Prop} (I : Inv X pins σ H s) (hg : Gl X x) (hm : X.mg x = none) (hv : bootBuiltins x = some u) (h : Q u s)
   (hn : x ≠ "__name__" := by decide) (hd : (x == ("__debug__" : Str)) = false := by decide) : wpAny (model X.prog X.w) X.A (eval (.Name x pos) X.env) Q E s := by
 obtain ⟨mb, h1, h2⟩ := I.mod.blt
 exact Calls.Name_function_global I.ok.kind hg (Calls.loadGlobal_builtin (by rw [I.ok.glob]; exact I.mod.glob.keeps I.bk) hm (by rw [I.ok.blt]; exact h1.keeps I.bk) ((h2 x hn).trans hv) h) hd
theorem pe_glob {x : Str} {v : V} {u : Value} {pos : Pos} (hg : Gl X x) (hm : X.mg x = some u) (r : RelV v u) (hd : (x == ("__debug__" : Str)) = false := by decide) : PE X (.Name x pos) (tC v) :=
 fun _ _ _ H _ I h => ld_glob I hg hm ⟨v, H, I, r, h⟩ hd
theorem pe_bltn {x : Str} {v : V} {u : Value} {pos : Pos} (hg : Gl X x) (hm : X.mg x = none) (hv : bootBuiltins x = some u) (r : RelV v u) (hn : x ≠ "__name__" := by decide) (hd : (x == ("__debug__" : Str)) = false := by decide) : PE X (.Name x pos) (tC v) :=
 fun _ _ _ H _ I h => ld_blt I hg hm hv ⟨v, H, I, r, h⟩ hn hd
variable {a b : Expr} {ta tb : TE} {pos : Pos}
def tB (t : TE) : TT := fun σ H Q => t σ H fun x H1 => ∃ c, x = .bl c /\ Q c H1
theorem pt_val {e : Expr} {t : TE} (h : PE X e t) (he : ∀ whole, isTrue e X.env whole = (do let v ← whole; standAt e.pos; holding [v] (truthy v)) := by intro _; rfl) : PT X e (tB t) := by
 intro pins s σ H Q I hw
 refine isTrue_plain (thn (h pins s σ H _ I hw) fun v s1 ⟨x, H1, I1, r1, q1⟩ => ?_) (he _)
 obtain ⟨d, rfl, q⟩ := q1
 cases r1
 exact wpAny_truthy_bool ⟨H1, I1, q⟩
variable {tA tB' : TT} {rest : List Expr}
def tAnd (t u : TT) : TT := fun σ H Q => t σ H fun c H1 => if c = true then u σ H1 Q else Q false H1
def tOr (t u : TT) : TT := fun σ H Q => t σ H fun c H1 => if c = true then Q true H1 else u σ H1 Q
def tNot (t : TT) : TT := fun σ H Q => t σ H fun c H1 => Q (!c) H1
theorem pw_and1 (ha : PT X a tA) : PW X (.BoolOp .And [a] pos) tA := by
 intro wh pins s σ H Q I h
 refine isTrue_and (thn (ha pins s σ H Q I h) fun c s1 e => ?_)
 cases c with
 | true => exact isTrue_and_nil e
 | false => exact e
theorem pw_or1 (ha : PT X a tA) : PW X (.BoolOp .Or [a] pos) tA := by
 intro wh pins s σ H Q I h
 refine isTrue_or (thn (ha pins s σ H Q I h) fun c s1 e => ?_)
 cases c with
 | false => exact isTrue_or_nil e
 | true => exact e
theorem pw_and (ha : PT X a tA) (hb : PW X (.BoolOp .And (b :: rest) pos) tB') : PW X (.BoolOp .And (a :: b :: rest) pos) (tAnd tA tB') := by
 intro wh pins s σ H Q I h
 refine isTrue_and (thn (ha pins s σ H _ I h) fun c s1 ⟨H1, I1, q1⟩ => ?_)
 cases c with
 | true => exact hb wh pins s1 σ H1 Q I1 q1
 | false => exact ⟨H1, I1, q1⟩
theorem pw_or (ha : PT X a tA) (hb : PW X (.BoolOp .Or (b :: rest) pos) tB') : PW X (.BoolOp .Or (a :: b :: rest) pos) (tOr tA tB') := by
 intro wh pins s σ H Q I h
 refine isTrue_or (thn (ha pins s σ H _ I h) fun c s1 ⟨H1, I1, q1⟩ => ?_)
 cases c with
 | true => exact ⟨H1, I1, q1⟩
 | false => exact hb wh pins s1 σ H1 Q I1 q1
theorem pt_not (ha : PT X a tA) : PT X (.UnaryOp .Not a pos) (tNot tA) := by
 intro pins s σ H Q I h
 exact isTrue_not (ha pins s σ H (fun c H1 => Q (!c) H1) I h)
def tAndV (ta tb : TE) : TE := fun σ H Q => ta σ H fun x H1 => ∃ c, x = .bl c /\ if c = true then tb σ H1 Q else Q (.bl false) H1
def tNotV (ta : TE) : TE := fun σ H Q => ta σ H fun x H1 => ∃ c, x = .bl c /\ Q (.bl (!c)) H1
theorem pe_one {op} {t : TE} (h : PE X a t) : PE X (.BoolOp op [a] pos) t := fun pins s σ H Q I hw => BoolOp_one (h pins s σ H Q I hw)
theorem pe_and (ha : PE X a ta) (hb : PE X (.BoolOp .And (b :: rest) pos) tb) : PE X (.BoolOp .And (a :: b :: rest) pos) (tAndV ta tb) := by
 intro pins s σ H Q I h
 refine BoolOp_and (thn (ha pins s σ H _ I h) fun v s1 ⟨x, H1, I1, r1, q1⟩ => ?_)
 obtain ⟨c, rfl, q1⟩ := q1
 cases r1
 refine wpAny_truthy_bool ?_
 cases c with
 | true => exact hb pins s1 σ H1 Q I1 q1
 | false => exact ⟨.bl false, H1, I1, rfl, q1⟩
theorem pe_not (ha : PE X a ta) : PE X (.UnaryOp .Not a pos) (tNotV ta) := by
 intro pins s σ H Q I h
 refine UnaryOp_ (thn (ha pins s σ H _ I h) fun v s1 ⟨x, H1, I1, r1, q1⟩ => ?_)
 obtain ⟨c, rfl, q1⟩ := q1
 cases r1
 exact not_of (wpAny_truthy_bool ⟨.bl (!c), H1, I1, rfl, q1⟩)
def tIf (t : TT) (ta tb : TE) : TE := fun σ H Q => t σ H fun c H1 => if c = true then ta σ H1 Q else tb σ H1 Q
theorem pe_ifExp {c : Expr} (hc : PT X c tA) (ha : PE X a ta) (hb : PE X b tb) : PE X (.IfExp c a b pos) (tIf tA ta tb) := by
 intro pins s σ H Q I h
 refine wpAny_IfExp (thn (hc pins s σ H _ I h) fun d s1 ⟨H1, I1, q1⟩ => ?_)
 cases d with
 | true => exact ha pins s1 σ H1 Q I1 q1
 | false => exact hb pins s1 σ H1 Q I1 q1
end
end L2
namespace L2
open PySem PySem.Spec PyProof.Rows
def SqL (K : PySem.W.Frag) (H : Hp) (a : Addr) (xs : List V) : Prop :=
 Rd H a (.lst xs) ∨
   ∃ (o : Obj) (its : Array Value) (n : Nat), K.lookup a = some o /\ o.cls = .type "list" /\ o.dict = none /\ o.data = .seq its n /\ its.size <= sizeLine /\ Vals xs its.toList
def SqT (K : PySem.W.Frag) (H : Hp) (a : Addr) (xs : List V) : Prop :=
 Rd H a (.tup xs) ∨
   ∃ (o : Obj) (its : Array Value) (n : Nat), K.lookup a = some o /\ o.cls = .type "tuple" /\ o.data = .seq its n /\ its.size <= sizeLine /\ Vals xs its.toList
def absV : Value -> Option V
 | .none => some .non
 | .bool b => some (.bl b)
 | .int i _ => some (.int i)
 | .str x _ => some (.str x)
 | .bytes b _ => some (.byt b)
 | .float b _ => some (.flt b)
 | .ref a => some (.ref a)
 | .type n => some (.ty n)
 | _ => none
theorem RelV.abs {x : V} {u : Value} (r : RelV x u) : absV u = some x := by
 cases x with
 | non => cases r; rfl
 | bl _ => cases r; rfl
 | int _ => obtain ⟨t, rfl⟩ := r; rfl
 | str _ => obtain ⟨t, rfl⟩ := r; rfl
 | byt _ => obtain ⟨t, rfl⟩ := r; rfl
 | flt _ => obtain ⟨t, rfl⟩ := r; rfl
 | ref _ => cases r; rfl
 | ty _ => cases r; rfl
theorem RelV.inj {x y : V} {u : Value} (r : RelV x u) (q : RelV y u) : x = y := Option.some.inj (r.abs.symm.trans q.abs)
theorem Vals.inj : ∀ {xs ys : List V} {us : List Value}, Vals xs us -> Vals ys us -> xs = ys
 | _, _, _, .nil, .nil => rfl
 | _, _, _, .cons r t, .cons r' t' => by rw [r.inj r', Vals.inj t t']
section
variable {X : Cx} {pins : List (Addr × Obj)} {σ : St} {H : Hp} {s : Shared} {a : Addr} {xs ys : List V}
theorem SqL.of {K : PySem.W.Frag} (h : H a = some (.lst xs)) : SqL K H a xs := .inl (.inl h)
theorem SqT.of {K : PySem.W.Frag} (h : H a = some (.tup xs)) : SqT K H a xs := .inl (.inl h)
theorem Inv.list (I : Inv X pins σ H s) (h : SqL X.K H a xs) : ∃ its : List Value, Vals xs its /\ PlainL s.heap a its.toArray /\ xs.length <= sizeLine := by
 rcases h with h | ⟨o, its, n, hk, hc, hd, hs, hz, r⟩
 · obtain ⟨z, its, n, r, e⟩ := h.ok I.hok
   exact ⟨its, r, ⟨_, n, e, rfl, rfl, rfl⟩, z⟩
 · refine ⟨its.toList, r, ⟨o, n, I.kIn a o hk, hc, hd, by simpa using hs⟩, ?_⟩
   have e := r.length
   simp only [Array.length_toList] at e
   omega
theorem Inv.tuple (I : Inv X pins σ H s) (h : SqT X.K H a xs) : ∃ its : List Value, Vals xs its /\ IsTup s.heap a its.toArray /\ xs.length <= sizeLine := by
 rcases h with h | ⟨o, its, n, hk, hc, hs, hz, r⟩
 · obtain ⟨z, its, r, p⟩ := h.ok I.hok
   exact ⟨its, r, p, z⟩
 · refine ⟨its.toList, r, ⟨o, I.kIn a o hk, hc, n, by simpa using hs⟩, ?_⟩
   have e := r.length
   simp only [Array.length_toList] at e
   omega
theorem Inv.list_inj (I : Inv X pins σ H s) (h : SqL X.K H a xs) (h' : SqL X.K H a ys) : xs = ys := by
 obtain ⟨its, r, ⟨o, n, e, _, _, d⟩, _⟩ := I.list h
 obtain ⟨its', r', ⟨o', n', e', _, _, d'⟩, _⟩ := I.list h'
 rw [e] at e'; cases e'
 rw [d] at d'
 injection d' with d1 _
 have : its = its' := by simpa using congrArg Array.toList d1
 subst this
 exact r.inj r'
theorem Inv.tuple_inj (I : Inv X pins σ H s) (h : SqT X.K H a xs) (h' : SqT X.K H a ys) : xs = ys := by
 obtain ⟨its, r, ⟨o, e, _, n, d⟩, _⟩ := I.tuple h
 obtain ⟨its', r', ⟨o', e', _, n', d'⟩, _⟩ := I.tuple h'
 rw [e] at e'; cases e'
 rw [d] at d'
 injection d' with d1 _
 have : its = its' := by simpa using congrArg Array.toList d1
 subst this
 exact r.inj r'
end
abbrev Cx.wish (X : Cx) (E : Value -> Shared -> Prop) : Cx := { X with xe := E }
abbrev Cx.nox (X : Cx) : Cx := X.wish fun _ _ => False
theorem Cx.Ok.wish {X : Cx} (ok : X.Ok) (E : Value -> Shared -> Prop) : (X.wish E).Ok :=
 ⟨ok.mod, ok.kind, ok.glob, ok.blt, ok.above, ok.inj, ok.has, ok.cab, ok.hd, ok.frames, ok.stk, ok.exf, ok.bs, ok.bsz, ok.noex, ok.exfs, ok.funs, ok.frf⟩
theorem Cx.Ok.unwish {X : Cx} {E : Value -> Shared -> Prop} (ok : (X.wish E).Ok) : X.Ok :=
 ⟨ok.mod, ok.kind, ok.glob, ok.blt, ok.above, ok.inj, ok.has, ok.cab, ok.hd, ok.frames, ok.stk, ok.exf, ok.bs, ok.bsz, ok.noex, ok.exfs, ok.funs, ok.frf⟩
section
variable {X : Cx} {pins : List (Addr × Obj)} {σ : St} {H : Hp} {s : Shared} {E : Value -> Shared -> Prop}
theorem Inv.wish (I : Inv X pins σ H s) (E : Value -> Shared -> Prop) : Inv (X.wish E) pins σ H s := ⟨I.ok.wish E, I.os, I.bare, I.base, I.loc, I.cell, I.free, I.freeC, I.pin, I.hok, I.len⟩
theorem Inv.unwish (I : Inv (X.wish E) pins σ H s) : Inv X pins σ H s := ⟨I.ok.unwish, I.os, I.bare, I.base, I.loc, I.cell, I.free, I.freeC, I.pin, I.hok, I.len⟩
theorem SP.unwish {D : Ends} {f : Flow} {s' : Shared} (h : SP (X.wish E) pins D f s') : SP X pins D f s' := by
 cases f with
 | next => obtain ⟨σ', H', I, q⟩ := h; exact ⟨σ', H', I.unwish, q⟩
 | brk => obtain ⟨σ', H', I, q⟩ := h; exact ⟨σ', H', I.unwish, q⟩
 | cont => obtain ⟨σ', H', I, q⟩ := h; exact ⟨σ', H', I.unwish, q⟩
 | ret u => obtain ⟨v, σ', H', I, r, q⟩ := h; exact ⟨v, σ', H', I.unwish, r, q⟩
theorem PE.nox {e : Expr} {t : TE} (h : PE X.nox e t) : PE X e t := fun pins s σ H Q I hw =>
 wpAny_mono (h pins s σ H Q (I.wish _) hw) (fun _ _ ⟨v, H', I', r, q⟩ => ⟨v, H', I'.unwish, r, q⟩) fun _ _ z => False.elim z
theorem PT.nox {e : Expr} {t : TT} (h : PT X.nox e t) : PT X e t := fun pins s σ H Q I hw =>
 wpAny_mono (h pins s σ H Q (I.wish _) hw) (fun _ _ ⟨H', I', q⟩ => ⟨H', I'.unwish, q⟩) fun _ _ z => False.elim z
theorem PSs.nox {st : List Stmt} {t : TS} (h : PSs X.nox st t) : PSs X st t := fun pins s σ H D I hw =>
 wpAny_mono (h pins s σ H D (I.wish _) hw) (fun _ _ q => q.unwish) fun _ _ z => False.elim z
end
section
variable {X : Cx} {st : Stmt} {rest : List Stmt} {t u : TS} {e : Expr} {te : TE} {pos : Pos}
def tNext : TS := fun D σ H => D.nx σ H
def tSeq (t u : TS) : TS := fun D σ H => t { D with nx := u D } σ H
theorem pss_nil : PSs X [] tNext := fun _ _ σ H _ I h => wpAny_execs_nil ⟨σ, H, I, h⟩
theorem pss_cons (h1 : PS X st t) (h2 : PSs X rest u) : PSs X (st :: rest) (tSeq t u) := by
 intro pins s σ H D I h
 refine wpAny_execs_cons (thn (h1 pins s σ H { D with nx := u D } I h) fun f s1 q => ?_)
 cases f with
 | next =>
   obtain ⟨σ', H', I', q⟩ := q
   exact h2 pins s1 σ' H' D I' q
 | ret v => exact q
 | brk => exact q
 | cont => exact q
theorem pss_one (h1 : PS X st t) : PSs X [st] t := by
 intro pins s σ H D I h
 refine wpAny_execs_cons (thn (h1 pins s σ H D I h) fun f s1 q => ?_)
 cases f with
 | next => exact wpAny_execs_nil q
 | ret v => exact q
 | brk => exact q
 | cont => exact q
theorem Inv.quiet {pins : List (Addr × Obj)} {σ : St} {H : Hp} {s : Shared} (I : Inv X pins σ H s) : interactive X.env = false := by simp [interactive, I.ok.kind]
def tDrop (te : TE) : TS := fun D σ H => te σ H fun _ H1 => D.nx σ H1
theorem ps_expr (he : PE X e te) (hs : swapsWith e none pos.line X.env = pure false := by rfl) : PS X (.Expr e pos) (tDrop te) := by
 intro pins s σ H D I h
 exact wpAny_Expr_any (thn (he pins s σ H _ I h) fun v s1 ⟨x, H1, I1, r1, q1⟩ => ⟨σ, H1, I1, q1⟩) I.quiet hs
def tRet (te : TE) : TS := fun D σ H => te σ H D.rt
theorem ps_ret (he : PE X e te) : PS X (.Return (some e) pos) (tRet te) := by
 intro pins s σ H D I h
 exact wpAny_Return_some (thn (he pins s σ H _ I h) fun v s1 ⟨x, H1, I1, r1, q1⟩ => ⟨x, σ, H1, I1, r1, q1⟩)
def tIfS (c : TT) (t u : TS) : TS := fun D σ H => c σ H fun b H1 => if b = true then t D σ H1 else u D σ H1
theorem ps_if {c : Expr} {a b : List Stmt} {tc : TT} (hc : PT X c tc) (ha : PSs X a t) (hb : PSs X b u) : PS X (.If c a b pos) (tIfS tc t u) := by
 intro pins s σ H D I h
 refine wpAny_If (thn (hc pins s σ H _ I h) fun d s1 ⟨H1, I1, q1⟩ => ?_)
 cases d with
 | true => exact ha pins s1 σ H1 D I1 q1
 | false => exact hb pins s1 σ H1 D I1 q1
end
abbrev TG := V -> St -> Hp -> (St -> Hp -> Prop) -> Prop
abbrev TGs := List V -> St -> Hp -> (St -> Hp -> Prop) -> Prop
def PG (X : Cx) (target : Expr) (t : TG) : Prop :=
 ∀ (pins : List (Addr × Obj)) (s : Shared) (σ : St) (H : Hp) (v : V) (u : Value) (Q : St -> Hp -> Prop), Inv X pins σ H s -> RelV v u -> t v σ H Q ->
   wpAny (model X.prog X.w) X.A (assign target X.env u) (fun _ s' => ∃ σ' H', Inv X pins σ' H' s' /\ Q σ' H') X.xe s
def PGs (X : Cx) (ts : List Expr) (t : TGs) : Prop :=
 ∀ (pins : List (Addr × Obj)) (s : Shared) (σ : St) (H : Hp) (vs : List V) (us : List Value) (Q : St -> Hp -> Prop), Inv X pins σ H s -> Vals vs us -> t vs σ H Q ->
   wpAny (model X.prog X.w) X.A (assignInOrder ((assignEach ts X.env).map (·.2)) us) (fun _ s' => ∃ σ' H', Inv X pins σ' H' s' /\ Q σ' H') X.xe s
abbrev TSet := V -> V -> V -> Hp -> (Hp -> Prop) -> Prop
def PSet (X : Cx) (t : TSet) : Prop :=
 ∀ (pins : List (Addr × Obj)) (s : Shared) (σ : St) (H : Hp) (o i v : V) (ov iv u : Value) (Q : Hp -> Prop), Inv X pins σ H s -> RelV o ov -> RelV i iv -> RelV v u -> t o i v H Q ->
   wpAny (model X.prog X.w) X.A (setItem ov iv u) (fun _ s' => ∃ H', Inv X pins σ H' s' /\ Q H') X.xe s
section
variable {X : Cx} {pos : Pos}
def gName (i : Nat) : TG := fun v σ H Q => Q (σ.set i (some v)) H
theorem pg_name {i : Nat} {x : Str} (hN : X.N.Nodup) (hi : X.N[i]? = some x) (hx : Loc X.env.scope x) (hf : X.fn x = true ∨ X.env.scope.names.lookup x = some .local := by first | exact .inl rfl | exact .inr rfl | assumption) : PG X (.Name x pos) (gName i) := by
 intro pins s σ H v u Q I r h
 exact wpAny_assign_Name (store_ok I hN hi hx r (fun s' I' => ⟨_, H, I', h⟩) hf)
def gNil : TGs := fun vs σ H Q => vs = [] /\ Q σ H
def gCons (t : TG) (u : TGs) : TGs := fun vs σ H Q => ∃ v r, vs = v :: r /\ t v σ H fun σ' H' => u r σ' H' Q
theorem pgs_nil : PGs X [] gNil := by
 intro pins s σ H vs us Q I r h
 obtain ⟨e, h⟩ := h
 subst e
 cases r
 exact assignInOrder_nil ⟨σ, H, I, h⟩
theorem pgs_cons {e : Expr} {es : List Expr} {t : TG} {u : TGs} (h1 : PG X e t) (h2 : PGs X es u)
   (hs : (assignEach (e :: es) X.env).map (·.2) = assign e X.env :: (assignEach es X.env).map (·.2) := by rfl) : PGs X (e :: es) (gCons t u) := by
 intro pins s σ H vs us Q I r h
 obtain ⟨v, vr, e1, h⟩ := h
 subst e1
 cases r with
 | cons r rr =>
   rw [hs]
   refine assignInOrder_cons (thn (h1 pins s σ H _ _ _ I r h) fun _ s1 ⟨σ1, H1, I1, q1⟩ => ?_)
   exact h2 pins s1 σ1 H1 _ _ Q I1 rr q1
def gTup (K : PySem.W.Frag) (n : Nat) (t : TGs) : TG := fun v σ H Q => ∃ a xs, v = .ref a /\ SqT K H a xs /\ xs.length = n /\ t xs σ H Q
theorem pg_tup {es : List Expr} {k : Nat} {t : TGs} {n : Nat} (hc : X.calm = true) (h : PGs X es t)
   (hn : (assignEach es X.env).length = n := by rfl) (hst : (assignEach es X.env).findIdx? (·.1) = none := by rfl) : PG X (.Tuple es k pos) (gTup X.K n t) := by
 intro pins s σ H v u Q I r hw
 obtain ⟨a, xs, e1, hq, hl, hw⟩ := hw
 subst e1
 cases r
 obtain ⟨its, rv, ht, hz⟩ := I.tuple hq
 refine assign_Tuple_tuple (I.ok.hd hc) ht (by simp [hn, ← hl, rv.length]) hst fun h' hx => ?_
 have I1 : Inv X pins σ H { s with heap := h' } := I.kept (t' := s.toks) fun b o e => hx b o (Nat.ne_of_lt (Heap.lt_size e)) e
 exact h pins _ σ H xs _ Q I1 (by simpa using rv) hw
def gSub (to ti : TE) (t : TSet) : TG := fun v σ H Q => to σ H fun o H1 => ti σ H1 fun i H2 => t o i v H2 fun H3 => Q σ H3
theorem pg_sub {o i : Expr} {to ti : TE} {t : TSet} (ho : PE X o to) (hi : PE X i ti) (hs : PSet X t)
   (ha : ∀ v, assign (.Subscript o i pos) X.env v = (do
     let ov ← holding [v] (eval o X.env)
     let iv ← holding [v, ov] (eval i X.env)
     standAt pos
     holding [v, ov, iv] (setItem ov iv v)
     release [v, ov, iv] []) := by intro _; rfl) : PG X (.Subscript o i pos) (gSub to ti t) := by
 intro pins s σ H v u Q I r h
 rw [ha]
 refine wpAny_bind (wpAny_holding (thn (ho pins s σ H _ I h) fun ov s1 ⟨x, H1, I1, r1, q1⟩ => ?_))
 refine wpAny_bind (wpAny_holding (thn (hi pins s1 σ H1 _ I1 q1) fun iv s2 ⟨y, H2, I2, r2, q2⟩ => ?_))
 refine wpAny_bind (wpAny_standAt (wpAny_bind (wpAny_holding (thn (hs pins s2 σ H2 x y v ov iv u _ I2 r1 r2 r q2) fun _ s3 ⟨H3, I3, q3⟩ => ?_))))
 exact wpAny_release ⟨σ, H3, I3, q3⟩
def tAsg (te : TE) (g : TG) : TS := fun D σ H => te σ H fun x H1 => g x σ H1 D.nx
theorem ps_asg {tg e : Expr} {te : TE} {g : TG} (he : PE X e te) (hg : PG X tg g) (hs : swapsWithSole [tg] e pos.line X.env = pure false := by rfl) (hw : swappedStores [tg] e X.env = pure none := by rfl)
   (h1 : (assignEach [tg] X.env).map (·.2) = [assign tg X.env] := by rfl) : PS X (.Assign [tg] e pos) (tAsg te g) := by
 intro pins s σ H D I h
 refine wpAny_Assign_stores (thn (he pins s σ H _ I h) fun v s1 ⟨x, H1, I1, r1, q1⟩ => ?_) hs hw
 rw [h1]
 exact thn (hg pins s1 σ H1 x v _ I1 r1 q1) fun _ s2 q => q
theorem ps_set {i : Nat} {x : Str} {e : Expr} {te : TE} {pos' : Pos} (hN : X.N.Nodup) (hi : X.N[i]? = some x) (hx : Loc X.env.scope x) (he : PE X e te) (hs : swapsWith e (some (.Name x pos')) pos.line X.env = pure false := by rfl) (hf : X.fn x = true ∨ X.env.scope.names.lookup x = some .local := by first | exact .inl rfl | exact .inr rfl | assumption) :
   PS X (.Assign [.Name x pos'] e pos) (tAsg te (gName i)) := by
 intro pins s σ H D I h
 refine wpAny_Assign_Name (thn (he pins s σ H _ I h) fun v s1 ⟨y, H1, I1, r1, q1⟩ => ?_) hs
 exact store_ok I1 hN hi hx r1 (fun s2 I2 => ⟨_, H1, I2, q1⟩) hf
end
section
variable {X : Cx} {pos : Pos}
def tWhile (c : TT) (tb : TS) : TS := fun D σ H => ∃ W : Nat -> St -> Hp -> Prop, (∃ m, W m σ H) /\ ∀ m σ H, W m σ H ->
 c σ H fun b H1 => if b = true then ∃ N : St -> Hp -> Prop, (∀ σ' H', N σ' H' -> ∃ m', m' < m /\ W m' σ' H') /\ tb { D with nx := N, ct := N, bk := D.nx } σ H1 else D.nx σ H1
theorem ps_while {c : Expr} {body : List Stmt} {tc : TT} {tb : TS} (hp : PassesOwn (model X.prog X.w) X.A X.env X.xe) (hc : PT X c tc) (hb : PSs X body tb) : PS X (.While c body [] pos) (tWhile tc tb) := by
 intro pins s σ H D I h
 obtain ⟨W, ⟨m0, w0⟩, turn⟩ := h
 refine wpAny_While (codeAny_whileLoop (fun n s' => ∃ σ' H', Inv X pins σ' H' s' /\ W n σ' H') ?_ m0 ⟨σ, H, I, w0⟩)
 rintro n s1 ⟨σ1, H1, I1, w1⟩
 refine wpAny_passesOwn hp (thn (hc pins s1 σ1 H1 _ I1 (turn n σ1 H1 w1)) fun b s2 ⟨H2, I2, q2⟩ => ?_)
 cases b with
 | true =>
   obtain ⟨N, hN, q2⟩ := q2
   rw [if_pos rfl]
   refine wpAny_passesOwn hp (thn (hb pins s2 σ1 H2 _ I2 q2) fun f s3 q3 => ?_)
   cases f with
   | next =>
     obtain ⟨σ3, H3, I3, n3⟩ := q3
     obtain ⟨m', hm, w3⟩ := hN σ3 H3 n3
     exact ⟨m', hm, σ3, H3, I3, w3⟩
   | cont =>
     obtain ⟨σ3, H3, I3, n3⟩ := q3
     obtain ⟨m', hm, w3⟩ := hN σ3 H3 n3
     exact ⟨m', hm, σ3, H3, I3, w3⟩
   | brk => exact q3
   | ret v => exact q3
 | false =>
   rw [if_neg Bool.false_ne_true]
   exact wpAny_execs_nil ⟨σ1, H2, I2, q2⟩
end
structure It where
 go : Nat -> Hp -> Prop
 yld : Nat -> Hp -> V -> Hp -> Prop
 stop : Nat -> Hp -> Prop
def FpOk (X : Cx) (pins : List (Addr × Obj)) (H : Hp) (b : Addr) : Prop :=
 H b = none /\ b ≠ X.env.locals /\ b ∉ X.fs /\ (b ∈ X.ex ∨ X.s₀.heap.objs.size <= b) /\ (∀ x c, X.env.cells.lookup x = some c -> c ≠ b) /\ ∀ p ∈ X.pn ++ pins, p.1 ≠ b
theorem Inv.fpOk {X : Cx} {pins : List (Addr × Obj)} {σ : St} {H H' : Hp} {s : Shared} {b : Addr} (I : Inv X pins σ H s) (hb : s.heap.objs.size <= b) (hn : H' b = none) : FpOk X pins H' b := by
 refine ⟨hn, Nat.ne_of_gt (Nat.lt_of_lt_of_le I.lt hb), I.nofs hb, .inr (Nat.le_trans I.sz hb), fun x c e z => ?_, fun p hp z => ?_⟩
 · obtain ⟨v, q⟩ := I.cell x c e
   exact absurd (Nat.lt_of_lt_of_le q.lt (by rw [z]; exact hb)) (Nat.lt_irrefl _)
 · exact absurd (Nat.lt_of_lt_of_le (Heap.lt_size (I.pin p hp).1) (by rw [z]; exact hb)) (Nat.lt_irrefl _)
structure Turn (P : Program) (w : World) (K : PySem.W.Frag) (tg : Expr) (J : It) (fp : List Addr) (it : Addr) (tn : Nat -> Heap -> Prop) : Prop where
 mem : it ∈ fp
 obj : ∀ i h, tn i h -> ∀ b ∈ fp, ∃ o, h.get? b = some o /\ ∀ v, o.data ≠ .cell v
 keep : ∀ i h h', tn i h -> (∀ b ∈ fp, ∀ o, h.get? b = some o -> h'.get? b = some o) -> tn i h'
 item : ∀ (X : Cx), X.prog = P -> X.w = w -> X.K = K -> X.calm = true -> ∀ (i : Nat) (pins : List (Addr × Obj)) (s : Shared) (σ : St) (H : Hp) (E : Value -> Shared -> Prop), Inv X pins σ H s -> (∀ b ∈ fp, FpOk X pins H b) -> tn i s.heap -> J.go i H ->
   wpAny (model P w) X.A (pyNext (.ref it)) (fun r s1 => ∃ u, r = some u /\
     wpAny (model P w) X.A (letOwnedTupleGo tg (.ref it) u) (fun _ s2 => ∃ x H', Inv X pins σ H' s2 /\ RelV x u /\ J.yld i H x H' /\ tn (i + 1) s2.heap /\ ∀ b ∈ fp, H' b = none) E s1) E s
 done : ∀ (X : Cx), X.prog = P -> X.w = w -> X.K = K -> X.calm = true -> ∀ (i : Nat) (pins : List (Addr × Obj)) (s : Shared) (σ : St) (H : Hp) (E : Value -> Shared -> Prop), Inv X pins σ H s -> (∀ b ∈ fp, FpOk X pins H b) -> tn i s.heap -> J.stop i H ->
   wpAny (model P w) X.A (pyNext (.ref it)) (fun r s1 => r = none /\ Inv X pins σ H s1) E s
 self : ∀ (A : Around) (i : Nat) (s : Shared) (Q : Value -> Shared -> Prop) (E : Value -> Shared -> Prop), tn i s.heap -> Q (.ref it) s -> wpAny (model P w) A (pyIter (.ref it)) Q E s
abbrev TI := St -> Hp -> (It -> Hp -> Prop) -> Prop
def PIE (X : Cx) (pins : List (Addr × Obj)) (σ : St) (tg : Expr) (R : It -> Hp -> Prop) (itv : Value) (s2 : Shared) : Prop :=
 ∃ (it : Addr) (fp : List Addr) (tn : Nat -> Heap -> Prop) (J : It) (H' : Hp), itv = .ref it /\ Inv X pins σ H' s2 /\ Turn X.prog X.w X.K tg J fp it tn /\ tn 0 s2.heap /\ (∀ b ∈ fp, FpOk X pins H' b) /\ R J H'
def PI (X : Cx) (tg iter : Expr) (wi : TI) : Prop :=
 ∀ (pins : List (Addr × Obj)) (s : Shared) (σ : St) (H : Hp) (R : It -> Hp -> Prop), Inv X pins σ H s -> wi σ H R ->
   wpAny (model X.prog X.w) X.A (eval iter X.env) (fun v s1 => wpAny (model X.prog X.w) X.A (pyIter v) (PIE X pins σ tg R) X.xe s1) X.xe s
theorem go_of {M : Model} {A : Around} {E : Value -> Shared -> Prop} {s : Shared} {tg : Expr} {it : Addr} {u : Value} {o : Obj} {n : String} {vs : Array Value} {Q : Unit -> Shared -> Prop} (ho : s.heap.get? it = some o) (hc : o.cls = .type n) (hd : o.data = .fields vs)
   (hn : ["enumerate", "zip", "dict_itemiterator", "dict_reverseitemiterator", "odict_iterator", "itertools.zip_longest", "itertools.pairwise"].contains n = false) (hQ : Q () s) : wpAny M A (letOwnedTupleGo tg (.ref it) u) Q E s := by
 unfold letOwnedTupleGo
 cases tg <;> first
   | exact wpAny_pure hQ
   | (cases u <;> first
       | exact wpAny_pure hQ
       | (refine wpAny_bind (wpAny_load ho ?_)
          rw [hc, hd]
          show wpAny M A (if (["enumerate", "zip", "dict_itemiterator", "dict_reverseitemiterator", "odict_iterator", "itertools.zip_longest", "itertools.pairwise"].contains n && vs[0]? == some (rawInt _)) = true then _ else _) Q E s
          rw [if_neg (by intro h; rw [hn, Bool.false_and] at h; cases h)]
          exact wpAny_pure hQ))
def Itl (K : PySem.W.Frag) (a : Addr) : It :=
 ⟨fun i H => ∃ xs x, SqL K H a xs /\ xs[i]? = some x, fun i H x H' => H' = H /\ ∀ xs, SqL K H a xs -> xs[i]? = some x, fun i H => ∃ xs, SqL K H a xs /\ xs.length <= i⟩
def Itt (K : PySem.W.Frag) (a : Addr) : It :=
 ⟨fun i H => ∃ xs x, SqT K H a xs /\ xs[i]? = some x, fun i H x H' => H' = H /\ ∀ xs, SqT K H a xs -> xs[i]? = some x, fun i H => ∃ xs, SqT K H a xs /\ xs.length <= i⟩
def Itr (lo : Int) (n : Nat) : It := ⟨fun i _ => i < n, fun i H x H' => H' = H /\ x = .int (lo + i), fun i _ => n <= i⟩
theorem turn_list {P : Program} {w : World} {K : PySem.W.Frag} {tg : Expr} (a it : Addr) : Turn P w K tg (Itl K a) [it] it (fun i h => h.IsListIter it a i) where
 mem := by simp
 obj := fun i h st b hb => by
   have e : b = it := by simpa using hb
   subst e
   obtain ⟨o, e, c, d⟩ := st
   exact ⟨o, e, fun v z => by rw [d] at z; cases z⟩
 keep := fun i h h' st k => st.at fun o e => k it (by simp) o e
 item := by
   intro X hP hw hK hc i pins s σ H E I hf st hg
   subst hP hw hK
   obtain ⟨xs, x, hq, hx⟩ := hg
   obtain ⟨its, rv, p, hz⟩ := I.list hq
   obtain ⟨u, hu, ru⟩ := rv.get hx
   obtain ⟨f0, f1, f2, f3, f4, f5⟩ := hf it (by simp)
   refine wpAny_pyNext_list_item st p.isList (x := u) (by simpa using hu) fun h' st' sb => ?_
   have I1 : Inv X pins σ H { s with heap := h' } := I.turned (t' := s.toks) (fun b o hb e => (sb.2 b hb).trans e) f0 f1 f3 f4 f5
   obtain ⟨o, e, c, d⟩ := id st'
   exact ⟨u, rfl, go_of (s := { s with heap := h' }) e c d (by decide) ⟨x, H, I1, ru, ⟨rfl, fun ys hy => by rw [I.list_inj hy hq]; exact hx⟩, st', fun b hb => (hf b hb).1⟩⟩
 done := by
   intro X hP hw hK hc i pins s σ H E I hf st hg
   subst hP hw hK
   obtain ⟨xs, hq, hx⟩ := hg
   obtain ⟨its, rv, p, hz⟩ := I.list hq
   obtain ⟨f0, f1, f2, f3, f4, f5⟩ := hf it (by simp)
   have hl := rv.length
   exact wpAny_pyNext_list_end (I.ok.hd hc) st p.isList (by simp; omega) fun h' eb => ⟨rfl, I.turned (t' := s.toks) (fun b o hb e => eb b o hb e) f0 f1 f3 f4 f5⟩
 self := fun _ _ _ _ _ st h => wpAny_pyIter_listiter st h
theorem turn_tuple {P : Program} {w : World} {K : PySem.W.Frag} {tg : Expr} (a it : Addr) : Turn P w K tg (Itt K a) [it] it (fun i h => h.IsTupleIter it a i) where
 mem := by simp
 obj := fun i h st b hb => by
   have e : b = it := by simpa using hb
   subst e
   obtain ⟨o, e, c, d⟩ := st
   exact ⟨o, e, fun v z => by rw [d] at z; cases z⟩
 keep := fun i h h' st k => st.at fun o e => k it (by simp) o e
 item := by
   intro X hP hw hK hc i pins s σ H E I hf st hg
   subst hP hw hK
   obtain ⟨xs, x, hq, hx⟩ := hg
   obtain ⟨its, rv, p, hz⟩ := I.tuple hq
   obtain ⟨u, hu, ru⟩ := rv.get hx
   obtain ⟨f0, f1, f2, f3, f4, f5⟩ := hf it (by simp)
   refine wpAny_pyNext_tuple_item st (show s.heap.IsTuple a its.toArray from p) (x := u) (by simpa using hu) fun h' st' sb => ?_
   have I1 : Inv X pins σ H { s with heap := h' } := I.turned (t' := s.toks) (fun b o hb e => (sb.2 b hb).trans e) f0 f1 f3 f4 f5
   obtain ⟨o, e, c, d⟩ := id st'
   exact ⟨u, rfl, go_of (s := { s with heap := h' }) e c d (by decide) ⟨x, H, I1, ru, ⟨rfl, fun ys hy => by rw [I.tuple_inj hy hq]; exact hx⟩, st', fun b hb => (hf b hb).1⟩⟩
 done := by
   intro X hP hw hK hc i pins s σ H E I hf st hg
   subst hP hw hK
   obtain ⟨xs, hq, hx⟩ := hg
   obtain ⟨its, rv, p, hz⟩ := I.tuple hq
   obtain ⟨f0, f1, f2, f3, f4, f5⟩ := hf it (by simp)
   have hl := rv.length
   exact wpAny_pyNext_tuple_end (I.ok.hd hc) st (show s.heap.IsTuple a its.toArray from p) (by simp; omega) fun h' eb => ⟨rfl, I.turned (t' := s.toks) (fun b o hb e => eb b o hb e) f0 f1 f3 f4 f5⟩
 self := fun _ _ _ _ _ st h => wpAny_pyIter_tupleiter st h
theorem turn_range {P : Program} {w : World} {K : PySem.W.Frag} {tg : Expr} (it : Addr) (lo : Int) (n : Nat) : Turn P w K tg (Itr lo n) [it] it (fun i h => IsRangeIter h it (lo + (i : Nat) * 1) ((n : Int) - (i : Nat)) 1) where
 mem := by simp
 obj := fun i h st b hb => by
   have e : b = it := by simpa using hb
   subst e
   exact ⟨_, st, fun v z => by
     have z' : Data.fields _ = Data.cell v := z
     cases z'⟩
 keep := fun i h h' st k => k it (by simp) _ st
 item := by
   intro X hP hw hK hc i pins s σ H E I hf st hg
   subst hP hw hK
   obtain ⟨f0, f1, f2, f3, f4, f5⟩ := hf it (by simp)
   have W := Walks.range (prog := X.prog) (w := X.w) (I.ok.hd hc) it lo 1 n
   refine W.item i s _ _ hg st fun v h' tk hv st' kk => ?_
   obtain ⟨t, rfl⟩ := hv
   have I1 : Inv X pins σ H { s with heap := h', toks := tk } := I.turned (fun b o hb e => kk b o (by simpa using hb) e) f0 f1 f3 f4 f5
   refine ⟨_, rfl, go_of (s := { s with heap := h', toks := tk }) (n := "range_iterator") st' rfl rfl (by decide) ⟨.int (lo + i), H, I1, ⟨t, ?_⟩, ⟨rfl, rfl⟩, st', fun b hb => (hf b hb).1⟩⟩
   rw [Int.mul_one]
 done := by
   intro X hP hw hK hc i pins s σ H E I hf st hg
   subst hP hw hK
   obtain ⟨f0, f1, f2, f3, f4, f5⟩ := hf it (by simp)
   exact wpAny_pyNext_range_end (I.ok.hd hc) st (by have : n <= i := hg; omega) fun h' eb => ⟨rfl, I.turned (t' := s.toks) (fun b o hb e => eb b o hb e) f0 f1 f3 f4 f5⟩
 self := fun _ _ _ _ _ st h => wpAny_pyIter_rangeiter st h
end L2
namespace L2
open PySem PySem.Spec PyProof.Rows
section
variable {X : Cx} {tg : Expr}
def iList (K : PySem.W.Frag) (tl : TE) : TI := fun σ H R => tl σ H fun x H1 => ∃ a, x = .ref a /\ (∃ xs, SqL K H1 a xs) /\ R (Itl K a) H1
def iTup (K : PySem.W.Frag) (tl : TE) : TI := fun σ H R => tl σ H fun x H1 => ∃ a, x = .ref a /\ (∃ xs, SqT K H1 a xs) /\ R (Itt K a) H1
theorem pi_list {l : Expr} {tl : TE} (hl : PE X l tl) : PI X tg l (iList X.K tl) := by
 intro pins s σ H R I h
 refine thn (hl pins s σ H _ I h) fun v s1 ⟨x, H1, I1, r1, q1⟩ => ?_
 obtain ⟨a, e, ⟨xs, hq⟩, q⟩ := q1
 subst e
 cases r1
 obtain ⟨its, rv, p, hz⟩ := I1.list hq
 refine wpAny_pyIter_list p.isList ?_
 refine ⟨s1.heap.objs.size, [s1.heap.objs.size], _, _, H1, rfl, I1.kept (t' := s1.toks) fun b o e => Heap.get?_push_of_some _ e, turn_list a _, ⟨_, Heap.get?_push_size _ rfl, rfl, rfl⟩, fun b hb => ?_, q⟩
 have e : b = s1.heap.objs.size := by simpa using hb
 subst e
 exact I1.fpOk (Nat.le_refl _) (I1.hok.fresh (Nat.le_refl _))
theorem pi_tup {l : Expr} {tl : TE} (hl : PE X l tl) : PI X tg l (iTup X.K tl) := by
 intro pins s σ H R I h
 refine thn (hl pins s σ H _ I h) fun v s1 ⟨x, H1, I1, r1, q1⟩ => ?_
 obtain ⟨a, e, ⟨xs, hq⟩, q⟩ := q1
 subst e
 cases r1
 obtain ⟨its, rv, p, hz⟩ := I1.tuple hq
 refine wpAny_pyIter_tuple (show s1.heap.IsTuple a its.toArray from p) ?_
 refine ⟨s1.heap.objs.size, [s1.heap.objs.size], _, _, H1, rfl, I1.kept (t' := s1.toks) fun b o e => Heap.get?_push_of_some _ e, turn_tuple a _, ⟨_, Heap.get?_push_size _ rfl, rfl, rfl⟩, fun b hb => ?_, q⟩
 have e : b = s1.heap.objs.size := by simpa using hb
 subst e
 exact I1.fpOk (Nat.le_refl _) (I1.hok.fresh (Nat.le_refl _))
theorem range_it {pins : List (Addr × Obj)} {σ : St} {H : Hp} {s : Shared} {R : It -> Hp -> Prop} {E : Value -> Shared -> Prop} {lo hi : Int} {t u v : Tok} {tk : Nat} (I : Inv X pins σ H s) (h1 : -(2 ^ 62) <= lo) (h2 : lo < 2 ^ 62) (h3 : -(2 ^ 62) <= hi) (h4 : hi < 2 ^ 62)
   (q : R (Itr lo (hi - lo).toNat) H) : wpAny (model X.prog X.w) X.A (pyIter (.ref s.heap.objs.size)) (PIE X pins σ tg R) E { s with heap := s.heap.push { cls := .type "range", data := .fields #[.int lo t, .int hi u, .int 1 v] }, toks := tk } := by
 refine wpAny_pyIter_range (IsRange.new ..) (small_one h1 h2 h3 h4) ?_
 have I1 : Inv X pins σ H { s with heap := s.heap.push { cls := .type "range", data := .fields #[.int lo t, .int hi u, .int 1 v] }, toks := tk } := I.kept fun b o e => Heap.get?_push_of_some _ e
 refine ⟨(s.heap.push { cls := .type "range", data := .fields #[.int lo t, .int hi u, .int 1 v] }).objs.size, [(s.heap.push { cls := .type "range", data := .fields #[.int lo t, .int hi u, .int 1 v] }).objs.size], _, _, H, rfl,
   I1.kept (t' := tk) fun b o e => Heap.get?_push_of_some _ e, turn_range _ lo (hi - lo).toNat, ?_, fun b hb => ?_, q⟩
 · have e1 : lo + ((0 : Nat) : Int) * 1 = lo := by simp
   have e2 : (((hi - lo).toNat : Nat) : Int) - ((0 : Nat) : Int) = Builtin.Range.rangeSize lo hi 1 := by rw [rangeSize_one]; split <;> omega
   show IsRangeIter _ _ (lo + ((0 : Nat) : Int) * 1) ((((hi - lo).toNat : Nat) : Int) - ((0 : Nat) : Int)) 1
   rw [e1, e2]
   exact Heap.get?_push_size _ rfl
 · have e : b = (s.heap.push { cls := .type "range", data := .fields #[.int lo t, .int hi u, .int 1 v] }).objs.size := by simpa using hb
   subst e
   exact I1.fpOk (Nat.le_refl _) (I1.hok.fresh (Nat.le_refl _))
def iRng1 (ta : TA) : TI := fun σ H R => ta σ H fun vs H1 => ∃ j : Int, vs = [.int j] /\ -(2 ^ 62) <= j /\ j < 2 ^ 62 /\ R (Itr 0 j.toNat) H1
theorem pi_range1 {a : Expr} {ta : TA} {p pos : Pos} (hg : Gl X "range") (hm : X.mg "range" = none) (ha : PA X [a] ta) (hs : starEach [a] X.env = [(false, eval a X.env)] := by rfl) : PI X tg (.Call (.Name "range" p) [a] [] pos) (iRng1 ta) := by
 intro pins s σ H R I h
 refine Call_ (ld_blt I hg hm boot_range (PyProof.Rows.callWith_type1 (thn (ha pos pins s σ H _ I h) fun us s1 ⟨vs, H1, I1, r1, q1⟩ => ?_) hs rfl))
 obtain ⟨j, e, q1, q2, q⟩ := q1
 subst e
 cases r1 with
 | cons r rr =>
   cases rr
   obtain ⟨t, rfl⟩ := r
   exact call_range_1 (range_it I1 (by omega) (by omega) q1 q2 (by simpa using q))
def tFor (wi : TI) (g : TG) (tb : TS) : TS := fun D σ H => wi σ H fun J H1 => ∃ W : Nat -> Nat -> St -> Hp -> Prop, (∃ m, W 0 m σ H1) /\ ∀ i m σ H, W i m σ H ->
 (J.stop i H /\ D.nx σ H) ∨ (J.go i H /\ ∃ N : St -> Hp -> Prop, (∀ σ' H', N σ' H' -> ∃ m', m' < m /\ W (i + 1) m' σ' H') /\ ∀ x H', J.yld i H x H' -> g x σ H' fun σ2 H2 => tb { D with nx := N, ct := N, bk := D.nx } σ2 H2)
def pinsAt (fp : List Addr) (h : Heap) : List (Addr × Obj) := fp.filterMap fun b => (h.get? b).map fun o => (b, o)
theorem mem_pinsAt {fp : List Addr} {h : Heap} {b : Addr} {o : Obj} (hb : b ∈ fp) (e : h.get? b = some o) : (b, o) ∈ pinsAt fp h := List.mem_filterMap.mpr ⟨b, hb, by rw [e]; rfl⟩
theorem of_pinsAt {fp : List Addr} {h : Heap} {p : Addr × Obj} (hp : p ∈ pinsAt fp h) : p.1 ∈ fp /\ h.get? p.1 = some p.2 := by
 obtain ⟨b, hb, e⟩ := List.mem_filterMap.mp hp
 cases q : h.get? b with
 | none => rw [q] at e; cases e
 | some o =>
   rw [q] at e
   have e' : (b, o) = p := Option.some.inj e
   subst e'
   exact ⟨hb, q⟩
theorem Inv.pinned {pins : List (Addr × Obj)} {σ : St} {H : Hp} {s : Shared} {fp : List Addr} (I : Inv X pins σ H s) (hf : ∀ b ∈ fp, FpOk X pins H b) (ho : ∀ b ∈ fp, ∃ o, s.heap.get? b = some o /\ ∀ v, o.data ≠ .cell v) : Inv X (pins ++ pinsAt fp s.heap) σ H s :=
 I.pins_of fun p hp => (List.mem_append.mp hp).elim (fun z => I.pin p (List.mem_append_right _ z)) fun z => by
   obtain ⟨hb, e⟩ := of_pinsAt z
   obtain ⟨f0, f1, f2, _⟩ := hf p.1 hb
   obtain ⟨o, e', d⟩ := ho p.1 hb
   rw [e] at e'; cases e'
   exact ⟨e, f0, f1, f2, d⟩
theorem Inv.unpinned {pins pl : List (Addr × Obj)} {σ : St} {H : Hp} {s : Shared} (I : Inv X (pins ++ pl) σ H s) : Inv X pins σ H s := I.pins_of fun p hp => I.pin p (List.mem_append_right _ (List.mem_append_left _ hp))
theorem ps_for {iter : Expr} {body : List Stmt} {wi : TI} {g : TG} {tb : TS} {pos : Pos} (hp : PassesOwn (model X.prog X.w) X.A X.env X.xe) (hc : X.calm = true) (hi : PI X tg iter wi) (hg : PG X tg g) (hb : PSs X body tb)
   (hs : ∀ x, foldedSetIterable iter X.env x = pure x := by intro _; rfl) : PS X (.For tg iter body [] pos) (tFor wi g tb) := by
 intro pins s σ H D I h
 refine wpAny_For (thn (hi pins s σ H _ I h) fun v s1 h1 => thn h1 fun itv s2 h2 => ?_) hs
 obtain ⟨it, fp, tn, J, H2, e, I2, T, st2, f2, W, ⟨m0, w0⟩, turn⟩ := h2
 subst e
 -- what stays true of the iterator's objects through the loop
 have stat : ∀ {H' : Hp}, (∀ b ∈ fp, H' b = none) -> ∀ b ∈ fp, FpOk X pins H' b := fun hn b hb => ⟨hn b hb, (f2 b hb).2⟩
 refine codeAny_forLoop_any (fun n s' => ∃ i σ' H', Inv X pins σ' H' s' /\ tn i s'.heap /\ (∀ b ∈ fp, H' b = none) /\ W i n σ' H') ?_ m0 ⟨0, σ, H2, I2, st2, fun b hb => (f2 b hb).1, w0⟩
 rintro n s3 ⟨i, σ3, H3, I3, st3, fr3, w3⟩
 rcases turn i n σ3 H3 w3 with ⟨stop, qn⟩ | ⟨go, N, hN, step⟩
 · refine wpAny_passesOwn hp (thn (T.done X rfl rfl rfl hc i pins s3 σ3 H3 X.xe I3 (stat fr3) st3 stop) fun r s4 ⟨hr, I4⟩ => ?_)
   subst hr
   exact wpAny_execs_nil ⟨σ3, H3, I4, qn⟩
 · refine wpAny_passesOwn hp (thn (T.item X rfl rfl rfl hc i pins s3 σ3 H3 X.xe I3 (stat fr3) st3 go) fun r s4 ⟨u, hr, h4⟩ => ?_)
   subst hr
   refine wpAny_passesOwn hp (thn h4 fun _ s5 ⟨x, H5, I5, r5, y5, st5, fr5⟩ => ?_)
   have I5' := I5.pinned (stat fr5) (T.obj _ _ st5)
   refine wpAny_passesOwn hp (thn (hg _ s5 σ3 H5 x u _ I5' r5 (step x H5 y5)) fun _ s6 ⟨σ6, H6, I6, q6⟩ => ?_)
   refine wpAny_passesOwn hp (thn (hb _ s6 σ6 H6 _ I6 q6) fun f s7 q7 => ?_)
   have again : ∀ {σ7 : St} {H7 : Hp}, Inv X (pins ++ pinsAt fp s5.heap) σ7 H7 s7 -> N σ7 H7 -> ∃ m, m < n /\ ∃ i σ' H', Inv X pins σ' H' s7 /\ tn i s7.heap /\ (∀ b ∈ fp, H' b = none) /\ W i m σ' H' := fun {σ7 H7} I7 n7 => by
     obtain ⟨m', hm, w7⟩ := hN σ7 H7 n7
     refine ⟨m', hm, i + 1, σ7, H7, I7.unpinned, T.keep _ _ _ st5 fun b hb o e => (I7.pin (b, o) (List.mem_append_right _ (List.mem_append_right _ (mem_pinsAt hb e)))).1, fun b hb => ?_, w7⟩
     obtain ⟨o, e, d⟩ := T.obj _ _ st5 b hb
     exact (I7.pin (b, o) (List.mem_append_right _ (List.mem_append_right _ (mem_pinsAt hb e)))).2.1
   cases f with
   | next => obtain ⟨σ7, H7, I7, n7⟩ := q7; exact again I7 n7
   | cont => obtain ⟨σ7, H7, I7, n7⟩ := q7; exact again I7 n7
   | brk => obtain ⟨σ7, H7, I7, q7⟩ := q7; exact ⟨σ7, H7, I7.unpinned, q7⟩
   | ret v => obtain ⟨x7, σ7, H7, I7, r7, q7⟩ := q7; exact ⟨x7, σ7, H7, I7.unpinned, r7, q7⟩
end
end L2
namespace L2
open PySem PySem.Spec PyProof.Rows
abbrev R2 := V -> V -> Hp -> VK -> Prop
def OpR (X : Cx) (f : Value -> Value -> Sem Value) (r : R2) : Prop :=
 ∀ (pins : List (Addr × Obj)) (s : Shared) (σ : St) (H : Hp) (x y : V) (v u : Value) (Q : VK), Inv X pins σ H s -> RelV x v -> RelV y u -> r x y H Q ->
   wpAny (model X.prog X.w) X.A (f v u) (EP X pins σ Q) X.xe s
def UnR (X : Cx) (f : Value -> Sem Value) (r : V -> Hp -> VK -> Prop) : Prop :=
 ∀ (pins : List (Addr × Obj)) (s : Shared) (σ : St) (H : Hp) (x : V) (v : Value) (Q : VK), Inv X pins σ H s -> RelV x v -> r x H Q ->
   wpAny (model X.prog X.w) X.A (f v) (EP X pins σ Q) X.xe s
def CallR (X : Cx) (f : Value) (r : List V -> Hp -> VK -> Prop) : Prop :=
 ∀ (pins : List (Addr × Obj)) (s : Shared) (σ : St) (H : Hp) (xs : List V) (us : List Value) (Q : VK), Inv X pins σ H s -> Vals xs us -> r xs H Q ->
   wpAny (model X.prog X.w) X.A (call f us) (EP X pins σ Q) X.xe s
def tOp (r : R2) (ta tb : TE) : TE := fun σ H Q => ta σ H fun x H1 => tb σ H1 fun y H2 => r x y H2 Q
def tUn (r : V -> Hp -> VK -> Prop) (ta : TE) : TE := fun σ H Q => ta σ H fun x H1 => r x H1 Q
def rI (C : Int -> Int -> Prop) (g : Int -> Int -> V) : R2 := fun x y H Q => ∃ i j, x = .int i /\ y = .int j /\ C i j /\ Q (g i j) H
def rI0 (g : Int -> Int -> V) : R2 := fun x y H Q => ∃ i j, x = .int i /\ y = .int j /\ Q (g i j) H
def rU (g : Int -> V) : V -> Hp -> VK -> Prop := fun x H Q => ∃ i, x = .int i /\ Q (g i) H
section
variable {X : Cx} {a b c : Expr} {ta tb tc : TE} {pos : Pos}
theorem binT (ha : PE X a ta) (hb : PE X b tb) {pins : List (Addr × Obj)} {s : Shared} {σ : St} {H : Hp} {R : V -> V -> Hp -> Prop} (I : Inv X pins σ H s)
   (h : ta σ H fun x H1 => tb σ H1 fun y H2 => R x y H2) {Q : Value -> Shared -> Prop} {f : Value -> Value -> Sem Value}
   (hf : ∀ v u s2 x y H2, Inv X pins σ H2 s2 -> RelV x v -> RelV y u -> R x y H2 -> wpAny (model X.prog X.w) X.A (f v u) Q X.xe s2) :
   wpAny (model X.prog X.w) X.A (eval a X.env) (fun v s₁ => wpAny (model X.prog X.w) X.A (eval b X.env) (fun u s₂ => wpAny (model X.prog X.w) X.A (f v u) Q X.xe s₂) X.xe s₁) X.xe s := by
 refine thn (ha pins s σ H _ I h) fun v s1 ⟨x, H1, I1, r1, q1⟩ => ?_
 refine thn (hb pins s1 σ H1 _ I1 q1) fun u s2 ⟨y, H2, I2, r2, q2⟩ => ?_
 exact hf v u s2 x y H2 I2 r1 r2 q2
theorem pe_op {op : Operator} {r : R2} (ho : OpR X (binaryOp op) r) (ha : PE X a ta) (hb : PE X b tb) : PE X (.BinOp a op b pos) (tOp r ta tb) := by
 intro pins s σ H Q I h
 exact wpAny_BinOp (binT ha hb I h fun v u s2 x y H2 I2 rx ry q => ho pins s2 σ H2 x y v u Q I2 rx ry q)
theorem pe_un {op : UnaryOp} {r : V -> Hp -> VK -> Prop} (ho : UnR X (unaryOp op) r) (ha : PE X a ta) : PE X (.UnaryOp op a pos) (tUn r ta) := by
 intro pins s σ H Q I h
 exact UnaryOp_ (thn (ha pins s σ H _ I h) fun v s1 ⟨x, H1, I1, r1, q1⟩ => ho pins s1 σ H1 x v Q I1 r1 q1)
theorem opI {f : Value -> Value -> Sem Value} {C : Int -> Int -> Prop} {g : Int -> Int -> Int}
   (rule : ∀ (i j : Int) (t u : Tok) (s : Shared) (Q : Value -> Shared -> Prop) (E : Value -> Shared -> Prop), C i j -> Q (.int (g i j) s.toks) { s with toks := s.toks + 1 } -> wpAny (model X.prog X.w) X.A (f (.int i t) (.int j u)) Q E s) :
   OpR X f (rI C fun i j => .int (g i j)) := by
 intro pins s σ H x y v u Q I rx ry h
 obtain ⟨i, j, rfl, rfl, hc, q⟩ := h
 obtain ⟨t, rfl⟩ := rx
 obtain ⟨t', rfl⟩ := ry
 exact rule i j t t' s _ _ hc ⟨.int (g i j), H, I.tok _, ⟨_, rfl⟩, q⟩
theorem opI0 {f : Value -> Value -> Sem Value} {g : Int -> Int -> Int}
   (rule : ∀ (i j : Int) (t u : Tok) (s : Shared) (Q : Value -> Shared -> Prop) (E : Value -> Shared -> Prop), Q (.int (g i j) s.toks) { s with toks := s.toks + 1 } -> wpAny (model X.prog X.w) X.A (f (.int i t) (.int j u)) Q E s) :
   OpR X f (rI0 fun i j => .int (g i j)) := by
 intro pins s σ H x y v u Q I rx ry h
 obtain ⟨i, j, rfl, rfl, q⟩ := h
 obtain ⟨t, rfl⟩ := rx
 obtain ⟨t', rfl⟩ := ry
 exact rule i j t t' s _ _ ⟨.int (g i j), H, I.tok _, ⟨_, rfl⟩, q⟩
theorem opB0 {f : Value -> Value -> Sem Value} {g : Int -> Int -> Bool}
   (rule : ∀ (i j : Int) (t u : Tok) (s : Shared) (Q : Value -> Shared -> Prop) (E : Value -> Shared -> Prop), Q (.bool (g i j)) s -> wpAny (model X.prog X.w) X.A (f (.int i t) (.int j u)) Q E s) :
   OpR X f (rI0 fun i j => .bl (g i j)) := by
 intro pins s σ H x y v u Q I rx ry h
 obtain ⟨i, j, rfl, rfl, q⟩ := h
 obtain ⟨t, rfl⟩ := rx
 obtain ⟨t', rfl⟩ := ry
 exact rule i j t t' s _ _ ⟨.bl (g i j), H, I, rfl, q⟩
def CDiv (i j : Int) : Prop := 0 < j /\ j < 1073741824
def CPow (i j : Int) : Prop := 0 <= j /\ j <= 1000000 /\ i.natAbs < 2 ^ 64
def CMul (i j : Int) : Prop := (-(2 ^ 64) < i /\ i < 2 ^ 64) ∨ (-(2 ^ 64) < j /\ j < 2 ^ 64)
theorem CMul.ok {i j : Int} (h : CMul i j) : IntMulOk i j := by
 rcases h with ⟨h1, h2⟩ | ⟨h1, h2⟩
 · exact .of_left (intBits_le_64 h1 h2)
 · exact .of_right (intBits_le_64 h1 h2)
theorem op_add : OpR X (binaryOp .Add) (rI0 fun i j => .int (i + j)) := opI0 fun _ _ _ _ _ _ _ q => add_int q
theorem op_sub : OpR X (binaryOp .Sub) (rI0 fun i j => .int (i - j)) := opI0 fun _ _ _ _ _ _ _ q => sub_int q
theorem op_mul : OpR X (binaryOp .Mult) (rI CMul fun i j => .int (i * j)) := opI fun _ _ _ _ _ _ _ hc q => mul_int q hc.ok
theorem op_fdiv : OpR X (binaryOp .FloorDiv) (rI CDiv fun i j => .int (i / j)) := opI fun i j _ _ _ _ _ hc q => by
 have h1 : (0 : Int) < j := hc.1
 have h2 : j < 1073741824 := hc.2
 exact floordiv_int (by omega) (by rw [Int.fdiv_eq_ediv_of_nonneg i (by omega)]; exact q) (.inl (PyProof.noPylong_small (by omega)))
theorem op_mod : OpR X (binaryOp .Mod) (rI (fun _ j => 0 < j) fun i j => .int (i % j)) := opI fun i j _ _ _ _ _ hc q => by
 have h1 : (0 : Int) < j := hc
 exact mod_int' (by omega) (by rw [Int.fmod_eq_emod_of_nonneg i (by omega)]; exact q)
theorem op_pow : OpR X (binaryOp .Pow) (rI CPow fun i j => .int (i ^ j.toNat)) := opI fun _ _ _ _ _ _ _ hc q => pow_int_small hc.1 hc.2.1 hc.2.2 q
theorem op_xor : OpR X (binaryOp .BitXor) (rI0 fun i j => .int (Builtin.bitXor i j)) := opI0 fun _ _ _ _ _ _ _ q => xor_int q
theorem unI {f : Value -> Sem Value} {g : Int -> Int}
   (rule : ∀ (i : Int) (t : Tok) (s : Shared) (Q : Value -> Shared -> Prop) (E : Value -> Shared -> Prop), Q (.int (g i) s.toks) { s with toks := s.toks + 1 } -> wpAny (model X.prog X.w) X.A (f (.int i t)) Q E s) :
   UnR X f (rU fun i => .int (g i)) := by
 intro pins s σ H x v Q I rx h
 obtain ⟨i, rfl, q⟩ := h
 obtain ⟨t, rfl⟩ := rx
 exact rule i t s _ _ ⟨.int (g i), H, I.tok _, ⟨_, rfl⟩, q⟩
theorem un_neg : UnR X (unaryOp .USub) (rU fun i => .int (-i)) := unI fun _ _ _ _ _ q => neg_int q
end
def scal : V -> V -> Bool
 | .non, .non => true | .non, .int _ => true | .int _, .non => true | .non, .bl _ => true | .bl _, .non => true | .non, .str _ => true | .str _, .non => true
 | .int _, .int _ => true | .bl _, .bl _ => true | .str _, .str _ => true | .byt _, .byt _ => true
 | .int _, .str _ => true | .str _, .int _ => true | .bl _, .str _ => true | .str _, .bl _ => true
 | _, _ => false
def rEq : R2 := fun x y H Q => scal x y = true /\ Q (.bl (decide (x = y))) H
def rNe : R2 := fun x y H Q => scal x y = true /\ Q (.bl (!decide (x = y))) H
theorem dec_int {i j : Int} : decide (V.int i = V.int j) = (i == j) := by
 rw [Bool.eq_iff_iff]
 simp
theorem dec_bl {i j : Bool} : decide (V.bl i = V.bl j) = (i == j) := by
 rw [Bool.eq_iff_iff]
 simp
theorem dec_str {i j : Str} : decide (V.str i = V.str j) = (i == j) := by
 rw [Bool.eq_iff_iff]
 simp
theorem dec_byt {i j : Array UInt8} : decide (V.byt i = V.byt j) = (i.toList == j.toList) := by
 rw [Bool.eq_iff_iff]
 cases i
 cases j
 simp
section
variable {X : Cx} {a b c : Expr} {ta tb tc : TE} {pos : Pos}
theorem fin_bl {pins : List (Addr × Obj)} {σ : St} {H : Hp} {s : Shared} {Q : VK} {k k' : Bool} (I : Inv X pins σ H s) (q : Q (.bl k) H) (e : k = k') : EP X pins σ Q (.bool k') s := by
 subst e
 exact ⟨.bl k, H, I, rfl, q⟩
theorem op_eq : OpR X (compareOp .Eq) rEq := by
 intro pins s σ H x y v u Q I rx ry h
 obtain ⟨hs, q⟩ := h
 cases x with
 | non =>
   cases rx
   cases y with
   | non => cases ry; exact PySem.EqNone.eq_none_none (fin_bl I q (by simp))
   | bl j => cases ry; exact PySem.EqNone.eq_none_bool (fin_bl I q (by simp))
   | int j => obtain ⟨t', rfl⟩ := ry; exact PySem.EqNone.eq_none_int (fin_bl I q (by simp))
   | str j => obtain ⟨t', rfl⟩ := ry; exact PySem.EqNone.eq_none_str (fin_bl I q (by simp))
   | _ => exact absurd (show false = true from hs) Bool.false_ne_true
 | bl i =>
   cases rx
   cases y with
   | non => cases ry; exact PySem.EqNone.eq_bool_none (fin_bl I q (by simp))
   | bl j => cases ry; exact eq_bool (fin_bl I q dec_bl)
   | str j => obtain ⟨t', rfl⟩ := ry; exact PySem.EqMixed.eq_bool_str (fin_bl I q (by simp))
   | _ => exact absurd (show false = true from hs) Bool.false_ne_true
 | int i =>
   obtain ⟨t, rfl⟩ := rx
   cases y with
   | non => cases ry; exact PySem.EqNone.eq_int_none (fin_bl I q (by simp))
   | int j => obtain ⟨t', rfl⟩ := ry; exact eq_int (fin_bl I q dec_int)
   | str j => obtain ⟨t', rfl⟩ := ry; exact PySem.EqMixed.eq_int_str (fin_bl I q (by simp))
   | _ => exact absurd (show false = true from hs) Bool.false_ne_true
 | str i =>
   obtain ⟨t, rfl⟩ := rx
   cases y with
   | non => cases ry; exact PySem.EqNone.eq_str_none (fin_bl I q (by simp))
   | bl j => cases ry; exact PySem.EqMixed.eq_str_bool (fin_bl I q (by simp))
   | int j => obtain ⟨t', rfl⟩ := ry; exact PySem.EqMixed.eq_str_int (fin_bl I q (by simp))
   | str j => obtain ⟨t', rfl⟩ := ry; exact eq_str (fin_bl I q dec_str)
   | _ => exact absurd (show false = true from hs) Bool.false_ne_true
 | byt i =>
   obtain ⟨t, rfl⟩ := rx
   cases y with
   | byt j => obtain ⟨t', rfl⟩ := ry; exact PySem.W.eq_bytes (fin_bl I q dec_byt)
   | _ => exact absurd (show false = true from hs) Bool.false_ne_true
 | _ => cases y <;> exact absurd (show false = true from hs) Bool.false_ne_true
theorem op_ne : OpR X (compareOp .NotEq) rNe := by
 intro pins s σ H x y v u Q I rx ry h
 obtain ⟨hs, q⟩ := h
 cases x with
 | non =>
   cases rx
   cases y with
   | non => cases ry; exact PySem.EqNone.ne_none_none (fin_bl I q (by simp))
   | bl j => cases ry; exact PySem.EqNone.ne_none_bool (fin_bl I q (by simp))
   | int j => obtain ⟨t', rfl⟩ := ry; exact PySem.EqNone.ne_none_int (fin_bl I q (by simp))
   | str j => obtain ⟨t', rfl⟩ := ry; exact PySem.EqNone.ne_none_str (fin_bl I q (by simp))
   | _ => exact absurd (show false = true from hs) Bool.false_ne_true
 | bl i =>
   cases rx
   cases y with
   | non => cases ry; exact PySem.EqNone.ne_bool_none (fin_bl I q (by simp))
   | bl j => cases ry; exact ne_bool (fin_bl I q (congrArg not dec_bl))
   | str j => obtain ⟨t', rfl⟩ := ry; exact PySem.EqMixed.ne_bool_str (fin_bl I q (by simp))
   | _ => exact absurd (show false = true from hs) Bool.false_ne_true
 | int i =>
   obtain ⟨t, rfl⟩ := rx
   cases y with
   | non => cases ry; exact PySem.EqNone.ne_int_none (fin_bl I q (by simp))
   | int j => obtain ⟨t', rfl⟩ := ry; exact ne_int (fin_bl I q (congrArg not dec_int))
   | str j => obtain ⟨t', rfl⟩ := ry; exact PySem.EqMixed.ne_int_str (fin_bl I q (by simp))
   | _ => exact absurd (show false = true from hs) Bool.false_ne_true
 | str i =>
   obtain ⟨t, rfl⟩ := rx
   cases y with
   | non => cases ry; exact PySem.EqNone.ne_str_none (fin_bl I q (by simp))
   | bl j => cases ry; exact PySem.EqMixed.ne_str_bool (fin_bl I q (by simp))
   | int j => obtain ⟨t', rfl⟩ := ry; exact PySem.EqMixed.ne_str_int (fin_bl I q (by simp))
   | str j => obtain ⟨t', rfl⟩ := ry; exact ne_str (fin_bl I q (congrArg not dec_str))
   | _ => exact absurd (show false = true from hs) Bool.false_ne_true
 | byt i =>
   obtain ⟨t, rfl⟩ := rx
   cases y with
   | byt j => obtain ⟨t', rfl⟩ := ry; exact PySem.W.ne_bytes (fin_bl I q (congrArg not dec_byt))
   | _ => exact absurd (show false = true from hs) Bool.false_ne_true
 | _ => cases y <;> exact absurd (show false = true from hs) Bool.false_ne_true
theorem op_lt : OpR X (compareOp .Lt) (rI0 fun i j => .bl (decide (i < j))) := opB0 fun _ _ _ _ _ _ _ q => lt_int q
theorem op_le : OpR X (compareOp .LtE) (rI0 fun i j => .bl (decide (i <= j))) := opB0 fun _ _ _ _ _ _ _ q => le_int q
theorem op_gt : OpR X (compareOp .Gt) (rI0 fun i j => .bl (decide (j < i))) := opB0 fun _ _ _ _ _ _ _ q => gt_int q
theorem op_isN : OpR X (compareOp .Is) (fun x y H Q => y = .non /\ Q (.bl (decide (x = .non))) H) := by
 intro pins s σ H x y v u Q I rx ry h
 obtain ⟨rfl, q⟩ := h
 cases ry
 refine is_none_gen (fin_bl I q ?_)
 cases x <;> first
   | (cases rx; rfl)
   | (obtain ⟨t, rfl⟩ := rx; rfl)
theorem OpR.or {f : Value -> Value -> Sem Value} {r r' : R2} (h : OpR X f r) (h' : OpR X f r') : OpR X f (fun x y H Q => r x y H Q ∨ r' x y H Q) := by
 intro pins s σ H x y v u Q I rx ry q
 rcases q with q | q
 · exact h pins s σ H x y v u Q I rx ry q
 · exact h' pins s σ H x y v u Q I rx ry q
theorem nomark (b : Expr) {op : CmpOp} (h : op ≠ .In := by decide) (h2 : op ≠ .NotIn := by decide) : behindInMarks op b = false := by
 have e1 : (op == CmpOp.In) = false := by cases op <;> first | rfl | exact absurd rfl h
 have e2 : (op == CmpOp.NotIn) = false := by cases op <;> first | rfl | exact absurd rfl h2
 cases b <;> simp [behindInMarks, e1, e2]
theorem pe_cmpR {op : CmpOp} {r : R2} (ho : OpR X (compareOp op) r) (ha : PE X a ta) (hb : PE X b tb) (hm : behindInMarks op b = false) : PE X (.Compare a [op] [b] pos) (tOp r ta tb) := by
 intro pins s σ H Q I h
 exact wpAny_Compare1 (binT ha hb I h fun v u s2 x y H2 I2 rx ry q => ho pins s2 σ H2 x y v u Q I2 rx ry q) hm
def tTest (t : TE) : TT := fun σ H Q => t σ H fun x H' => ∃ k, x = .bl k /\ Q k H'
theorem pt_cmpR {op : CmpOp} {r : R2} (ho : OpR X (compareOp op) r) (ha : PE X a ta) (hb : PE X b tb) (hm : behindInMarks op b = false) : PT X (.Compare a [op] [b] pos) (tTest (tOp r ta tb)) := by
 intro pins s σ H Q I h
 refine wpAny_isTrue_Compare1 (thn (ha pins s σ H _ I h) fun v s1 ⟨x, H1, I1, r1, q1⟩ => thn (hb pins s1 σ H1 _ I1 q1) fun u s2 ⟨y, H2, I2, r2, q2⟩ =>
   thn (ho pins s2 σ H2 x y v u _ I2 r1 r2 q2) fun c s3 ⟨z, H3, I3, r3, k, e, q3⟩ => ?_) hm
 subst e
 cases r3
 exact wpAny_truthy_bool ⟨H3, I3, q3⟩
def tChain (r r' : R2) (ta tb tc : TE) : TE := fun σ H Q => ta σ H fun x H1 => tb σ H1 fun y H2 => r x y H2 fun z H3 => ∃ k, z = .bl k /\
 (if k = true then tc σ H3 fun w' H4 => r' y w' H4 Q else Q (.bl false) H3)
theorem pe_chain {op op' : CmpOp} {r r' : R2} (ho : OpR X (compareOp op) r) (ho' : OpR X (compareOp op') r') (ha : PE X a ta) (hb : PE X b tb) (hc : PE X c tc)
   (hm : lastMarks [op, op'] [b, c] = false := by with_unfolding_all rfl) : PE X (.Compare a [op, op'] [b, c] pos) (tChain r r' ta tb tc) := by
 intro pins s σ H Q I h
 refine Compare_chain (thn (ha pins s σ H _ I h) fun v s1 ⟨x, H1, I1, r1, q1⟩ => chain_link (thn (hb pins s1 σ H1 _ I1 q1) fun u s2 ⟨y, H2, I2, r2, q2⟩ =>
   thn (ho pins s2 σ H2 x y v u _ I2 r1 r2 q2) fun d s3 ⟨z, H3, I3, r3, k, e, q3⟩ => ?_)) hm
 subst e
 cases r3
 refine wpAny_truthy_bool ?_
 cases k with
 | false => exact ite_ff ⟨.bl false, H3, I3, rfl, q3⟩
 | true => exact ite_tt (chain_last (thn (hc pins s3 σ H3 _ I3 q3) fun w' s4 ⟨z', H4, I4, r4, q4⟩ => ho' pins s4 σ H4 y z' u w' Q I4 r2 r4 q4))
theorem pt_chain {op op' : CmpOp} {r r' : R2} (ho : OpR X (compareOp op) r) (ho' : OpR X (compareOp op') r') (ha : PE X a ta) (hb : PE X b tb) (hc : PE X c tc)
   (hm : lastMarks [op, op'] [b, c] = false := by with_unfolding_all rfl) : PT X (.Compare a [op, op'] [b, c] pos) (tTest (tChain r r' ta tb tc)) := by
 intro pins s σ H Q I h
 refine isTrue_chain (thn (ha pins s σ H _ I h) fun v s1 ⟨x, H1, I1, r1, q1⟩ => test_link (thn (hb pins s1 σ H1 _ I1 q1) fun u s2 ⟨y, H2, I2, r2, q2⟩ =>
   thn (ho pins s2 σ H2 x y v u _ I2 r1 r2 q2) fun d s3 ⟨z, H3, I3, r3, k, e, q3⟩ => ?_)) hm
 subst e
 cases r3
 refine wpAny_truthy_bool ?_
 cases k with
 | false =>
   obtain ⟨k', e', q'⟩ := q3
   cases e'
   exact ite_ff ⟨H3, I3, q'⟩
 | true =>
   refine ite_tt (test_last (thn (hc pins s3 σ H3 _ I3 q3) fun w' s4 ⟨z', H4, I4, r4, q4⟩ => thn (ho' pins s4 σ H4 y z' u w' _ I4 r2 r4 q4) fun d' s5 ⟨z2, H5, I5, r5, k2, e2, q5⟩ => ?_))
   subst e2
   cases r5
   exact wpAny_truthy_bool ⟨H5, I5, q5⟩
theorem line63 : (sizeLine : Nat) < 2 ^ 63 := by rw [sizeLine_eq]; decide
theorem vals1 {x : V} {us : List Value} (r : Vals [x] us) : ∃ u, us = [u] /\ RelV x u := by
 cases r with
 | cons r1 r2 => cases r2; exact ⟨_, rfl, r1⟩
theorem vals2 {x y : V} {us : List Value} (r : Vals [x, y] us) : ∃ u w', us = [u, w'] /\ RelV x u /\ RelV y w' := by
 cases r with
 | cons r1 r2 =>
   cases r2 with
   | cons r3 r4 => cases r4; exact ⟨_, _, rfl, r1, r3⟩
theorem call_int1 : CallR X (.type "int") (fun xs H Q => (∃ i, xs = [.int i] /\ Q (.int i) H) ∨ ∃ k, xs = [.bl k] /\ Q (.int (if k then 1 else 0)) H) := by
 intro pins s σ H xs us Q I r h
 rcases h with ⟨i, rfl, q⟩ | ⟨k, rfl, q⟩
 · obtain ⟨u, rfl, t, rfl⟩ := vals1 r
   exact call_int_int ⟨.int i, H, I, ⟨_, rfl⟩, q⟩
 · obtain ⟨u, rfl, r1⟩ := vals1 r
   cases r1
   exact call_int_bool ⟨.int (if k then 1 else 0), H, I.tok _, ⟨_, rfl⟩, q⟩
end
end L2
namespace L2
open PySem PySem.Spec PyProof.Rows
structure ObjM (h : Heap) (x dx C : Addr) (mA : Str -> Option Value) : Prop where
 obj : h.get? x = some (PySem.W.instObj C dx)
 ns : h.Ns1 dx mA
 ne : dx ≠ x
theorem lookIn_ns {h : Heap} {dx : Addr} {mA : Str -> Option Value} (n : h.Ns1 dx mA) : ∃ od, h.get? dx = some od /\ ∀ name, PySem.W.lookIn name od = some (mA name) := by
 obtain ⟨o, es, ep, ho, hd, hk, _, hm⟩ := n
 refine ⟨o, ho, fun name => ?_⟩
 have e := hm name
 unfold nsFind findBy at e
 rw [← Array.find?_toList] at e
 unfold PySem.W.lookIn
 rw [hd]
 dsimp only
 split
 · rename_i y q
   rw [q] at e
   exact congrArg some e
 · rename_i q
   rw [q] at e
   have a : es.toList.any (·.refKey) = false := by
     rw [List.any_eq_false]
     intro y hy
     obtain ⟨z, t, hkey⟩ := hk y (Array.mem_toList_iff.mp hy)
     simp [DictEntry.refKey, hkey]
   have a' : ¬ es.toList.any (·.refKey) = true := by rw [a]; exact Bool.false_ne_true
   rw [if_neg a']
   exact congrArg some e
theorem ObjM.look {h : Heap} {x dx C : Addr} {mA : Str -> Option Value} (I : ObjM h x dx C mA) : ∃ od, PySem.W.InstAt h x (PySem.W.instObj C dx) C (some od) /\ ∀ name, PySem.W.lookIn name od = some (mA name) :=
 let ⟨od, ho, hl⟩ := lookIn_ns I.ns
 ⟨od, ⟨I.obj, rfl, rfl, ho⟩, hl⟩
section
variable {prog : Program} {w : World} {A : Around} {E : Value -> Shared -> Prop} {s : Shared} {K : PySem.W.Frag} {x dx C f : Addr} {mA : Str -> Option Value} {name : Str} {v : Value}
theorem get_map {expr : Bool} {Q : Value -> Shared -> Prop} (X : K.In s.heap) (I : ObjM s.heap x dx C mA) (hg : PySem.W.plainGet K C name = true) (hh : PySem.W.hasDictIn K C = true)
   (ha : PySem.W.findIn K (.ref C) name = some none) (hv : mA name = some v) (hv' : PySem.W.handedIn v = true) (h : Q v { s with toks := s.toks + 1 }) :
   wpAny (model prog w) A (getAttr (.ref x) name expr) Q E s := by
 obtain ⟨od, J, hl⟩ := I.look
 exact PySem.W.get_value X J (PySem.W.plainGet_of hg).1 (PySem.W.findObj_own hh ha rfl (by rw [hl, hv])) hv' h
theorem set_map {ns : List Str} {Q : Unit -> Shared -> Prop} (X : K.In s.heap) (I : ObjM s.heap x dx C mA)
   (hs : PySem.W.findIn K (.ref C) "__setattr__" = some (some (.builtin "object.__setattr__"))) (hp : PySem.W.plainOver K C = true) (ht : PySem.W.takerIn K C name = some none) (hh : PySem.W.hasDictIn K C = true)
   (hw : PySem.Within mA ns) (hsz : ns.length <= sizeLine)
   (h : ∀ h', ObjM h' x dx C (fun y => if y = name then some v else mA y) -> Heap.SameBut dx s.heap h' -> Q () { s with heap := h', toks := s.toks + 2 }) :
   wpAny (model prog w) A (setAttr (.ref x) name v) Q E s := by
 obtain ⟨od, J, hl⟩ := I.look
 refine PySem.W.set_plain X J hs (PySem.W.osa_open (s := { s with toks := s.toks + 1 }) (r := none) X J hp ht fun b => ?_)
 obtain ⟨cd, hc, hd'⟩ := PySem.W.any_some hh
 have hx : s.heap.get? x = some ⟨.ref C, some dx, .plain, #[]⟩ := I.obj
 refine wpAny_bind (wpAny_pure (wpAny_bind (wpAny_bind (wpAny_loadPart hx (wpAny_bind (PySem.W.Looks.here (s := { s with toks := s.toks + 1 }) (PySem.W.looks_clsIn X hc) ?_))))))
 rw [hd']
 refine wpAny_pure (a := some dx) (wpAny_bind (wpAny_pure (wpAny_bind ?_)))
 refine wpAny_nsSet1 (s := { s with toks := s.toks + 1 }) I.ns fun h' hn2 hs2 => ?_
 obtain ⟨oD, esD, epD, hoD, hdD, hcD⟩ := hn2.count (PySem.Within.cons name v hw)
 refine wpAny_bind (wpAny_lookBehind hoD (by rw [hdD]; exact pastItsLine_dict (Nat.le_trans hcD (by rw [List.length_cons]; omega))) ?_)
 exact wpAny_pure (h _ ⟨(hs2.2 _ (Ne.symm I.ne)).trans I.obj, hn2, I.ne⟩ hs2)
theorem make_map {R : Result -> Shared -> Prop} {vs : List Value} {kw : List (Str × Value)} (X : K.In s.heap) (hm : PySem.W.makesIn K C = true)
   (hi : PySem.W.findIn K (.ref C) "__init__" = some (some (.ref f))) (hf : PySem.W.typeIn K (.ref f) = some (.type "function"))
   (h : codeAny (model prog w) (A.under (.builtin "type.__call__" ⟨.ref C :: vs, kw⟩)) (.call (.ref f) ⟨.ref (s.heap.objs.size + 1) :: vs, kw⟩) (PySem.W.InitBack (s.heap.objs.size + 1) R)
     { s with heap := (s.heap.push PySem.W.emptyDict).push (PySem.W.instObj C s.heap.objs.size) }) :
   codeAny (model prog w) A (.call (.ref C) ⟨vs, kw⟩) R s := by
 obtain ⟨hh, g, d, t, os⟩ := s
 exact PySem.W.make_core (PySem.W.makes_of X hm) (PySem.W.looks_findIn X hi) (fun self => PySem.W.bind_fn X self hf) (.inl rfl) h
end
def putF (f : Str) (v : V) : List (Str × V) -> List (Str × V)
 | [] => [(f, v)]
 | (g, x) :: r => if g = f then (g, v) :: r else (g, x) :: putF f v r
theorem lookup_putF (f g : Str) (v : V) : ∀ fs : List (Str × V), (putF f v fs).lookup g = if g = f then some v else fs.lookup g
 | [] => by
   show List.lookup g [(f, v)] = _
   by_cases h : g = f
   · have hb : (g == f) = true := beq_iff_eq.mpr h
     simp only [List.lookup, hb, if_pos h]
   · have hb : (g == f) = false := beq_eq_false_iff_ne.mpr h
     simp only [List.lookup, hb, if_neg h]
 | (k, x) :: r => by
   have ih := lookup_putF f g v r
   rw [show putF f v ((k, x) :: r) = (if k = f then (k, v) :: r else (k, x) :: putF f v r) from rfl]
   by_cases hk : k = f
   · rw [if_pos hk]
     by_cases h : g = k
     · have hb : (g == k) = true := beq_iff_eq.mpr h
       simp only [List.lookup, hb, if_pos (h.trans hk)]
     · have hb : (g == k) = false := beq_eq_false_iff_ne.mpr h
       simp only [List.lookup, hb, if_neg (fun e : g = f => h (e.trans hk.symm))]
   · rw [if_neg hk]
     by_cases h : g = k
     · have hb : (g == k) = true := beq_iff_eq.mpr h
       simp only [List.lookup, hb, if_neg (fun e : g = f => hk (h.symm.trans e))]
     · have hb : (g == k) = false := beq_eq_false_iff_ne.mpr h
       simp only [List.lookup, hb]
       exact ih
theorem keys_putF (f : Str) (v : V) : ∀ fs : List (Str × V), f ∈ (putF f v fs).map (·.1) /\ ∀ g, g ∈ fs.map (·.1) -> g ∈ (putF f v fs).map (·.1)
 | [] => ⟨by simp [putF], fun g h => by simp at h⟩
 | (k, x) :: r => by
   obtain ⟨i1, i2⟩ := keys_putF f v r
   rw [show putF f v ((k, x) :: r) = (if k = f then (k, v) :: r else (k, x) :: putF f v r) from rfl]
   by_cases hk : k = f
   · rw [if_pos hk]
     subst hk
     exact ⟨by simp, fun g h => by simpa using h⟩
   · rw [if_neg hk]
     refine ⟨?_, fun g h => ?_⟩
     · rw [List.map_cons]
       exact List.mem_cons_of_mem _ i1
     · rw [List.map_cons] at h ⊢
       rcases List.mem_cons.mp h with e | e
       · exact List.mem_cons.mpr (.inl e)
       · exact List.mem_cons_of_mem _ (i2 g e)
theorem length_putF (f : Str) (v : V) : ∀ fs : List (Str × V), (putF f v fs).length <= fs.length + 1
 | [] => by simp [putF]
 | (k, x) :: r => by
   have ih := length_putF f v r
   rw [show putF f v ((k, x) :: r) = (if k = f then (k, v) :: r else (k, x) :: putF f v r) from rfl]
   by_cases hk : k = f
   · rw [if_pos hk, List.length_cons, List.length_cons]; omega
   · rw [if_neg hk, List.length_cons, List.length_cons]; omega
theorem RelO.some_of {v : V} {o : Option Value} (r : RelO (some v) o) : ∃ u, o = some u /\ RelV v u := by
 cases o with
 | none => exact (show False from r).elim
 | some u => exact ⟨u, rfl, r⟩
theorem handed_of {v : V} {u : Value} (r : RelV v u) : PySem.W.handedIn u = true := by
 cases v with
 | non => cases (show u = Value.none from r); rfl
 | bl b => cases (show u = Value.bool b from r); rfl
 | int i => obtain ⟨t, e⟩ := (show ∃ t, u = Value.int i t from r); cases e; rfl
 | str x => obtain ⟨t, e⟩ := (show ∃ t, u = Value.str x t from r); cases e; rfl
 | byt b => obtain ⟨t, e⟩ := (show ∃ t, u = Value.bytes b t from r); cases e; rfl
 | flt b => obtain ⟨t, e⟩ := (show ∃ t, u = Value.float b t from r); cases e; rfl
 | ref a => cases (show u = Value.ref a from r); rfl
 | ty n => cases (show u = Value.type n from r); rfl
section
variable {P : Program} {w : World} {H H' : Hp} {h h' : Heap} {a C dx : Addr} {fs fs' : List (Str × V)}
theorem ins_get (hok : HOk P w H h) (e : H a = some (.ins C dx fs)) : ∃ mA, ObjM h a dx C mA /\ (∀ f, RelO (fs.lookup f) (mA f)) /\ PySem.Within mA (fs.map (·.1)) /\ fs.length <= 1000 /\ H dx = some (.own a) := by
 obtain ⟨d, z, ne, ob, mA, n, r, q⟩ := (show ObjOk P w H h a (.ins C dx fs) from hok a _ e)
 exact ⟨mA, ⟨ob, n, ne⟩, r, q, z, d⟩
end
structure Cls (K : PySem.W.Frag) (C : Addr) : Prop where
 pg : PySem.W.plainGet K C Str.empty = true
 hd : PySem.W.hasDictIn K C = true
 po : PySem.W.plainOver K C = true
 sa : PySem.W.findIn K (.ref C) "__setattr__" = some (some (.builtin "object.__setattr__"))
theorem Cls.get {K : PySem.W.Frag} {C : Addr} (c : Cls K C) (f : Str) : PySem.W.plainGet K C f = true := c.pg
def NoAttr (K : PySem.W.Frag) (C : Addr) (f : Str) : Prop := PySem.W.findIn K (.ref C) f = some none
theorem NoAttr.taker {K : PySem.W.Frag} {C : Addr} {f : Str} (n : NoAttr K C f) : PySem.W.takerIn K C f = some none := by
 unfold PySem.W.takerIn
 rw [show PySem.W.findIn K (.ref C) f = some none from n]
 rfl
structure Con (K : PySem.W.Frag) (C : Addr) (f : Str) (v : V) (u : Value) : Prop where
 at_ : PySem.W.findIn K (.ref C) f = some (some u)
 rel : RelV v u
 get : PySem.W.specialIn K u "__get__" = some none
 cp : PySem.W.copiedNames.contains f = false
structure Meth (K : PySem.W.Frag) (C : Addr) (m : Str) (f : Addr) : Prop where
 at_ : PySem.W.findIn K (.ref C) m = some (some (.ref f))
 fn : PySem.W.isFn K (.ref f) = true
 kp : PySem.W.keepIn K (.ref f) = true
section
variable {X : Cx} {pins : List (Addr × Obj)} {σ : St} {H : Hp} {s : Shared} {a C dx : Addr} {fs : List (Str × V)} {f : Str} {v : V} {A : Around} {E : Value -> Shared -> Prop}
theorem getattr_ok {b : Bool} {Q : Value -> Shared -> Prop} (I : Inv X pins σ H s) (e : H a = some (.ins C dx fs)) (c : Cls X.K C) (n : NoAttr X.K C f) (l : fs.lookup f = some v)
   (h : ∀ u s', Inv X pins σ H s' -> RelV v u -> Q u s') : wpAny (model X.prog X.w) A (getAttr (.ref a) f b) Q E s := by
 obtain ⟨mA, O, r, _, _, _⟩ := ins_get I.hok e
 obtain ⟨u, hu, ru⟩ := RelO.some_of (v := v) (o := mA f) (by rw [← l]; exact r f)
 exact get_map I.kIn O (c.get f) c.hd n hu (handed_of ru) (h u _ (I.tok _) ru)
theorem setattr_ok {y : V} {u : Value} {Q : Unit -> Shared -> Prop} (I : Inv X pins σ H s) (e : H a = some (.ins C dx fs)) (c : Cls X.K C) (n : NoAttr X.K C f) (hl : fs.length < 1000) (ry : RelV y u)
   (h : ∀ s', Inv X pins σ (upd H a (.ins C dx (putF f y fs))) s' -> Q () s') : wpAny (model X.prog X.w) A (setAttr (.ref a) f u) Q E s := by
 obtain ⟨mA, O, r, wi, _, ho⟩ := ins_get I.hok e
 have hz : (fs.map (·.1)).length <= sizeLine := by rw [List.length_map, sizeLine_eq]; omega
 refine set_map I.kIn O c.sa c.po n.taker c.hd wi hz fun h' O' sb => h _ ?_
 have hd : ∃ o, h'.get? dx = some o := let ⟨o, _, _, e', _⟩ := O'.ns; ⟨o, e'⟩
 refine I.write (x := a) (e := dx) (by rw [e]; exact True.intro) (.inr ho) (fun b q hb z => (sb.2 b hb).trans z) hd ?_
 refine ⟨by rw [upd_ne O.ne]; exact ho, ?_, O.ne, O'.obj, _, O'.ns, fun g => ?_, fun g hg => ?_⟩
 · have := length_putF f y fs; omega
 · show RelO ((putF f y fs).lookup g) (if g = f then some u else mA g)
   rw [lookup_putF]
   by_cases q : g = f
   · rw [if_pos q, if_pos q]; exact ry
   · rw [if_neg q, if_neg q]; exact r g
 · by_cases q : g = f
   · rw [q]; exact (keys_putF f y fs).1
   · refine (keys_putF f y fs).2 g (wi g fun z => hg ?_)
     show (if g = f then some u else mA g) = none
     rw [if_neg q]; exact z
theorem Inv.made (I : Inv X pins σ H s) : Inv X pins σ (upd (upd H s.heap.objs.size (.own (s.heap.objs.size + 1))) (s.heap.objs.size + 1) (.ins C s.heap.objs.size []))
   { s with heap := (s.heap.push PySem.W.emptyDict).push (PySem.W.instObj C s.heap.objs.size) } := by
 have e1 : (s.heap.push PySem.W.emptyDict).get? s.heap.objs.size = some PySem.W.emptyDict := Heap.get?_push_size s.heap rfl
 have e2 : ((s.heap.push PySem.W.emptyDict).push (PySem.W.instObj C s.heap.objs.size)).get? (s.heap.objs.size + 1) = some (PySem.W.instObj C s.heap.objs.size) := by
   have := Heap.get?_push_size (s.heap.push PySem.W.emptyDict) (o := PySem.W.instObj C s.heap.objs.size) rfl
   rwa [Heap.size_push] at this
 have e3 : (s.heap.push PySem.W.emptyDict).Ns s.heap.objs.size (fun _ => none) := ⟨PySem.W.emptyDict, #[], _, e1, rfl, (fun e he => absurd he (by simp)), fun _ => rfl⟩
 have I1 := I.laid (a := s.heap.objs.size) (o := .own (s.heap.objs.size + 1)) (h' := s.heap.push PySem.W.emptyDict) (t' := s.toks) (fun b u q => Heap.get?_push_of_some _ q) (Nat.le_refl _) ⟨_, e1⟩
 refine I1.laid (a := s.heap.objs.size + 1) (o := .ins C s.heap.objs.size []) (t' := s.toks) (fun b u q => Heap.get?_push_of_some _ q) (Nat.le_of_eq (Heap.size_push _ _)) ?_
 have ne : s.heap.objs.size ≠ s.heap.objs.size + 1 := Nat.ne_of_lt (Nat.lt_succ_self _)
 refine ⟨by rw [upd_ne ne, upd_same], Nat.zero_le _, ne, e2, fun _ => none, (Heap.Ns1.of_empty e3).at fun o q => Heap.get?_push_of_some _ q, fun _ => True.intro, fun y hy => absurd rfl hy⟩
theorem attr_of {prog : Program} {w : World} {env : Env} {e : Expr} {f : Str} {pos : Pos} {s : Shared} {Q : Value -> Shared -> Prop} (hb : attributeBase e f env (eval e env) = eval e env)
   (h : wpAny (model prog w) A (eval e env) (fun o s₁ => wpAny (model prog w) A (getAttr o f true) Q E s₁) E s) : wpAny (model prog w) A (eval (.Attribute e f pos) env) Q E s :=
 Attribute_any_ h (by rw [arm_eval_Attribute, hb])
end
def tFld (K : PySem.W.Frag) (ta : TE) (f : Str) : TE := fun σ H Q => ta σ H fun x H1 => ∃ a C dx fs v, x = .ref a /\ H1 a = some (.ins C dx fs) /\ Cls K C /\ NoAttr K C f /\ fs.lookup f = some v /\ Q v H1
def sFld (K : PySem.W.Frag) (ta tv : TE) (f : Str) : TS := fun D σ H => tv σ H fun y H1 => ta σ H1 fun x H2 => ∃ a C dx fs, x = .ref a /\ H2 a = some (.ins C dx fs) /\ Cls K C /\ NoAttr K C f /\ fs.length < 1000 /\
 D.nx σ (upd H2 a (.ins C dx (putF f y fs)))
section
variable {X : Cx} {o e value : Expr} {f : Str} {pos pos' tpos : Pos} {ta tv : TE}
theorem pe_fld (he : PE X e ta) (hb : attributeBase e f X.env (eval e X.env) = eval e X.env) : PE X (.Attribute e f pos) (tFld X.K ta f) := by
 intro pins s σ H Q I h
 refine attr_of hb (thn (he pins s σ H _ I h) fun u s1 ⟨x, H1, I1, rx, a, C, dx, fs, v, ex, ea, c, n, l, q⟩ => ?_)
 subst ex
 obtain rfl : u = Value.ref a := rx
 exact getattr_ok I1 ea c n l fun u' s2 I2 ru => ⟨v, H1, I2, ru, q⟩
theorem ps_fld (ha : PE X o ta) (hv : PE X value tv) (hs : swapsWith value (some (.Attribute o f pos')) pos.line X.env = pure false) : PS X (.Assign [.Attribute o f pos'] value pos) (sFld X.K ta tv f) := by
 intro pins s σ H D I h
 refine plainObj_wpAny_Assign_Attribute (thn (hv pins s σ H _ I h) fun u s1 ⟨y, H1, I1, ry, q⟩ => thn (ha pins s1 σ H1 _ I1 q) fun ov s2 ⟨x, H2, I2, rx, a, C, dx, fs, ex, ea, c, n, l, q2⟩ => ?_) hs
 subst ex
 obtain rfl : ov = Value.ref a := rx
 exact setattr_ok I2 ea c n l ry fun s3 I3 => ⟨σ, _, I3, q2⟩
end
section
variable {X : Cx} {pins : List (Addr × Obj)} {σ : St} {H : Hp} {s : Shared} {A : Around} {E : Value -> Shared -> Prop} {Q : Value -> Shared -> Prop} {c : Value} {b : Bool}
inductive TyOf (K : PySem.W.Frag) (H : Hp) : V -> Value -> Prop where
 | non : TyOf K H .non (.type "NoneType")
 | bl (x : Bool) : TyOf K H (.bl x) (.type "bool")
 | int (i : Int) : TyOf K H (.int i) (.type "int")
 | str (x : Str) : TyOf K H (.str x) (.type "str")
 | flt (x : UInt64) : TyOf K H (.flt x) (.type "float")
 | lst {a : Addr} {xs : List V} (e : H a = some (.lst xs)) : TyOf K H (.ref a) (.type "list")
 | frz {a : Addr} {o : Obj} {xs : List V} (e : H a = some (.frz o (.lst xs))) : TyOf K H (.ref a) (.type "list")
 | tup {a : Addr} {xs : List V} (e : H a = some (.tup xs)) : TyOf K H (.ref a) (.type "tuple")
 | dK {a : Addr} {kvs : List (Key × V)} (e : H a = some (.dK kvs)) : TyOf K H (.ref a) (.type "dict")
 | dT {a : Addr} {kvs : List (List Key × V)} (e : H a = some (.dT kvs)) : TyOf K H (.ref a) (.type "dict")
 | ins {a C dx : Addr} {fs : List (Str × V)} (e : H a = some (.ins C dx fs)) (cl : Cls K C) (ha : PySem.W.findIn K (.ref C) "__class__" = some (some (.builtin "object.__class__")))
     (hn : PySem.W.specialIn K (.builtin "object.__class__") "__get__" = some (some (.builtin "getset_descriptor.__get__"))) (htk : PySem.W.takesIn K (.builtin "object.__class__") = some true)
     (hm : PySem.W.mroIn K C (.type "object") = some true) : TyOf K H (.ref a) (.ref C)
end
end L2
namespace L2
open PySem PySem.Spec PyProof.Rows
structure Room (k : Nat) (A : Around) : Prop where
 hd : A.handled = none
 dp : A.depth + 3 * k + 5 < recursionLimit
 un : A.units + 16 * k + 200 < cLine
theorem Room.mono {j k : Nat} {A : Around} (r : Room k A) (h : j <= k) : Room j A := ⟨r.hd, by have := r.dp; omega, by have := r.un; omega⟩
theorem Room.deeper {k : Nat} {A : Around} (r : Room (k + 1) A) (env : Env) : Room k (A.deeper env) :=
 ⟨r.hd, by have := r.dp; show A.depth + 1 + 3 * k + 5 < _; omega, by have := r.un; show A.units + 3 + 16 * k + 200 < _; omega⟩
theorem Room.in1 {k : Nat} {A : Around} (r : Room (k + 1) A) : Room k A.in1 :=
 ⟨r.hd, by have := r.dp; show A.depth + 3 * k + 5 < _; omega, by have := r.un; show A.units + 1 + 16 * k + 200 < _; omega⟩
theorem make_depth {A : Around} {C : Addr} {us : List Value} {kw : List (Str × Value)} : (A.under (.builtin "type.__call__" ⟨.ref C :: us, kw⟩)).depth = A.depth + 1 := by
 first | rfl | simp [Around.under, Code.weight, Code.isCreation, Code.isGuard, Code.isCaller, Code.frames, Code.isFrame, guardIds]
theorem make_units {A : Around} {C : Addr} {us : List Value} {kw : List (Str × Value)} : (A.under (.builtin "type.__call__" ⟨.ref C :: us, kw⟩)).units = A.units + 1 := by
 first | rfl | simp [Around.under, Code.cUnits, Code.frames, Code.isFrame]
theorem Room.make {k : Nat} {A : Around} (r : Room (k + 1) A) (C : Addr) (us : List Value) (kw : List (Str × Value)) : Room k (A.under (.builtin "type.__call__" ⟨.ref C :: us, kw⟩)) :=
 ⟨r.hd, by have := r.dp; rw [make_depth]; omega, by have := r.un; rw [make_units]; omega⟩
theorem Room.depth {k : Nat} {A : Around} (r : Room k A) : A.depth < recursionLimit := by have := r.dp; omega
theorem Room.units {k : Nat} {A : Around} (r : Room k A) : A.units + 64 < cLine := by have := r.un; omega
theorem Room.units0 {k : Nat} {A : Around} (r : Room k A) : A.units < cLine := by have := r.un; omega
def tNil : TA := fun _ H Q => Q [] H
def tCons (ta : TE) (tr : TA) : TA := fun σ H Q => ta σ H fun x H1 => tr σ H1 fun xs H2 => Q (x :: xs) H2
section
variable {X : Cx} {e : Expr} {es : List Expr} {te : TE} {t : TA} {pos : Pos}
theorem pa_nil : PA X [] tNil := fun _ _ _ _ H Q I h => Calls.spliced_nil ⟨[], H, I, .nil, h⟩
theorem pa_cons (ha : PE X e te) (hr : PA X es t) (hs : starEach (e :: es) X.env = (false, eval e X.env) :: starEach es X.env := by rfl) : PA X (e :: es) (tCons te t) := by
 intro pos pins s σ H Q I h
 rw [hs]
 show wpAny _ _ (spliced ((false, eval e X.env) :: backTo pos (starEach es X.env))) _ _ s
 refine Calls.spliced_cons (thn (ha pins s σ H _ I h) fun u s1 ⟨x, H1, I1, r1, q1⟩ => ?_)
 exact thn (hr pos pins s1 σ H1 _ I1 q1) fun us s2 ⟨xs, H2, I2, r2, q2⟩ => ⟨x :: xs, H2, I2, .cons r1 r2, q2⟩
def tTup (t : TA) : TE := fun σ H Q => t σ H fun xs H1 => xs.length <= sizeLine /\ ∀ p, H1 p = none -> Q (.ref p) (upd H1 p (.tup xs))
def tLst (t : TA) : TE := fun σ H Q => t σ H fun xs H1 => xs.length <= sizeLine /\ ∀ p, H1 p = none -> Q (.ref p) (upd H1 p (.lst xs))
theorem pe_tup {x1} (h : PA X es t) : PE X (.Tuple es x1 pos) (tTup t) := by
 intro pins s σ H Q I hq
 refine wpAny_Tuple_spliced (thn (h pos pins s σ H _ I hq) fun us s1 ⟨xs, H1, I1, r, z, q⟩ => ⟨by rw [← r.length]; exact z, ?_⟩)
 have hf : H1 s1.heap.objs.size = none := I1.hok.fresh (Nat.le_refl _)
 refine ⟨.ref s1.heap.objs.size, upd H1 s1.heap.objs.size (.tup xs), I1.laid (t' := s1.toks) (fun b u e => Heap.get?_push_of_some _ e) (Nat.le_refl _) ?_, rfl, q _ hf⟩
 exact ⟨z, us, r, ⟨_, Heap.get?_push_size _ rfl, rfl, _, rfl⟩⟩
theorem pe_lst (h : PA X es t) : PE X (.List es pos) (tLst t) := by
 intro pins s σ H Q I hq
 refine wpAny_List_spliced (thn (h pos pins s σ H _ I hq) fun us s1 ⟨xs, H1, I1, r, z, q⟩ => ⟨by rw [← r.length]; exact z, ?_⟩)
 have hf : H1 s1.heap.objs.size = none := I1.hok.fresh (Nat.le_refl _)
 refine ⟨.ref s1.heap.objs.size, upd H1 s1.heap.objs.size (.lst xs), I1.laid (t' := s1.toks) (fun b u e => Heap.get?_push_of_some _ e) (Nat.le_refl _) ?_, rfl, q _ hf⟩
 exact ⟨z, us, 0, r, Heap.get?_push_size _ rfl⟩
end
abbrev Sp := List V -> Hp -> VK -> XK -> Prop
abbrev CXT := List Env -> Hp -> Shared -> XK -> Value -> Shared -> Prop
structure Env0 (P : Program) (w : World) (K : PySem.W.Frag) (mg : Str -> Option Value) (base : Heap) (A : Around) (outer : List Env) (s : Shared) (H : Hp) : Prop where
 frames : A.frames = some outer
 mod : Mod K mg base
 bs : ∀ b o, base.get? b = some o -> s.heap.get? b = some o /\ H b = none
 bsz : base.objs.size <= s.heap.objs.size
 funs : s.heap.FunFrames base outer
 frf : ∀ b ∈ frs outer, H b = none
 hok : HOk P w H s.heap
 bare : AllBare s.gens
def CE (outer : List Env) (P : Program) (w : World) (H : Hp) (s : Shared) (Q : VK) (u : Value) (s' : Shared) : Prop :=
 ∃ v H', s'.os = s.os /\ AllBare s'.gens /\ Un (frs outer) [] H H' s.heap s'.heap /\ HOk P w H' s'.heap /\ RelV v u /\ Q v H'
def CR (CX : CXT) (outer : List Env) (P : Program) (w : World) (H : Hp) (s : Shared) (Q : VK) (E : XK) (r : Result) (s' : Shared) : Prop :=
 match r with
 | .ok (.ret u) => CE outer P w H s Q u s'
 | .ok _ => False
 | .error e => CX outer H s E e s'
structure FnOk (P : Program) (w : World) (K : PySem.W.Frag) (mg : Str -> Option Value) (base : Heap) (CX : CXT) (k : Nat) (f : Addr) (fd : FuncData) (ps : List Str) (sp : Sp) : Prop where
 len : ∀ vs H Q E, sp vs H Q E -> vs.length = ps.length
 run : ∀ (A : Around) (outer : List Env) (s : Shared) (H : Hp) (args : Args) (us : List Value) (vs : List V) (Q : VK) (E : XK), Room k A -> Env0 P w K mg base A outer s H -> BindsTo s fd args (ps.zip us) -> Vals vs us -> sp vs H Q E ->
   codeAny (model P w) A (.call (.ref f) args) (CR CX outer P w H s Q E) s
theorem FnOk.mono {P : Program} {w : World} {K : PySem.W.Frag} {mg : Str -> Option Value} {base : Heap} {CX : CXT} {j k : Nat} {f : Addr} {fd : FuncData} {ps : List Str} {sp : Sp} (F : FnOk P w K mg base CX j f fd ps sp) (h : j <= k) :
   FnOk P w K mg base CX k f fd ps sp := ⟨F.len, fun A outer s H args us vs Q E hr => F.run A outer s H args us vs Q E (hr.mono h)⟩
theorem FnOk.imp {P : Program} {w : World} {K : PySem.W.Frag} {mg : Str -> Option Value} {base : Heap} {CX : CXT} {k : Nat} {f : Addr} {fd : FuncData} {ps : List Str} {sp sp' : Sp} (F : FnOk P w K mg base CX k f fd ps sp)
   (h : ∀ vs H Q E, sp' vs H Q E -> sp vs H Q E) : FnOk P w K mg base CX k f fd ps sp' :=
 ⟨fun vs H Q E q => F.len vs H Q E (h _ _ _ _ q), fun A outer s H args us vs Q E hr he hb hv hs => F.run A outer s H args us vs Q E hr he hb hv (h _ _ _ _ hs)⟩
theorem Env0.make {P : Program} {w : World} {K : PySem.W.Frag} {mg : Str -> Option Value} {base : Heap} {A : Around} {outer : List Env} {s : Shared} {H : Hp} (e : Env0 P w K mg base A outer s H) (C : Addr) (us : List Value) (kw : List (Str × Value)) :
   Env0 P w K mg base (A.under (.builtin "type.__call__" ⟨.ref C :: us, kw⟩)) outer s H := ⟨by first | exact e.frames | (simpa [Around.under, Code.envs, Code.isFrame, pushEnvs] using e.frames), e.mod, e.bs, e.bsz, e.funs, e.frf, e.hok, e.bare⟩
theorem Env0.in1 {P : Program} {w : World} {K : PySem.W.Frag} {mg : Str -> Option Value} {base : Heap} {A : Around} {outer : List Env} {s : Shared} {H : Hp} (e : Env0 P w K mg base A outer s H) :
   Env0 P w K mg base A.in1 outer s H := ⟨e.frames, e.mod, e.bs, e.bsz, e.funs, e.frf, e.hok, e.bare⟩
section
variable {X : Cx} {pins : List (Addr × Obj)} {σ : St} {H : Hp} {s s' : Shared}
theorem Inv.env0 (I : Inv X pins σ H s) : Env0 X.prog X.w X.K X.mg X.base X.A X.stack s H :=
 ⟨I.ok.frames, I.ok.mod, I.bs, Nat.le_trans I.ok.bsz I.sz, I.stack, I.stkFree, I.hok, I.bare⟩
theorem Inv.after {Q : VK} {u : Value} (I : Inv X pins σ H s) (h : CE X.stack X.prog X.w H s Q u s') : EP X pins σ Q u s' := by
 obtain ⟨v, H', os, bare, un, hok, r, q⟩ := h
 obtain ⟨hh, g, d, t, os'⟩ := s'
 obtain rfl : os' = s.os := os
 exact ⟨v, H', I.call (h' := hh) (g' := g) (d' := d) (t' := t) (ch := []) un hok bare (fun b z => absurd z (by simp)), r, q⟩
end
def tCall (sp : Sp) (dvs : List V) (E : XK) (t : TA) : TE := fun σ H Q => t σ H fun vs H1 => sp (vs ++ dvs) H1 Q E
def tMake (C : Addr) (sp : Sp) (dvs : List V) (E : XK) (t : TA) : TE := fun σ H Q => t σ H fun vs H1 => ∀ x dx, H1 x = none -> H1 dx = none -> dx ≠ x ->
 sp (.ref x :: (vs ++ dvs)) (upd (upd H1 dx (.own x)) x (.ins C dx [])) (fun v H2 => v = .non /\ Q (.ref x) H2) E
def Binds (K : PySem.W.Frag) (fd : FuncData) (ps : List Str) (ds : List Value) : Prop :=
 ∀ (s : Shared) (us : List Value), K.In s.heap -> (us ++ ds).length = ps.length -> BindsTo s fd ⟨us, []⟩ (ps.zip (us ++ ds))
theorem Binds.all {K : PySem.W.Frag} {fd : FuncData} {ps : List Str} (h : ∀ us : List Value, us.length = ps.length -> bindArgs fd ⟨us, []⟩ = pure (ps.zip us)) : Binds K fd ps [] := fun s us _ hl => by
 rw [List.append_nil] at hl ⊢
 exact .of_eq (h us hl)
def Passes (CX : CXT) (X : Cx) (E : XK) : Prop := ∀ (pins : List (Addr × Obj)) (σ : St) (H : Hp) (s : Shared) (e : Value) (s' : Shared), Inv X pins σ H s -> CX X.stack H s E e s' -> X.xe e s'
section
variable {X : Cx} {CX : CXT} {k : Nat} {f C : Addr} {fd : FuncData} {ps : List Str} {sp : Sp} {dvs : List V} {ds : List Value} {E : XK} {x m : Str} {p pos apos : Pos} {e o : Expr} {es : List Expr} {ta : TE} {t : TA}
theorem run_fn {pins : List (Addr × Obj)} {σ : St} {H : Hp} {s : Shared} {Q : VK} {us : List Value} {vs : List V} (F : FnOk X.prog X.w X.K X.mg X.base CX k f fd ps sp) (hr : Room k X.A) (hb : Binds X.K fd ps ds) (hd : Vals dvs ds) (hx : Passes CX X E)
   (I : Inv X pins σ H s) (r : Vals vs us) (h : sp (vs ++ dvs) H Q E) : wpAny (model X.prog X.w) X.A (call (.ref f) us) (EP X pins σ Q) X.xe s := by
 have r2 : Vals (vs ++ dvs) (us ++ ds) := r.append hd
 have hl : (us ++ ds).length = ps.length := by rw [← r2.length]; exact F.len _ _ _ _ h
 refine wpAny_call (codeAny_mono (F.run X.A X.stack s H ⟨us, []⟩ (us ++ ds) (vs ++ dvs) Q E hr I.env0 (hb s us I.kIn hl) r2 h) fun r s' hq => ?_)
 cases r with
 | error e => exact hx pins σ H s e s' I hq
 | ok fl =>
   cases fl with
   | ret u => exact I.after hq
   | next => exact False.elim hq
   | brk => exact False.elim hq
   | cont => exact False.elim hq
theorem pe_call (F : FnOk X.prog X.w X.K X.mg X.base CX k f fd ps sp) (hr : Room k X.A) (hg : Gl X x) (hm : X.mg x = some (.ref f)) (hk : PySem.W.keepIn X.K (.ref f) = true) (hb : Binds X.K fd ps ds) (hd : Vals dvs ds) (hx : Passes CX X E)
   (ha : PA X (e :: es) t) (hdb : (x == ("__debug__" : Str)) = false := by decide) (he : starEach (e :: es) X.env = (false, eval e X.env) :: starEach es X.env := by rfl) (hpl : (backTo pos (starEach es X.env)).any (·.1) = false := by rfl) :
   PE X (.Call (.Name x p) (e :: es) [] pos) (tCall sp dvs E t) := by
 intro pins s σ H Q I h
 refine wpAny_Call_Name_kw (ld_glob I hg hm ?_ hdb)
 refine PySem.W.callWith_K (h₀ := X.base) I.ok.mod.kin hk (thn (ha pos pins s σ H _ I h) fun us s1 ⟨vs, H1, I1, r, q⟩ => ⟨I1.kIn, ?_⟩) he hpl
 exact run_fn F hr hb hd hx I1 r q
structure Mk (K : PySem.W.Frag) (C f : Addr) : Prop where
 makes : PySem.W.makesIn K C = true
 init : PySem.W.findIn K (.ref C) "__init__" = some (some (.ref f))
 fn : PySem.W.isFn K (.ref f) = true
 kp : PySem.W.keepIn K (.ref C) = true
theorem run_make {pins : List (Addr × Obj)} {σ : St} {H : Hp} {s : Shared} {Q : VK} {us : List Value} {vs : List V} (M : Mk X.K C f) (F : FnOk X.prog X.w X.K X.mg X.base CX k f fd ps sp) (hr : Room (k + 1) X.A) (hb : Binds X.K fd ps ds) (hd : Vals dvs ds)
   (hx : Passes CX X E) (I : Inv X pins σ H s) (r : Vals vs us)
   (h : ∀ x dx, H x = none -> H dx = none -> dx ≠ x -> sp (.ref x :: (vs ++ dvs)) (upd (upd H dx (.own x)) x (.ins C dx [])) (fun v H2 => v = .non /\ Q (.ref x) H2) E) :
   wpAny (model X.prog X.w) X.A (call (.ref C) us) (EP X pins σ Q) X.xe s := by
 have hq := h (s.heap.objs.size + 1) s.heap.objs.size (I.hok.fresh (Nat.le_succ _)) (I.hok.fresh (Nat.le_refl _)) (Nat.ne_of_lt (Nat.lt_succ_self _))
 have I2 := Inv.made (C := C) I
 have r2 : Vals (V.ref (s.heap.objs.size + 1) :: (vs ++ dvs)) (Value.ref (s.heap.objs.size + 1) :: (us ++ ds)) := .cons rfl (r.append hd)
 have hl : (Value.ref (s.heap.objs.size + 1) :: us ++ ds).length = ps.length := by
   have e := r2.length
   rw [F.len _ _ _ _ hq] at e
   exact e.symm
 refine wpAny_call (make_map (f := f) I.kIn M.makes M.init (beq_iff_eq.mp M.fn) (codeAny_mono (F.run _ X.stack _ _ ⟨Value.ref (s.heap.objs.size + 1) :: us, []⟩ (Value.ref (s.heap.objs.size + 1) :: (us ++ ds)) _ _ E (hr.make C us [])
   (I2.env0.make C us []) (hb _ (Value.ref (s.heap.objs.size + 1) :: us) I2.kIn hl) r2 hq) fun r s' hq' => ?_))
 cases r with
 | error e => exact hx pins σ _ _ e s' I2 hq'
 | ok fl =>
   cases fl with
   | ret u =>
     obtain ⟨v, H', I3, rv, ev, q3⟩ := I2.after hq'
     subst ev
     exact ⟨rv, ⟨V.ref (s.heap.objs.size + 1), H', I3, rfl, q3⟩⟩
   | next => exact False.elim hq'
   | brk => exact False.elim hq'
   | cont => exact False.elim hq'
theorem pe_make (M : Mk X.K C f) (F : FnOk X.prog X.w X.K X.mg X.base CX k f fd ps sp) (hr : Room (k + 1) X.A) (hg : Gl X x) (hm : X.mg x = some (.ref C)) (hb : Binds X.K fd ps ds) (hd : Vals dvs ds) (hx : Passes CX X E)
   (ha : PA X (e :: es) t) (hdb : (x == ("__debug__" : Str)) = false := by decide) (he : starEach (e :: es) X.env = (false, eval e X.env) :: starEach es X.env := by rfl) (hpl : (backTo pos (starEach es X.env)).any (·.1) = false := by rfl) :
   PE X (.Call (.Name x p) (e :: es) [] pos) (tMake C sp dvs E t) := by
 intro pins s σ H Q I h
 refine wpAny_Call_Name_kw (ld_glob I hg hm ?_ hdb)
 refine PySem.W.callWith_K (h₀ := X.base) I.ok.mod.kin M.kp (thn (ha pos pins s σ H _ I h) fun us s1 ⟨vs, H1, I1, r, q⟩ => ⟨I1.kIn, ?_⟩) he hpl
 exact run_make M F hr hb hd hx I1 r q
end
section
variable {X : Cx} {CX : CXT} {k : Nat} {f C : Addr} {fd : FuncData} {ps ks : List Str} {sp : Sp} {E : XK} {x m : Str} {p pos apos kpos : Pos} {e o : Expr} {es : List Expr} {kws : List Keyword} {te ta : TE} {t tk : TA} {nm : Option Str}
structure KBinds (K : PySem.W.Frag) (fd : FuncData) (ps ks : List Str) (g : List Value -> List Value -> List Value) (gV : List V -> List V -> List V) : Prop where
 to : ∀ (s : Shared) (us ws : List Value), K.In s.heap -> (g us ws).length = ps.length -> BindsTo s fd ⟨us, ks.zip ws⟩ (ps.zip (g us ws))
 rel : ∀ {vs : List V} {us : List Value} {zs : List V} {ws : List Value}, Vals vs us -> Vals zs ws -> Vals (gV vs zs) (g us ws)
variable {g : List Value -> List Value -> List Value} {gV : List V -> List V -> List V}
end
structure FnScope (N P : List Str) (sc : Scope) : Prop where
 kind : sc.kind = .function
 co : sc.isCoroutine = false
 gen : sc.isGenerator = false
 nd : N.Nodup
 pre : N.take P.length = P
 par : ∀ x ∈ P, sc.names.lookup x = some .local ∨ sc.names.lookup x = some .cell
 nofree : ∀ y ∈ sc.names, y.2 ≠ .free
theorem bindL_out {kindOf : Str -> Option NameKind} {x : Str} : ∀ {binds : List (Str × Value)} {m : Str -> Option Value}, (∀ v, (x, v) ∉ binds) -> bindL kindOf binds m x = m x
 | [], _, _ => rfl
 | (n, v) :: r, m, h => by
   unfold bindL
   rw [bindL_out fun w hw => h w (List.mem_cons_of_mem _ hw)]
   split
   · have : x ≠ n := by rintro rfl; exact h v List.mem_cons_self
     simp [this]
   · rfl
theorem bindC_out {kindOf : Str -> Option NameKind} {x : Str} : ∀ {binds : List (Str × Value)} {m : Str -> Option Value}, (∀ v, (x, v) ∉ binds) -> bindC kindOf binds m x = m x
 | [], _, _ => rfl
 | (n, v) :: r, m, h => by
   unfold bindC
   rw [bindC_out fun w hw => h w (List.mem_cons_of_mem _ hw)]
   split
   · rfl
   · have : x ≠ n := by rintro rfl; exact h v List.mem_cons_self
     simp [this]
theorem bindL_get {kindOf : Str -> Option NameKind} {x : Str} {v : Value} : ∀ {P : List Str} {vs : List Value} {i : Nat} {m : Str -> Option Value}, P.Nodup -> P[i]? = some x -> vs[i]? = some v -> kindOf x = some .local ->
   bindL kindOf (P.zip vs) m x = some v
 | [], _, _, _, _, h, _, _ => by simp at h
 | _ :: _, [], _, _, _, _, h, _ => by simp at h
 | p :: P, w :: vs, 0, m, nd, h1, h2, hk => by
   simp at h1 h2; subst h1; subst h2
   show bindL kindOf ((p, w) :: P.zip vs) m p = _
   unfold bindL
   rw [bindL_out fun v hv => (List.nodup_cons.mp nd).1 (List.of_mem_zip hv).1, if_pos hk]
   simp
 | p :: P, w :: vs, i + 1, m, nd, h1, h2, hk => by
   show bindL kindOf ((p, w) :: P.zip vs) m x = _
   unfold bindL
   exact bindL_get (i := i) (List.nodup_cons.mp nd).2 (by simpa using h1) (by simpa using h2) hk
theorem bindC_get {kindOf : Str -> Option NameKind} {x : Str} {v : Value} : ∀ {P : List Str} {vs : List Value} {i : Nat} {m : Str -> Option Value}, P.Nodup -> P[i]? = some x -> vs[i]? = some v -> kindOf x ≠ some .local ->
   bindC kindOf (P.zip vs) m x = some v
 | [], _, _, _, _, h, _, _ => by simp at h
 | _ :: _, [], _, _, _, _, h, _ => by simp at h
 | p :: P, w :: vs, 0, m, nd, h1, h2, hk => by
   simp at h1 h2; subst h1; subst h2
   show bindC kindOf ((p, w) :: P.zip vs) m p = _
   unfold bindC
   rw [bindC_out fun v hv => (List.nodup_cons.mp nd).1 (List.of_mem_zip hv).1, if_neg hk]
   simp
 | p :: P, w :: vs, i + 1, m, nd, h1, h2, hk => by
   show bindC kindOf ((p, w) :: P.zip vs) m x = _
   unfold bindC
   exact bindC_get (i := i) (List.nodup_cons.mp nd).2 (by simpa using h1) (by simpa using h2) hk
def start (N : List Str) (vs : List V) : St := vs.map some ++ List.replicate (N.length - vs.length) none
def cxOf (CX : CXT) (P : Program) (w : World) (K : PySem.W.Frag) (mg : Str -> Option Value) (base : Heap) (N : List Str) (qual : Str) (scope : Scope) (f : Addr) (cd : Value) (A : Around) (outer : List Env) (s : Shared) (H : Hp) (E : XK) : Cx where
 prog := P
 w := w
 K := K
 mg := mg
 base := base
 A := A.deeper (envOfC qual scope s.heap.objs.size f cd)
 N := N
 s₀ := s
 H₀ := H
 env := envOfC qual scope s.heap.objs.size f cd
 outer := outer
 stack := envOfC qual scope s.heap.objs.size f cd :: outer
 ex := []
 calm := true
 fn := fun _ => true
 pn := []
 xe := fun e s' => wpAny (model P w) (A.deeper (envOfC qual scope s.heap.objs.size f cd)) (leaving (envOfC qual scope s.heap.objs.size f cd) e) (fun _ s'' => CX outer H s E e s'') (fun e' s'' => CX outer H s E e' s'') s'
theorem cell_has {sc : Scope} {n : Nat} {x : Str} (h : sc.names.lookup x = some .cell) : ∃ c, (cellsFrom n sc.names []).lookup x = some c := by
 have q := PySem.W.cellsFrom_some sc.names n [] (.inl h)
 exact Option.isSome_iff_exists.mp q
theorem inv_start {CX : CXT} {P : Program} {w : World} {K : PySem.W.Frag} {mg : Str -> Option Value} {base : Heap} {N ps : List Str} {qual : Str} {scope : Scope} {f : Addr} {cd : Value} {A : Around} {outer : List Env} {s s1 : Shared} {H : Hp} {E : XK} {us : List Value} {vs : List V}
   (S : FnScope N ps scope) (hd : A.handled = none) (e0 : Env0 P w K mg base A outer s H) (hl : vs.length = ps.length) (r : Vals vs us)
   (x : InCallC s s.heap.objs.size (bindL (envOfC qual scope s.heap.objs.size f cd).kindOf (ps.zip us) fun _ => none) (cellsFrom (s.heap.objs.size + 1) scope.names []) (bindC (envOfC qual scope s.heap.objs.size f cd).kindOf (ps.zip us) fun _ => none) s1) :
   Inv (cxOf CX P w K mg base N qual scope f cd A outer s H E) [] (start N vs) H s1 := by
 have hpl : ps.length <= N.length := by have := congrArg List.length S.pre; rw [List.length_take] at this; omega
 obtain ⟨h1, tk, rfl, hk⟩ := x.done
 have noA : ∀ b : Addr, b ∉ (cxOf CX P w K mg base N qual scope f cd A outer s H E).ex := fun b z => absurd (show b ∈ ([] : List Addr) from z) (by simp)
 refine ⟨⟨e0.mod, S.kind, rfl, rfl, Nat.le_refl _, fun y z c h1 h2 => ?_, fun y hy => ?_, fun y c _ h => ?_, fun _ => hd, Around.frames_deeper e0.frames, .inr ⟨rfl, rfl⟩, fun b z => absurd z (noA b), e0.bs, e0.bsz, fun b _ _ => noA b, fun b z => absurd z (noA b), e0.funs, e0.frf⟩,
   rfl, e0.bare, Un.kept hk, ⟨_, x.toInCall.ns, fun i y v h1 h2 h3 => ?_⟩, fun y c h => ⟨_, x.cell y c h⟩, e0.hok.fresh (Nat.le_refl _), fun y c h => ?_, fun p hp => absurd (show p ∈ ([] : List (Addr × Obj)) from hp) (by simp), e0.hok.kept hk, ?_⟩
 · exact name_of_addr x.apart (PySem.mem_of_lookup h1) (PySem.mem_of_lookup h2)
 · have hy : scope.names.lookup y = some .cell ∨ scope.names.lookup y = some .free := hy
   rcases hy with hy | hy
   · exact cell_has hy
   · exact absurd rfl (S.nofree _ (PySem.mem_of_lookup hy))
 · exact Nat.le_of_lt (x.above y c (PySem.mem_of_lookup h))
 · have hi : i < vs.length := by
     unfold start at h2
     by_cases hi : i < vs.length
     · exact hi
     · rw [List.getElem?_append_right (by simpa using hi)] at h2
       rw [List.getElem?_replicate] at h2
       split at h2 <;> cases h2
   have ha : vs[i]? = some v := by
     unfold start at h2
     rw [List.getElem?_append_left (by simpa using hi), List.getElem?_map] at h2
     cases e : vs[i]? with
     | none => rw [e] at h2; cases h2
     | some a => rw [e] at h2; cases h2; rfl
   obtain ⟨u, hu, rv⟩ := r.get ha
   have hp : ps[i]? = some y := by
     rw [← S.pre, List.getElem?_take_of_lt (by omega)]; exact h1
   have ndP : ps.Nodup := by rw [← S.pre]; exact S.nd.sublist (List.take_sublist _ _)
   refine ⟨u, rv, ?_⟩
   rcases S.par y (List.mem_of_getElem? hp) with k | k
   · exact .inl ⟨k, bindL_get ndP hp hu k⟩
   · obtain ⟨c, e⟩ := cell_has (n := s.heap.objs.size + 1) k
     refine .inr ⟨.inl k, c, e, ?_⟩
     have q := x.cell y c e
     rw [bindC_get ndP hp hu (by show scope.names.lookup y ≠ _; rw [k]; decide)] at q
     exact q
 · exact e0.hok.fresh (Nat.le_of_lt (x.above y c (PySem.mem_of_lookup h)))
 · unfold start
   show _ = N.length
   rw [List.length_append, List.length_map, List.length_replicate]
   omega
theorem fn_of {CX : CXT} {P : Program} {w : World} {K : PySem.W.Frag} {mg : Str -> Option Value} {base : Heap} {k : Nat} {f : Addr} {name qual : Str} {params : Arguments} {body : List Stmt} {scope : Scope} {dV kV doc pm cdv ct oc : Value} {an od : Option Addr}
   {osl : Array (Option Value)} {N ps : List Str} {sp : Sp} (lk : K.lookup f = some ⟨oc, od, .func (PySem.W.fnOf name qual params body scope dV kV doc pm an cdv ct), osl⟩) (hcd : PySem.W.codeIn K cdv qual = true) (S : FnScope N ps scope)
   (len : ∀ vs H Q E, sp vs H Q E -> vs.length = ps.length)
   (hbody : ∀ (A : Around) (outer : List Env) (s : Shared) (H : Hp) (vs : List V) (Q : VK) (E : XK), Room k (A.deeper (envOfC qual scope s.heap.objs.size f cdv)) -> sp vs H Q E ->
     ∃ t, PSs (cxOf CX P w K mg base N qual scope f cdv A outer s H E) body t /\ t { nx := fun _ H' => Q .non H', rt := Q } (start N vs) H) :
   FnOk P w K mg base CX (k + 1) f (PySem.W.fnOf name qual params body scope dV kV doc pm an cdv ct) ps sp := by
 refine ⟨len, fun A outer s H args us vs Q E hr e0 hb r hsp => ?_⟩
 have hl := len _ _ _ _ hsp
 have KX : K.In s.heap := e0.mod.kin.keeps fun b o e => (e0.bs b o e).1
 have lim : s.heap.NoLimit := e0.mod.nolimit.keeps fun b o e => (e0.bs b o e).1
 have hkind : ∀ y ∈ ps.zip us, scope.names.lookup y.1 = some .local ∨ (scope.names.lookup y.1 = some .cell /\ ((cellsFrom (s.heap.objs.size + 1) scope.names []).lookup y.1).isSome = true) := fun ⟨n, v⟩ hy => by
   rcases S.par n (List.of_mem_zip hy).1 with q | q
   · exact .inl q
   · exact .inr ⟨q, PySem.W.cellsFrom_some _ _ _ (.inl q)⟩
 refine codeAny_call_function hr.depth (KX _ _ lk) rfl S.co S.gen rfl (PySem.W.codeRec_of KX hcd) (hb _ _ _ _ ?_)
 refine wpAny_newFunctionEnv_cells S.kind hkind fun env he s1 x => ?_
 subst he
 refine ⟨lim.keeps x.toInCall.keep, codeAny_func ?_⟩
 obtain ⟨t, ht, hq⟩ := hbody A outer s H vs Q E (hr.deeper _) hsp
 have I : Inv (cxOf CX P w K mg base N qual scope f cdv A outer s H E) [] (start N vs) H s1 := inv_start S hr.hd e0 hl r x
 refine wpAny_mono (ht [] s1 (start N vs) H _ I hq) (fun fl s' hs => ?_) fun e s' hs => hs
 have fin : ∀ {σ' : St} {H' : Hp} {v : V} {u : Value}, Inv (cxOf CX P w K mg base N qual scope f cdv A outer s H E) [] σ' H' s' -> RelV v u -> Q v H' -> CE outer P w H s Q u s' :=
   fun {σ' H' v u} J rv q => ⟨v, H', J.os, J.bare, J.base, J.hok, rv, q⟩
 cases fl with
 | ret u =>
   obtain ⟨v, σ', H', J, rv, q⟩ := hs
   exact fin J rv q
 | next =>
   obtain ⟨σ', H', J, q⟩ := hs
   exact fin (v := V.non) (u := Value.none) J rfl q
 | brk =>
   obtain ⟨_, _, _, q⟩ := hs
   exact False.elim q
 | cont =>
   obtain ⟨_, _, _, q⟩ := hs
   exact False.elim q
end L2
namespace L2
open PySem PySem.Spec PyProof.Rows
section
variable {X : Cx} {x : Str} {p pos : Pos} {e : Expr} {es : List Expr} {t : TA} {id T : String} {r : List V -> Hp -> VK -> Prop}
def tCB (r : List V -> Hp -> VK -> Prop) (t : TA) : TE := fun σ H Q => t σ H fun vs H1 => r vs H1 Q
theorem pe_callB (hc : CallR X (.builtin id) r) (hg : Gl X x) (hm : X.mg x = none) (hv : bootBuiltins x = some (.builtin id)) (ha : PA X (e :: es) t) (hn : x ≠ "__name__" := by decide) (hdb : (x == ("__debug__" : Str)) = false := by decide)
   (he : starEach (e :: es) X.env = (false, eval e X.env) :: starEach es X.env := by rfl) (hpl : (backTo pos (starEach es X.env)).any (·.1) = false := by rfl) : PE X (.Call (.Name x p) (e :: es) [] pos) (tCB r t) := by
 intro pins s σ H Q I h
 refine wpAny_Call_Name_kw (ld_blt I hg hm hv ?_ hn hdb)
 exact PyProof.Rows.callWith_builtin1 (thn (ha pos pins s σ H _ I h) fun us s1 ⟨vs, H1, I1, r1, q1⟩ => hc pins s1 σ H1 vs us Q I1 r1 q1) he hpl
theorem pe_callTy (hc : CallR X (.type T) r) (hg : Gl X x) (hm : X.mg x = none) (hv : bootBuiltins x = some (.type T)) (ha : PA X (e :: es) t) (hn : x ≠ "__name__" := by decide) (hdb : (x == ("__debug__" : Str)) = false := by decide)
   (he : starEach (e :: es) X.env = (false, eval e X.env) :: starEach es X.env := by rfl) (hpl : (backTo pos (starEach es X.env)).any (·.1) = false := by rfl) : PE X (.Call (.Name x p) (e :: es) [] pos) (tCB r t) := by
 intro pins s σ H Q I h
 refine wpAny_Call_Name_kw (ld_blt I hg hm hv ?_ hn hdb)
 exact PyProof.Rows.callWith_type1 (thn (ha pos pins s σ H _ I h) fun us s1 ⟨vs, H1, I1, r1, q1⟩ => hc pins s1 σ H1 vs us Q I1 r1 q1) he hpl
end
end L2
namespace HT
open PySem PyProof.Rows
section
open PySem.SeqAt
open PySem.AutoSeq1 (wpAny_loadPart')
open PySem.MeetsSeq PySem.MeetsSeq2 PySem.MeetsSeq3
end
section
variable {prog : Program} {w : World} {A : Around} {E : Value -> Shared -> Prop} {s : Shared}
def sIx (n d : Nat) : Option Int -> Nat
 | none => d
 | some v => if v < 0 then (v + (n : Int)).toNat else min v.toNat n
theorem sIx_none (n d : Nat) : sIx n d none = d := rfl
theorem sIx_nat (n d k : Nat) : sIx n d (some (k : Int)) = min k n := by
 show (if (k : Int) < 0 then ((k : Int) + (n : Int)).toNat else min (k : Int).toNat n) = min k n
 rw [if_neg (by omega), Int.toNat_natCast]
end
end HT
namespace L2
open PySem PySem.Spec PyProof.Rows
abbrev TO := St -> Hp -> (Option Int -> Hp -> Prop) -> Prop
def PO (X : Cx) (e : Option Expr) (t : TO) : Prop :=
 ∀ (pins : List (Addr × Obj)) (s : Shared) (σ : St) (H : Hp) (Q : Option Int -> Hp -> Prop), Inv X pins σ H s -> t σ H Q ->
   wpAny (model X.prog X.w) X.A (evalPart e X.env) (fun u s' => ∃ o H', Inv X pins σ H' s' /\ IsPart u o /\ Q o H') X.xe s
def tNoPart : TO := fun _ H Q => Q none H
def tPart (t : TE) : TO := fun σ H Q => t σ H fun x H1 => ∃ i, x = .int i /\ Q (some i) H1
section
variable {X : Cx} {e : Expr} {te : TE} {lo hi : Option Expr} {tl th : TO} {pos p2 : Pos}
theorem po_none : PO X none tNoPart := by
 intro pins s σ H Q I h
 rw [evalPart_none]
 exact wpAny_pure ⟨none, H, I, .none, h⟩
theorem po_some (h : PE X e te) : PO X (some e) (tPart te) := by
 intro pins s σ H Q I hw
 rw [evalPart_some]
 refine thn (h pins s σ H _ I hw) fun u s1 ⟨x, H1, I1, r1, q1⟩ => ?_
 obtain ⟨i, rfl, q⟩ := q1
 obtain ⟨t, rfl⟩ := r1
 exact ⟨some i, H1, I1, .int i t, q⟩
def SlR (X : Cx) (r : V -> Option Int -> Option Int -> Hp -> VK -> Prop) : Prop :=
 ∀ (pins : List (Addr × Obj)) (s : Shared) (σ : St) (H : Hp) (x : V) (v vl vu : Value) (lo hi : Option Int) (sl : Addr) (Q : VK), Inv X pins σ H s -> RelV x v -> s.heap.IsSliceOf sl vl vu .none -> IsPart vl lo -> IsPart vu hi -> r x lo hi H Q ->
   ∃ T id, typeLookup (.type T) "__getitem__" = pure (some (.builtin id)) /\ s.TypeIs v T /\ wpAny (model X.prog X.w) X.A (getItem v (.ref sl)) (EP X pins σ Q) X.xe s
theorem SlR.or {r r' : V -> Option Int -> Option Int -> Hp -> VK -> Prop} (h : SlR X r) (h' : SlR X r') : SlR X (fun x lo hi H Q => r x lo hi H Q ∨ r' x lo hi H Q) := by
 intro pins s σ H x v vl vu lo hi sl Q I rx hs pl pu q
 rcases q with q | q
 · exact h pins s σ H x v vl vu lo hi sl Q I rx hs pl pu q
 · exact h' pins s σ H x v vl vu lo hi sl Q I rx hs pl pu q
def tSl (r : V -> Option Int -> Option Int -> Hp -> VK -> Prop) (te : TE) (tl th : TO) : TE := fun σ H Q => te σ H fun x H1 => tl σ H1 fun l H2 => th σ H2 fun u H3 => r x l u H3 Q
theorem pe_slice {r : V -> Option Int -> Option Int -> Hp -> VK -> Prop} (hr : SlR X r) (he : PE X e te) (hl : PO X lo tl) (hu : PO X hi th) : PE X (.Subscript e (.Slice lo hi none p2) pos) (tSl r te tl th) := by
 intro pins s σ H Q I h
 refine Subscript_ (thn (he pins s σ H _ I h) fun v s1 ⟨x, H1, I1, r1, q1⟩ => ?_)
 refine wpAny_Slice (thn (hl pins s1 σ H1 _ I1 q1) fun vl s2 ⟨l, H2, I2, pl, q2⟩ => thn (hu pins s2 σ H2 _ I2 q2) fun vu s3 ⟨u, H3, I3, pu, q3⟩ => ?_)
 rw [evalPart_none]
 refine wpAny_pure ?_
 have I4 : Inv X pins σ H3 { s3 with heap := s3.heap.push { cls := .type "slice", data := .fields #[vl, vu, .none] } } := I3.kept (t' := s3.toks) fun b ob q => Heap.get?_push_of_some _ q
 obtain ⟨T, id, hT, ht, hg⟩ := hr pins { s3 with heap := s3.heap.push { cls := .type "slice", data := .fields #[vl, vu, .none] } } σ H3 x v vl vu l u s3.heap.objs.size Q I4 r1 (Heap.IsSliceOf.new ..) pl pu q3
 show wpAny (model X.prog X.w) X.A (subscriptTail e (.Slice lo hi none p2) v (.ref s3.heap.objs.size)) (EP X pins σ Q) X.xe { s3 with heap := s3.heap.push { cls := .type "slice", data := .fields #[vl, vu, .none] } }
 exact tail_any (ops := [.ref s3.heap.objs.size, v]) ht hT hg (by with_unfolding_all rfl)
def cutV (xs : List V) (lo hi : Option Int) : List V := (xs.drop (HT.sIx xs.length 0 lo)).take (HT.sIx xs.length xs.length hi - HT.sIx xs.length 0 lo)
theorem cutV_length (xs : List V) (lo hi : Option Int) : (cutV xs lo hi).length <= xs.length := by
 unfold cutV
 rw [List.length_take, List.length_drop]
 omega
theorem Vals.nil_iff {xs : List V} {us : List Value} (r : Vals xs us) : us = [] ↔ xs = [] := by
 cases r with
 | nil => simp
 | cons _ _ => simp
end
end L2
namespace L2
open PySem PySem.Spec PyProof.Rows
def ixN (n : Nat) (i : Int) : Option Nat := if 0 <= i then (if i < n then some i.toNat else none) else if -(n : Int) <= i then some (i + n).toNat else none
def atI {α : Type} (xs : List α) (i : Int) : Option α := (ixN xs.length i).bind fun j => xs[j]?
theorem ixN_seq {n : Nat} {i : Int} {j : Nat} (h : ixN n i = some j) : seqIndex? i n = some j /\ j < n /\ -(n : Int) <= i /\ i < n := by
 unfold ixN at h
 by_cases h0 : 0 <= i
 · rw [if_pos h0] at h
   by_cases h1 : i < n
   · rw [if_pos h1] at h
     have e : i.toNat = j := Option.some.inj h
     exact ⟨by rw [seqIndex_of h0 h1, e], by omega, by omega, h1⟩
   · rw [if_neg h1] at h; cases h
 · rw [if_neg h0] at h
   by_cases h1 : -(n : Int) <= i
   · rw [if_pos h1] at h
     have e : (i + n).toNat = j := Option.some.inj h
     exact ⟨by rw [seqIndex_neg (by omega) h1, e], by omega, h1, by omega⟩
   · rw [if_neg h1] at h; cases h
theorem atI_get {α : Type} {xs : List α} {i : Int} {v : α} (h : atI xs i = some v) : ∃ j, seqIndex? i xs.length = some j /\ xs[j]? = some v /\ j < xs.length /\ -(xs.length : Int) <= i /\ i < xs.length := by
 unfold atI at h
 cases e : ixN xs.length i with
 | none => rw [e] at h; cases h
 | some j =>
   rw [e] at h
   obtain ⟨h1, h2, h3, h4⟩ := ixN_seq e
   exact ⟨j, h1, h, h2, h3, h4⟩
theorem atI_nat {α : Type} {xs : List α} {j : Nat} {v : α} (h : xs[j]? = some v) : atI xs (j : Int) = some v := by
 have hj : j < xs.length := (List.getElem?_eq_some_iff.mp h).1
 have e : ixN xs.length (j : Int) = some j := by
   unfold ixN
   rw [if_pos (by omega), if_pos (by omega)]; simp
 unfold atI; rw [e]; exact h
def PlainIx (b : Expr) : Prop := ∀ o i, subscripted b false o i = operate [o, i] (getItem o i)
def IxR (X : Cx) (r : R2) : Prop :=
 ∀ (value slice : Expr) (pins : List (Addr × Obj)) (s : Shared) (σ : St) (H : Hp) (x y : V) (v u : Value) (Q : VK), Inv X pins σ H s -> RelV x v -> RelV y u -> r x y H Q ->
   subscripted slice false v u = operate [v, u] (getItem v u) -> wpAny (model X.prog X.w) X.A (subscriptTail value slice v u) (EP X pins σ Q) X.xe s
def MtR (X : Cx) (id : String) (r : V -> List V -> Hp -> VK -> Prop) : Prop :=
 ∀ (pins : List (Addr × Obj)) (s : Shared) (σ : St) (H : Hp) (x : V) (xs : List V) (v : Value) (us : List Value) (Q : VK), Inv X pins σ H s -> RelV x v -> Vals xs us -> r x xs H Q ->
   wpAny (model X.prog X.w) X.A (call (.builtin id) (v :: us)) (EP X pins σ Q) X.xe s
section
variable {X : Cx} {a b : Expr} {ta tb : TE} {pos : Pos}
theorem IxR.or {r r' : R2} (h : IxR X r) (h' : IxR X r') : IxR X (fun x y H Q => r x y H Q ∨ r' x y H Q) := by
 intro value slice pins s σ H x y v u Q I rx ry q hs
 rcases q with q | q
 · exact h value slice pins s σ H x y v u Q I rx ry q hs
 · exact h' value slice pins s σ H x y v u Q I rx ry q hs
theorem MtR.or {id : String} {r r' : V -> List V -> Hp -> VK -> Prop} (h : MtR X id r) (h' : MtR X id r') : MtR X id (fun x xs H Q => r x xs H Q ∨ r' x xs H Q) := by
 intro pins s σ H x xs v us Q I rx rs q
 rcases q with q | q
 · exact h pins s σ H x xs v us Q I rx rs q
 · exact h' pins s σ H x xs v us Q I rx rs q
theorem pe_ix {r : R2} (hr : IxR X r) (ha : PE X a ta) (hb : PE X b tb) (hs : PlainIx b) : PE X (.Subscript a b pos) (tOp r ta tb) := by
 intro pins s σ H Q I h
 exact Subscript_ (binT ha hb I h fun v u s2 x y H2 I2 rx ry q => hr a b pins s2 σ H2 x y v u Q I2 rx ry q (hs _ _))
def rIxL (K : PySem.W.Frag) : R2 := fun x y H Q => ∃ p xs i v, x = .ref p /\ y = .int i /\ SqL K H p xs /\ atI xs i = some v /\ Q v H
def rIxT (K : PySem.W.Frag) : R2 := fun x y H Q => ∃ p xs i v, x = .ref p /\ y = .int i /\ SqT K H p xs /\ atI xs i = some v /\ Q v H
def rIxS : R2 := fun x y H Q => ∃ z i c, x = .str z /\ y = .int i /\ z.length <= sizeLine /\ atI z.cps.toList i = some c /\ Q (.str ⟨#[c]⟩) H
theorem ix_list : IxR X (rIxL X.K) := by
 intro value slice pins s σ H x y v u Q I rx ry h hs
 obtain ⟨p, xs, i, z, rfl, rfl, hq, he, q⟩ := h
 cases rx
 obtain ⟨t, rfl⟩ := ry
 obtain ⟨its, r, pl, hz⟩ := I.list hq
 obtain ⟨j, h1, h2, h3, h4, h5⟩ := atI_get he
 obtain ⟨w, ew, rw'⟩ := r.get h2
 have hl := r.length
 have hn := line63
 have fin : EP X pins σ Q w s := ⟨z, H, I, rw', q⟩
 by_cases h0 : 0 <= i
 · have hj : i.toNat = j := by
     rw [seqIndex_of h0 h5] at h1
     exact Option.some.inj h1
   exact item_listR pl.isList h0 (by omega) (by rw [hj]; simpa using ew) fin hs
 · have hj : (i + (its.toArray.size : Int)).toNat = j := by
     rw [seqIndex_neg (by omega) h4] at h1
     rw [List.size_toArray, ← hl]
     exact Option.some.inj h1
   exact subscriptTail_builtinR (x := w) pl.isList.typeIs slot_list_getitem.lookup
     (wpAny_getItem_list_neg (Q := fun r s' => r = w /\ EP X pins σ Q r s') pl.isList (by omega) (by rw [List.size_toArray] <;> omega) (by omega) (by rw [hj]; simpa using ew) ⟨rfl, fin⟩) hs
theorem ix_tup : IxR X (rIxT X.K) := by
 intro value slice pins s σ H x y v u Q I rx ry h hs
 obtain ⟨p, xs, i, z, rfl, rfl, hq, he, q⟩ := h
 cases rx
 obtain ⟨t, rfl⟩ := ry
 obtain ⟨its, r, pl, hz⟩ := I.tuple hq
 obtain ⟨j, h1, h2, h3, h4, h5⟩ := atI_get he
 obtain ⟨w, ew, rw'⟩ := r.get h2
 have hl := r.length
 have hn := line63
 have fin : EP X pins σ Q w s := ⟨z, H, I, rw', q⟩
 exact subscriptTail_builtinR (x := w) pl.typeIs slot_tuple_getitem.lookup
   (getItem_tuple (j := j) (Q := fun r s' => r = w /\ EP X pins σ Q r s') pl (by omega) (by omega) (by rw [List.size_toArray, ← hl]; exact h1) (by simpa using ew) ⟨rfl, fin⟩) hs
theorem ix_str : IxR X rIxS := by
 intro value slice pins s σ H x y v u Q I rx ry h hs
 obtain ⟨z, i, c, rfl, rfl, hz, he, q⟩ := h
 obtain ⟨t, rfl⟩ := rx
 obtain ⟨t', rfl⟩ := ry
 obtain ⟨j, h1, h2, h3, h4, h5⟩ := atI_get he
 have hl : z.cps.toList.length = z.length := by simp [Str.length]
 rw [hl] at h1 h4 h5
 have hn := line63
 exact tail_any (typeIs_str s z t) slot_str_getitem.lookup (getItem_str (c := c) (by
   have e1 : decide (i < -(2 ^ 63 : Int)) = false := decide_eq_false (by omega)
   have e2 : decide (i ≥ 2 ^ 63) = false := decide_eq_false (by omega)
   rw [e1, e2, Bool.or_false]) (by rw [h1]; simpa using h2) ⟨.str ⟨#[c]⟩, H, I.tok _, ⟨_, rfl⟩, q⟩) hs
def rIx (K : PySem.W.Frag) : R2 := fun x y H Q => rIxL K x y H Q ∨ rIxT K x y H Q ∨ rIxS x y H Q
theorem ix_seq : IxR X (rIx X.K) := ix_list.or (ix_tup.or ix_str)
theorem mapSeq_set (its : List Value) (n j : Nat) (u : Value) : Obj.mapSeq (·.setIfInBounds j u) { cls := .type "list", data := .seq its.toArray n } = { cls := .type "list", data := .seq (its.set j u).toArray n } := by
 simp [Obj.mapSeq]
theorem Inv.lst {pins : List (Addr × Obj)} {σ : St} {H : Hp} {s : Shared} {p : Addr} {xs : List V} (I : Inv X pins σ H s) (h : H p = some (.lst xs)) :
   ∃ (its : List Value) (n : Nat), Vals xs its /\ s.heap.get? p = some { cls := .type "list", data := .seq its.toArray n } /\ xs.length <= sizeLine := by
 obtain ⟨z, its, n, r, e⟩ := I.hok p _ h
 exact ⟨its, n, r, e, z⟩
theorem Inv.lstUpd {pins : List (Addr × Obj)} {σ : St} {H : Hp} {s : Shared} {p : Addr} {xs ys : List V} {its its' : List Value} {n n' : Nat} {f : Obj -> Obj} (I : Inv X pins σ H s) (h : H p = some (.lst xs))
   (ho : s.heap.get? p = some { cls := .type "list", data := .seq its.toArray n }) (hf : f { cls := .type "list", data := .seq its.toArray n } = { cls := .type "list", data := .seq its'.toArray n' }) (r : Vals ys its') (hz : ys.length <= sizeLine) (t : Nat) :
   Inv X pins σ (upd H p (.lst ys)) { s with heap := s.heap.update p f, toks := t } := by
 have e : (s.heap.update p f).get? p = some { cls := .type "list", data := .seq its'.toArray n' } := by
   rw [Heap.get?_update_self f ho (by rw [hf] <;> rfl), hf]
 refine I.write (x := p) (e := p) (by rw [h]; trivial) (.inl rfl) (fun b u hb q => (Heap.get?_update_other _ _ (Ne.symm hb)).trans q) ⟨_, e⟩ ?_
 exact ⟨hz, its', n', r, e⟩
def rSetL : V -> V -> V -> Hp -> (Hp -> Prop) -> Prop := fun o i v H Q => ∃ p xs k j, o = .ref p /\ i = .int k /\ H p = some (.lst xs) /\ ixN xs.length k = some j /\ Q (upd H p (.lst (xs.set j v)))
theorem set_list : PSet X rSetL := by
 intro pins s σ H o i v ov iv u Q I ro ri rv h
 obtain ⟨p, xs, k, j, rfl, rfl, hp, hj, q⟩ := h
 cases ro
 obtain ⟨t, rfl⟩ := ri
 obtain ⟨its, n, r, ho, hz⟩ := I.lst hp
 obtain ⟨h1, h2, h3, h4⟩ := ixN_seq hj
 have hl := r.length
 have hn := line63
 have I' : Inv X pins σ (upd H p (.lst (xs.set j v))) { s with heap := s.heap.update p (Obj.mapSeq (·.setIfInBounds j u)) } :=
   I.lstUpd hp ho (mapSeq_set its n j u) (r.set rv j) (by rw [List.length_set]; exact hz) s.toks
 by_cases h0 : 0 <= k
 · have hk : k.toNat = j := by
     rw [seqIndex_of h0 h4] at h1
     exact Option.some.inj h1
   exact PySem.W.ki_setAt ho h0 (by omega) (by rw [List.size_toArray, ← hl]; exact h4) (by rw [hk]; exact ⟨_, I', q⟩)
 · have hk : (k + (its.toArray.size : Int)).toNat = j := by
     rw [seqIndex_neg (by omega) h3] at h1
     rw [List.size_toArray, ← hl]
     exact Option.some.inj h1
   exact PySem.W.ki_setBack ho (by omega) (by rw [List.size_toArray, ← hl]; exact h3) (by omega) (by rw [hk]; exact ⟨_, I', q⟩)
theorem slice_bounds (lo hi : Option Int) (n : Nat) : (sliceBounds lo hi none n).1 = ((HT.sIx n 0 lo : Nat) : Int) /\ (sliceBounds lo hi none n).2.1 = ((HT.sIx n n hi : Nat) : Int) /\ (sliceBounds lo hi none n).2.2 = 1 := by
 refine ⟨?_, ?_, rfl⟩
 · cases lo with
   | none => simp [sliceBounds, HT.sIx]
   | some i =>
     simp only [sliceBounds, HT.sIx, Option.getD_none, show (1 : Int) > 0 by decide, if_true]
     by_cases h : i < 0
     · simp only [h, if_true] <;> omega
     · simp only [h, if_false] <;> omega
 · cases hi with
   | none => simp [sliceBounds, HT.sIx]
   | some i =>
     simp only [sliceBounds, HT.sIx, Option.getD_none, show (1 : Int) > 0 by decide, if_true]
     by_cases h : i < 0
     · simp only [h, if_true] <;> omega
     · simp only [h, if_false] <;> omega
theorem slicePick_cut (its : List Value) (lo hi : Option Int) : slicePick its.toArray lo hi none = ((its.drop (HT.sIx its.length 0 lo)).take (HT.sIx its.length its.length hi - HT.sIx its.length 0 lo)).toArray := by
 obtain ⟨h1, h2, h3⟩ := slice_bounds lo hi its.toArray.size
 unfold slicePick
 rw [h1, h2, h3]
 simp only [sliceRange_one, pick_run, List.size_toArray] <;> rfl
def rSlL (K : PySem.W.Frag) : V -> Option Int -> Option Int -> Hp -> VK -> Prop := fun x lo hi H Q => ∃ a xs, x = .ref a /\ SqL K H a xs /\ ∀ p, H p = none -> Q (.ref p) (upd H p (.lst (cutV xs lo hi)))
theorem sl_list : SlR X (rSlL X.K) := by
 intro pins s σ H x v vl vu lo hi sl Q I rx hs pl pu h
 obtain ⟨a, xs, rfl, hx, q⟩ := h
 cases rx
 obtain ⟨its, r, ht, hz⟩ := I.list hx
 have hlen := r.length
 refine ⟨"list", _, slot_list_getitem.lookup, ht.isList.typeIs, ?_⟩
 refine wpAny_getItem_list_slice ht.isList hs pl pu .none (by simp) ?_ (by rw [List.size_toArray] <;> omega)
 rw [slicePick_cut, ← hlen]
 refine ⟨.ref s.heap.objs.size, _, I.laid (t' := s.toks) (o := .lst (cutV xs lo hi)) (fun b ob q => Heap.get?_push_of_some _ q) (Nat.le_refl _) ?_, rfl, q _ (I.hok.fresh (Nat.le_refl _))⟩
 exact ⟨Nat.le_trans (cutV_length xs lo hi) hz, _, 0, (r.drop (HT.sIx xs.length 0 lo)).take (HT.sIx xs.length xs.length hi - HT.sIx xs.length 0 lo), Heap.get?_push_size _ rfl⟩
theorem call_len_seq : CallR X (.builtin "len") (fun xs H Q => ∃ p ys, xs = [.ref p] /\ (SqL X.K H p ys ∨ SqT X.K H p ys) /\ Q (.int ys.length) H) := by
 intro pins s σ H xs us Q I r h
 obtain ⟨p, ys, rfl, hq, q⟩ := h
 obtain ⟨u, rfl, rx⟩ := vals1 r
 cases rx
 have hn := line63
 rcases hq with hq | hq
 · obtain ⟨its, r', pl, hz⟩ := I.list hq
   have hlen := r'.length
   exact Calls.call_len_list pl.isList (by simp only [List.size_toArray] <;> omega) ⟨.int ys.length, H, I.tok _, ⟨s.toks + 1, by rw [List.size_toArray, hlen]⟩, q⟩
 · obtain ⟨its, r', pl, hz⟩ := I.tuple hq
   have hlen := r'.length
   exact len_tuple pl (by simp only [List.size_toArray] <;> omega) ⟨.int ys.length, H, I.tok _, ⟨s.toks + 1, by rw [List.size_toArray, hlen]⟩, q⟩
theorem call_len_str : CallR X (.builtin "len") (fun xs H Q => ∃ z, xs = [.str z] /\ z.length <= sizeLine /\ Q (.int z.length) H) := by
 intro pins s σ H xs us Q I r h
 obtain ⟨z, rfl, hz, q⟩ := h
 obtain ⟨u, rfl, t, rfl⟩ := vals1 r
 have hn := line63
 exact len_str (by omega) ⟨.int z.length, H, I.tok _, ⟨_, rfl⟩, q⟩
theorem CallR.or {f : Value} {r r' : List V -> Hp -> VK -> Prop} (h : CallR X f r) (h' : CallR X f r') : CallR X f (fun xs H Q => r xs H Q ∨ r' xs H Q) := by
 intro pins s σ H xs us Q I rs q
 rcases q with q | q
 · exact h pins s σ H xs us Q I rs q
 · exact h' pins s σ H xs us Q I rs q
theorem call_list_of : CallR X (.type "list") (fun xs H Q => ∃ p ys, xs = [.ref p] /\ (SqL X.K H p ys ∨ SqT X.K H p ys) /\ ∀ l, H l = none -> Q (.ref l) (upd H l (.lst ys))) := by
 intro pins s σ H xs us Q I r h
 obtain ⟨p, ys, rfl, hq, q⟩ := h
 obtain ⟨u, rfl, rx⟩ := vals1 r
 cases rx
 have fin : ∀ (its : List Value), Vals ys its -> ys.length <= sizeLine -> ∀ (h' : Heap) (c' : Nat), (∀ b o', s.heap.get? b = some o' -> h'.get? b = some o') ->
     h'.get? s.heap.objs.size = some { cls := .type "list", dict := none, data := .seq its.toArray c', slots := #[] } -> EP X pins σ Q (.ref s.heap.objs.size) { s with heap := h' } := fun its r' hz h' c' kp e =>
   ⟨.ref s.heap.objs.size, _, I.laid (t' := s.toks) kp (Nat.le_refl _) (show ObjOk X.prog X.w _ h' _ (.lst ys) from ⟨hz, its, c', r', e⟩), rfl, q _ (I.hok.fresh (Nat.le_refl _))⟩
 rcases hq with hq | hq
 · obtain ⟨its, r', pl, hz⟩ := I.list hq
   have hlen := r'.length
   obtain ⟨o, ho, hc, n, hd⟩ := pl.isList
   exact call_list_seq p (.inl rfl) ho hc hd (fun h' c' kp e => fin its r' hz h' c' kp e) (by simp only [List.size_toArray] <;> omega)
 · obtain ⟨its, r', pl, hz⟩ := I.tuple hq
   have hlen := r'.length
   obtain ⟨o, ho, hc, n, hd⟩ := pl
   exact call_list_seq p (.inr rfl) ho hc hd (fun h' c' kp e => fin its r' hz h' c' kp e) (by simp only [List.size_toArray] <;> omega)
theorem call_tuple_of : CallR X (.type "tuple") (fun xs H Q => ∃ p ys, xs = [.ref p] /\ ((SqL X.K H p ys /\ ∀ l, H l = none -> Q (.ref l) (upd H l (.tup ys))) ∨ (SqT X.K H p ys /\ Q (.ref p) H))) := by
 intro pins s σ H xs us Q I r h
 obtain ⟨p, ys, rfl, h⟩ := h
 obtain ⟨u, rfl, rx⟩ := vals1 r
 cases rx
 rcases h with ⟨hq, q⟩ | ⟨hq, q⟩
 · obtain ⟨its, r', pl, hz⟩ := I.list hq
   have hlen := r'.length
   refine call_tuple_list pl.isList (fun h' kp => ?_) (by simp only [List.size_toArray] <;> omega)
   have I1 : Inv X pins σ H { s with heap := h' } := I.kept (t' := s.toks) kp
   have I2 : Inv X pins σ (upd H h'.objs.size (.tup ys)) { s with heap := h'.push { cls := .type "tuple", data := .seq its.toArray } } :=
     I1.laid (t' := s.toks) (fun b o e => Heap.get?_push_of_some _ e) (Nat.le_refl _) (show ObjOk X.prog X.w _ _ _ (.tup ys) from ⟨hz, its, r', IsTup.new _ _⟩)
   exact ⟨.ref h'.objs.size, _, I2, rfl, q _ (I1.hok.fresh (Nat.le_refl _))⟩
 · obtain ⟨its, r', pl, hz⟩ := I.tuple hq
   exact call_tuple_same pl ⟨.ref p, H, I, rfl, q⟩
def tyV (K : PySem.W.Frag) (T : String) (x : V) (H : Hp) : Prop := match x with
 | .str _ => T = "str"
 | .int _ => T = "int"
 | .ref p => (T = "list" /\ ∃ xs, SqL K H p xs) ∨ (T = "tuple" /\ ∃ o, K.lookup p = some o /\ o.cls = .type "tuple" /\ o.dict = none) ∨
     (T = "dict" /\ ((∃ kvs, H p = some (.dK kvs)) ∨ ∃ kvs, H p = some (.dT kvs))) ∨ (T = "set" /\ ∃ S n, H p = some (.set S n))
 | _ => False
theorem tyV_is {pins : List (Addr × Obj)} {σ : St} {H : Hp} {s : Shared} {T : String} {x : V} {v : Value} (I : Inv X pins σ H s) (r : RelV x v) (ty : tyV X.K T x H) :
   s.TypeIs v T /\ ∀ a, v = .ref a -> ∃ ob, s.heap.get? a = some ob /\ ob.dict = none := by
 cases x with
 | str z =>
   obtain ⟨t, rfl⟩ := r
   cases (show T = "str" from ty)
   exact ⟨typeIs_str s z t, fun _ e => nomatch e⟩
 | int i =>
   obtain ⟨t, rfl⟩ := r
   cases (show T = "int" from ty)
   exact ⟨typeIs_int s i t, fun _ e => nomatch e⟩
 | ref p =>
   cases r
   rcases ty with ⟨rfl, xs, hq⟩ | ⟨rfl, o, hk, hc, hd⟩ | ⟨rfl, hk⟩ | ⟨rfl, S, n, hk⟩
   · obtain ⟨its, _, pl, _⟩ := I.list hq
     refine ⟨pl.isList.typeIs, fun a e => ?_⟩
     cases e
     obtain ⟨o, n, e, c, hd, _⟩ := pl
     exact ⟨o, e, hd⟩
   · refine ⟨⟨o, I.kIn p o hk, hc⟩, fun a e => ?_⟩
     cases e
     exact ⟨o, I.kIn _ o hk, hd⟩
   · have z : ∃ o, s.heap.get? p = some o /\ o.ExactDict := by
       rcases hk with ⟨kvs, hk⟩ | ⟨kvs, hk⟩
       · obtain ⟨_, _, _, _, o, _, _, e, ex, _⟩ := I.hok p _ hk
         exact ⟨o, e, ex⟩
       · obtain ⟨_, _, _, _, o, _, _, e, ex, _⟩ := I.hok p _ hk
         exact ⟨o, e, ex⟩
     obtain ⟨o, e, ex⟩ := z
     refine ⟨⟨o, e, ex.1⟩, fun a e2 => ?_⟩
     cases e2
     exact ⟨o, e, ex.2.1⟩
   · obtain ⟨o, _, _, _, e, ex, _⟩ := I.hok p _ hk
     refine ⟨⟨o, e, ex.1⟩, fun a e2 => ?_⟩
     cases e2
     exact ⟨o, e, ex.2.1⟩
 | _ => exact False.elim ty
def tBM (K : PySem.W.Frag) (T : String) (r : V -> List V -> Hp -> VK -> Prop) (to : TE) (t : TA) : TE := fun σ H Q => to σ H fun x H1 => tyV K T x H1 /\ t σ H1 fun xs H2 => r x xs H2 Q
variable {o e : Expr} {es : List Expr} {to : TE} {t : TA} {name : Str} {apos cpos : Pos} {T id : String} {r : V -> List V -> Hp -> VK -> Prop}
theorem pe_bm (pa : PlainAttrs T) (slot : Slot T name id) (hty : typeOf (.builtin id) = pure (.type "method_descriptor")) (hm : MtR X id r) (ho : PE X o to) (ha : PA X (e :: es) t)
   (hbase : attributeBase o name X.env (eval o X.env) = eval o X.env := by rfl)
   (hfew : ((backTo cpos (starEach (e :: es) X.env)).all (fun x => !x.1) && (backToKw cpos (keywordEach [] X.env)).all (fun x => x.1.isSome)
     && decide ((e :: es).length + ([] : List Keyword).length + (if ([] : List Keyword).isEmpty then 0 else 1) < 30)) = true := by rfl)
   (hline : (apos.endLine == cpos.line) = true := by rfl) (hs : starEach (e :: es) X.env = (false, eval e X.env) :: starEach es X.env := by rfl) (hplain : (backTo cpos (starEach es X.env)).any (·.1) = false := by rfl) :
   PE X (.Call (.Attribute o name apos) (e :: es) [] cpos) (tBM X.K T r to t) := by
 intro pins s σ H Q I h
 refine wpAny_Call_method_late hbase hfew hline rfl (thn (ho pins s σ H _ I h) fun v s1 ⟨x, H1, I1, r1, ty, q1⟩ => ?_)
 obtain ⟨h1, h2⟩ := tyV_is I1 r1 ty
 refine ⟨T, id, pa, slot, hty, h1, h2, ?_⟩
 have hA := ha cpos pins s1 σ H1 _ I1 q1
 rw [hs] at hA ⊢
 refine Calls.callWith_builtin (by show (false || (backTo cpos (starEach es X.env)).any (·.1)) = false; rw [hplain] <;> rfl) (Calls.evalArgs_plain ?_)
 exact thn hA fun us s2 ⟨vs, H2, I2, r2, q2⟩ => hm pins s2 σ H2 x vs v us Q I2 r1 r2 q2
end
end L2
namespace L2
open PySem PySem.Spec PyProof.Rows
def MtM (X : Cx) (id : String) (r : V -> List V -> Hp -> VK -> Prop) : Prop :=
 ∀ (pins : List (Addr × Obj)) (s : Shared) (σ : St) (H : Hp) (x : V) (xs : List V) (v : Value) (us : List Value) (Q : VK), Inv X pins σ H s -> RelV x v -> Vals xs us -> r x xs H Q ->
   wpAny (model X.prog X.w) X.A (call (.builtin id) (v :: us)) (EP X pins σ Q) X.xe s
theorem Vals.one : ∀ {x : V} {us : List Value}, Vals [x] us -> ∃ u, us = [u] /\ RelV x u
 | _, _, .cons r .nil => ⟨_, rfl, r⟩
theorem Vals.zero : ∀ {us : List Value}, Vals [] us -> us = []
 | _, .nil => rfl
theorem Vals.dropLast {xs : List V} {us : List Value} (h : Vals xs us) : Vals xs.dropLast us.dropLast := by
 induction h with
 | nil => exact .nil
 | cons r t ih =>
   cases t with
   | nil => exact .nil
   | cons q t' => exact .cons r ih
theorem Vals.eraseIdx : ∀ {xs : List V} {us : List Value} (i : Nat), Vals xs us -> Vals (xs.eraseIdx i) (us.eraseIdx i)
 | _, _, _, .nil => .nil
 | _, _, 0, .cons _ t => t
 | _, _, i + 1, .cons r t => .cons r (Vals.eraseIdx i t)
theorem Vals.reverse {xs : List V} {us : List Value} (h : Vals xs us) : Vals xs.reverse us.reverse := by
 induction h with
 | nil => exact .nil
 | cons r t ih => rw [List.reverse_cons, List.reverse_cons]; exact Vals.append ih (.cons r .nil)
theorem Vals.rep {xs : List V} {us : List Value} (h : Vals xs us) : ∀ k : Nat, Vals (List.replicate k xs).flatten (List.replicate k us).flatten
 | 0 => .nil
 | k + 1 => by
   rw [List.replicate_succ, List.replicate_succ, List.flatten_cons, List.flatten_cons]
   exact Vals.append h (Vals.rep h k)
theorem len_erase {α : Type} : ∀ (l : List α) (i : Nat), (l.eraseIdx i).length <= l.length
 | [], _ => Nat.le_refl _
 | _ :: _, 0 => Nat.le_succ _
 | _ :: r, i + 1 => Nat.succ_le_succ (len_erase r i)
theorem foldl_rep (its : List Value) : ∀ (k : Nat) (acc : List Value),
   List.foldl (fun x1 x2 => x1 ++ x2) acc.toArray (List.replicate k its.toArray) = (acc ++ (List.replicate k its).flatten).toArray
 | 0, acc => by simp
 | k + 1, acc => by
   have e : acc.toArray ++ its.toArray = (acc ++ its).toArray := by simp
   have e2 : (acc ++ its) ++ (List.replicate k its).flatten = acc ++ (List.replicate (k + 1) its).flatten := by
     rw [List.replicate_succ, List.flatten_cons, List.append_assoc]
   rw [← e2, ← foldl_rep its k (acc ++ its), ← e, List.replicate_succ, List.foldl_cons]
section
variable {X : Cx} {pins : List (Addr × Obj)} {σ : St} {H : Hp} {s : Shared} {l b : Addr} {xs ys zs : List V}
theorem Inv.lset {its its' : List Value} {n : Nat} {f : Array Value -> Array Value} {t' : Nat} (I : Inv X pins σ H s) (hH : H l = some (.lst xs))
   (e : s.heap.get? l = some { cls := .type "list", data := .seq its.toArray n }) (hf : f its.toArray = its'.toArray) (hv : Vals ys its') (hz : ys.length <= sizeLine) :
   Inv X pins σ (upd H l (.lst ys)) { s with heap := s.heap.update l (Obj.mapSeq f), toks := t' } := by
 have q := PySem.IsL.update e f
 rw [hf] at q
 refine I.write (x := l) (e := l) (by rw [hH]; exact trivial) (.inl rfl) (fun b' u hb hu => (Heap.get?_update_other s.heap (Obj.mapSeq f) (Ne.symm hb)).trans hu) ⟨_, q⟩ ?_
 exact ⟨hz, its', _, hv, q⟩
theorem Inv.lnew {its : List Value} {t' : Nat} (I : Inv X pins σ H s) (hv : Vals ys its) (hz : ys.length <= sizeLine) :
   Inv X pins σ (upd H s.heap.objs.size (.lst ys)) { s with heap := s.heap.push { cls := .type "list", data := .seq its.toArray }, toks := t' } :=
 I.laid (fun _ _ q => Heap.get?_push_of_some _ q) (Nat.le_refl _) ⟨hz, its, 0, hv, Heap.get?_push_size _ rfl⟩
theorem Inv.fresh (I : Inv X pins σ H s) : H s.heap.objs.size = none := I.hok.fresh (Nat.le_refl _)
theorem Inv.lstM (I : Inv X pins σ H s) (hH : H l = some (.lst xs)) : xs.length <= sizeLine /\ ∃ (its : List Value) (n : Nat), Vals xs its /\ xs.length = its.length /\ s.heap.get? l = some { cls := .type "list", data := .seq its.toArray n } := by
 obtain ⟨z, its, n, r, e⟩ := I.hok l _ hH
 exact ⟨z, its, n, r, r.length, e⟩
theorem notLongL {n : Nat} (h : n <= sizeLine) : Builtin.List.listTooLong n = false := by
 unfold Builtin.List.listTooLong
 exact decide_eq_false (by omega)
end
section
variable {X : Cx}
def rAppend : V -> List V -> Hp -> VK -> Prop := fun x vs H Q => ∃ l xs y, x = .ref l /\ vs = [y] /\ H l = some (.lst xs) /\ xs.length < sizeLine /\ Q .non (upd H l (.lst (xs ++ [y])))
theorem mt_append : MtM X "list.append" rAppend := by
 intro pins s σ H x vs v us Q I rx rv h
 obtain ⟨l, xs, y, rfl, rfl, hH, hz, q⟩ := h
 cases rx
 obtain ⟨u, rfl, ru⟩ := rv.one
 obtain ⟨z, its, n, r, hl, e⟩ := I.lstM hH
 refine call_meets F.slot_list_append ⟨_, e, rfl⟩ F.entry_list_append (F.args_list_append_2 _ _) (PySem.list_append l its.toArray n u (by rw [List.size_toArray]; omega)) ⟨e, ?_⟩
 refine ⟨.non, _, I.lset (its' := its ++ [u]) hH e (by simp) (r.append (.cons ru .nil)) ?_, rfl, q⟩
 rw [List.length_append, List.length_singleton]
 omega
def rPopAt : V -> List V -> Hp -> VK -> Prop := fun x vs H Q => ∃ l xs i k y, x = .ref l /\ vs = [.int i] /\ H l = some (.lst xs) /\ -(2 ^ 63) <= i /\ i < 2 ^ 63 /\ seqIndex? i xs.length = some k /\ xs[k]? = some y /\ Q y (upd H l (.lst (xs.eraseIdx k)))
theorem mt_popAt : MtM X "list.pop" rPopAt := by
 intro pins s σ H x vs v us Q I rx rv h
 obtain ⟨l, xs, i, k, y, rfl, rfl, hH, h1, h2, hk, hy, q⟩ := h
 cases rx
 obtain ⟨u, rfl, ru⟩ := rv.one
 obtain ⟨t, rfl⟩ := ru
 obtain ⟨z, its, n, r, hl, e⟩ := I.lstM hH
 obtain ⟨w, hw, rw'⟩ := r.get hy
 refine call_meets F.slot_list_pop ⟨_, e, rfl⟩ F.entry_list_pop (F.args_list_pop_2 _ _)
   (MeetsSeq.list_pop_at l its.toArray n i t k w (fitsIndex_both h1 h2) (by rw [List.size_toArray, ← hl]; exact hk) (by rw [← Array.getElem?_toList]; exact hw) (by rw [List.size_toArray]; omega)) ⟨e, ?_⟩
 refine ⟨y, _, I.lset (its' := its.eraseIdx k) hH e ?_ (r.eraseIdx k) ?_, rw', q⟩
 · show its.toArray.eraseIdxIfInBounds k = (its.eraseIdx k).toArray
   rw [List.eraseIdxIfInBounds_toArray]
 · have := len_erase xs k
   omega
def rCat : R2 := fun x y H Q => ∃ l b xs zs, x = .ref l /\ y = .ref b /\ H l = some (.lst xs) /\ H b = some (.lst zs) /\ xs.length + zs.length <= sizeLine /\ ∀ p, H p = none -> Q (.ref p) (upd H p (.lst (xs ++ zs)))
theorem op_cat : OpR X (binaryOp .Add) rCat := by
 intro pins s σ H x y v u Q I rx ry h
 obtain ⟨l, b, xs, zs, rfl, rfl, hH, hB, hz, q⟩ := h
 cases rx
 cases ry
 obtain ⟨z, its, n, r, hl, e⟩ := I.lstM hH
 obtain ⟨z2, its2, n2, r2, hl2, e2⟩ := I.lstM hB
 refine PySem.P.add_list e e2 ?_ (by rw [List.size_toArray, List.size_toArray]; omega)
 have ea : its.toArray ++ its2.toArray = (its ++ its2).toArray := by simp
 rw [ea]
 exact ⟨.ref _, _, I.lnew (t' := s.toks) (r.append r2) (by rw [List.length_append]; omega), rfl, q _ I.fresh⟩
def rRep : R2 := fun x y H Q => ∃ l k xs, x = .ref l /\ y = .int k /\ H l = some (.lst xs) /\ -(2 ^ 63) <= k /\ k < 2 ^ 63 /\ xs.length * k.toNat <= sizeLine /\
 ∀ p, H p = none -> Q (.ref p) (upd H p (.lst (List.replicate k.toNat xs).flatten))
theorem len_rep {α : Type} (xs : List α) (k : Nat) : (List.replicate k xs).flatten.length = k * xs.length := by
 induction k with
 | zero => simp
 | succ k ih => rw [List.replicate_succ, List.flatten_cons, List.length_append, ih, Nat.succ_mul, Nat.add_comm]
theorem op_rep : OpR X (binaryOp .Mult) rRep := by
 intro pins s σ H x y v u Q I rx ry h
 obtain ⟨l, k, xs, rfl, rfl, hH, h1, h2, hz, q⟩ := h
 cases rx
 obtain ⟨t, rfl⟩ := ry
 obtain ⟨z, its, n, r, hl, e⟩ := I.lstM hH
 have hlen : its.toArray.size * k.toNat <= sizeLine := by rw [List.size_toArray, ← hl]; exact hz
 have hcap : ¬ its.toArray.size * k.toNat > (2 ^ 63 - 1) / 8 := by
   have : (sizeLine : Nat) <= (2 ^ 63 - 1) / 8 := by decide
   omega
 have hfit : ¬ (!Builtin.List.listFitsIndex k) = true := by
   rw [fitsIndex_both h1 h2]
   exact Bool.false_ne_true
 have hlong : ¬ Builtin.List.listTooLong (its.toArray.size * k.toNat) = true := by
   rw [notLongL hlen]
   exact Bool.false_ne_true
 have hnew : List.foldl (fun x1 x2 => x1 ++ x2) #[] (List.replicate (if its.toArray.isEmpty = true then 0 else k.toNat) its.toArray) = (List.replicate k.toNat its).flatten.toArray := by
   have f0 : ∀ m : Nat, List.foldl (fun x1 x2 => x1 ++ x2) #[] (List.replicate m its.toArray) = (List.replicate m its).flatten.toArray := fun m => by
     have := foldl_rep its m []
     rw [List.nil_append] at this
     exact this
   rw [f0]
   cases its with
   | nil => simp
   | cons a r' => rw [if_neg (by simp)]
 refine wpAny_binaryOp_repeat_ref (T := "list") (U := "int") (by decide) ⟨_, e, rfl⟩ (fun s' => typeIs_int s' k t) noFill_list_mul F.fills_int_mul F.slot_int_rmul repeat_list F.slot_int_index.lookup
   (call_meets F.slot_int_rmul (typeIs_int s k t) F.entry_int_rmul (F.args_int_rmul_2 _ _) (int___rmul___int_list k t l its.toArray n)
     ⟨e, rfl, ⟨_, e, rfl⟩, call_meets F.slot_list_mul ⟨_, e, rfl⟩ F.entry_list_mul (F.args_list_mul_2 _ _) (AutoListH.list___mul___list_int_3 l its.toArray n k t hfit hcap hlong) ⟨e, ?_⟩⟩)
 rw [hnew]
 exact ⟨.ref _, _, I.lnew (t' := s.toks) (r.rep k.toNat) (by rw [len_rep, Nat.mul_comm]; exact hz), rfl, q _ I.fresh⟩
end
section
variable {prog : Program} {w : World} {A : Around} {E : Value -> Shared -> Prop} {s : Shared}
end
section
variable {X : Cx}
end
end L2
namespace Att
open PySem PySem.W PySem.Calls PyProof.Rows
theorem ints_of_wellAll {P : Params} {h : Heap} : ∀ (ns : List Int) (vs : List Value), WellAll P h vs (ns.map WData.int) -> IntsAre vs ns := by
 intro ns
 induction ns with
 | nil =>
   intro vs w
   rw [List.map_nil] at w
   cases w
   exact .nil
 | cons n ns ih =>
   intro vs w
   rw [List.map_cons] at w
   cases w with
   | cons a b =>
     cases a
     exact .cons _ _ (ih _ b)
theorem script_of {l : OpenLaw} {n : Nat} (hn : l.most = some n) {P : Params} {h : Heap} {args : List WData} {vals : List Value}
   (hpre : l.row.toRowW.claim.pre args = true) (hwl : WellAll P h vals args) :
   ∃ a vs ns, vals = [Value.ref a] /\ args = [WData.list (ns.map WData.int)] /\ h.get? a = some { cls := .type "list", data := .seq vs.toArray } /\ IntsAre vs ns /\ ns.length <= n := by
 have hsh : WShape.hasAll [] args [.list .int] = true := (pre_splitW hpre).1
 have hc : l.pre.holds [] { args := args } = true := (pre_splitW hpre).2
 obtain ⟨d, r, rfl, h1, h2⟩ := hasAllW_cons hsh
 obtain rfl := hasAllW_nil h2
 obtain ⟨xs, rfl, h3⟩ := hasW_list h1
 obtain ⟨ns, rfl⟩ := items_int h3
 have hlen : ns.length <= n := by
   unfold OpenLaw.pre at hc
   have h4 : (WTm.not (.lt (.lit (.int (n : Int))) (.len (.arg 0)))).holds [] { args := [.list (ns.map .int)] } = true := by
     have h4 := (holds_andW hc).1
     rw [hn] at h4
     exact h4
   have h5 := condW_of h4 (w_not (w_lt w_lit (w_len_list (w_arg rfl))))
   rw [List.length_map] at h5
   refine Nat.le_of_not_lt fun q => ?_
   have q' : (n : Int) < ((ns.length : Nat) : Int) := by omega
   first
     | (rw [decide_eq_true q'] at h5; exact absurd h5 (by decide))
     | (simp at h5; omega)
 cases hwl with
 | cons w1 w2 =>
   cases w2
   cases w1 with
   | list ho hall => exact ⟨_, _, ns, rfl, rfl, ho, ints_of_wellAll ns _ hall, hlen⟩
theorem post_true (l : OpenLaw) (args : List WData) : l.row.toRowW.claim.post args (.bool true) args = true :=
 postW_of (r := l.row.toRowW) (X := (true == true))
   (show WShape.has [] (.bool true) .bool = true by first | rfl | decide | simp [WShape.has, WShape.arms, WShape.armsAll])
   (show (WTm.eq .res (.lit (.bool true))).value [] { args := args, res := some (.bool true), after := args } = some (.bool (true == true)) from w_eq_bool (w_res rfl) w_lit) rfl
section
variable {prog : Program} {w : World} {A : Around} {E : Value -> Shared -> Prop} {s : Shared} {K : Frag}
end
end Att
namespace L2
open PySem PySem.Spec PyProof.Rows
theorem vals_ints : ∀ {vs : List Value} {ns : List Int}, IntsAre vs ns -> Vals (ns.map V.int) vs
 | _, _, .nil => .nil
 | _, _, .cons n t h => .cons ⟨t, rfl⟩ (vals_ints h)
def Only (H : Hp) : Prop := ∀ b, H b = none ∨ ∃ o xs, H b = some (.frz o (.lst xs))
theorem law_call {P : Program} {w : World} {K : PySem.W.Frag} {mg mb : Str -> Option Value} {CX : CXT} {k : Nat} {fa a : Addr} {fd : FuncData} {x : Str} {sp : Sp} {s₁ : Shared} {vs : List Value} {ns : List Int}
   (KX : K.In s₁.heap) (hns : s₁.heap.Ns mainGlobals mg) (hb : s₁.heap.Ns builtinsNs mb) (hbb : ∀ x : Str, x ≠ "__name__" -> mb x = bootBuiltins x) (hlim : s₁.heap.NoLimit) (hg : s₁.gens = #[])
   (ha : s₁.heap.get? a = some { cls := .type "list", data := .seq vs.toArray }) (hi : IntsAre vs ns) (hl : ns.length <= sizeLine) (hr : Room k callerA)
   (F : ∀ base : Heap, K.In base -> base.Ns mainGlobals mg -> FnOk P w K mg base CX k fa fd [x] sp) (hbind : ∀ (s : Shared) (u : Value), BindsTo s fd ⟨[u], []⟩ [(x, u)])
   (hsp : ∀ H : Hp, Only H -> SqL K H a (ns.map V.int) -> sp [.ref a] H (fun v _ => v = .bl true) fun _ _ _ => False)
   (hCX : ∀ H e s', CX [] H s₁ (fun _ _ _ => False) e s' -> False) :
   codeAny (model P w) callerA (.call (.ref fa) ⟨[.ref a], []⟩) (fun r s' => r = .ok (.ret (.bool true)) /\ OldK s₁.heap s'.heap /\ s'.os = s₁.os /\ AllBare s'.gens) s₁ := by
 have rv := vals_ints hi
 have lenV := hi.length
 -- from an abstract heap in which nothing but the script may be tracked
 have core : ∀ H : Hp, Only H -> SqL K H a (ns.map V.int) -> HOk P w H s₁.heap -> (∀ b, H b ≠ none -> b = a) -> (H a ≠ none -> K.lookup a = none) ->
     codeAny (model P w) callerA (.call (.ref fa) ⟨[.ref a], []⟩) (fun r s' => r = .ok (.ret (.bool true)) /\ OldK s₁.heap s'.heap /\ s'.os = s₁.os /\ AllBare s'.gens) s₁ := by
   intro H hO hS hok hA hK
   have base_of : ∀ {b : Addr} {o : Obj}, s₁.heap.get? b = some o -> H b = none -> (hidT s₁.heap H).get? b = some o := fun e n => hidT_get e n
   have noA : ∀ {b : Addr} {o : Obj} {es : Array DictEntry} {ep : Nat}, s₁.heap.get? b = some o -> o.data = .dict es ep -> H b = none := fun {b o es ep} e d => by
     cases q : H b with
     | none => rfl
     | some u =>
       have e' : b = a := hA b (by rw [q]; simp)
       subst e'
       rw [ha] at e; cases e
       have d' : Data.seq vs.toArray _ = Data.dict es ep := d
       cases d'
   have nsK : ∀ {b : Addr} {m : Str -> Option Value}, s₁.heap.Ns b m -> (hidT s₁.heap H).Ns b m := fun {b m} ⟨o, es, ep, e, d, r⟩ => ⟨o, es, ep, base_of e (noA e d), d, r⟩
   have hKb : K.In (hidT s₁.heap H) := fun b o e => base_of (KX b o e) (by
     cases q : H b with
     | none => rfl
     | some u =>
       have e' : b = a := hA b (by rw [q]; simp)
       subst e'
       rw [hK (by rw [q]; simp)] at e; cases e)
   have hM : Mod K mg (hidT s₁.heap H) := ⟨hKb, nsK hns, ⟨mb, nsK hb, hbb⟩, let ⟨mc, h1, h2⟩ := hlim; ⟨mc, nsK h1, h2⟩⟩
   have e0 : Env0 P w K mg (hidT s₁.heap H) callerA [] s₁ H := ⟨rfl, hM, fun b o e => of_hidT e, Nat.le_of_eq (hidT_size _ _), trivial, fun b hb => absurd (show b ∈ ([] : List Addr) from hb) (by simp), hok, .of_eq hg⟩
   refine codeAny_mono ((F _ hKb (nsK hns)).run callerA [] s₁ H ⟨[.ref a], []⟩ [.ref a] [.ref a] _ _ hr e0 (hbind s₁ (.ref a)) (.cons rfl .nil) (hsp H hO hS)) fun r s' h => ?_
   cases r with
   | error e => exact (hCX H e s' h).elim
   | ok fl =>
     cases fl with
     | next => exact False.elim h
     | brk => exact False.elim h
     | cont => exact False.elim h
     | ret u =>
       obtain ⟨v, H', os, bare, un, hok', r', q⟩ := h
       have q' : v = .bl true := q
       subst q'
       obtain rfl : u = Value.bool true := r'
       refine ⟨rfl, OldK.of_keep fun b o e => ?_, os, bare⟩
       cases q : H b with
       | none => exact un.keep b o e q (by intro z; exact absurd (show b ∈ ([] : List Addr) from z) (by simp)) (by simp)
       | some u =>
         rcases hO b with z | ⟨ob, xs, z⟩
         · rw [q] at z; cases z
         · have z2 := un.frzs b ob _ z
           obtain ⟨e1, _⟩ := hok b _ z
           obtain ⟨e2, _⟩ := hok' b _ z2
           rw [e] at e1; cases e1
           exact e2
 cases hk : K.lookup a with
 | some o =>
   -- the script is one of the module's own objects
   have e := KX a o hk
   rw [ha] at e
   cases e
   refine core (fun _ => none) (fun _ => .inl rfl) (.inr ⟨_, vs.toArray, _, hk, rfl, rfl, rfl, by rw [List.size_toArray, lenV]; exact hl, by simpa using rv⟩) (fun b u z => by have z' : (none : Option HO) = some u := z; cases z') (fun b z => absurd rfl z) fun z => absurd rfl z
 | none =>
   refine core (fun b => if b = a then some (.frz { cls := .type "list", data := .seq vs.toArray } (.lst (ns.map V.int))) else none) (fun b => ?_) (.inl (.inr ⟨{ cls := .type "list", data := .seq vs.toArray }, if_pos rfl⟩)) (fun b u z => ?_) (fun b z => ?_) fun _ => hk
   · by_cases hb : b = a
     · exact .inr ⟨_, _, if_pos hb⟩
     · exact .inl (if_neg hb)
   · by_cases hb : b = a
     · have z' := (if_pos hb).symm.trans z
       cases z'
       subst hb
       exact ⟨ha, by rw [List.length_map]; exact hl, vs, _, rv, ha⟩
     · have z' := (if_neg hb).symm.trans z
       cases z'
   · by_cases hb : b = a
     · exact hb
     · exact absurd (if_neg hb) z
end L2
namespace L2
open PySem PySem.Spec PyProof.Rows
end L2
namespace L2
open PySem PySem.Spec PyProof.Rows
abbrev CX0 : CXT := fun _ _ _ _ _ _ => False
abbrev E0 : XK := fun _ _ _ => False
theorem pass0 {X : Cx} : Passes CX0 X E0 := fun _ _ _ _ _ _ _ h => h.elim
structure Fun (K : PySem.W.Frag) (x qual : Str) (st : Stmt) (f : Addr) (fd : FuncData) : Prop where
 ex : ∃ (oc : Value) (od : Option Addr) (kV doc pm : Value) (an : Option Addr) (cdv ct : Value) (osl : Array (Option Value)),
   fd = PySem.W.fnOf x qual (defArgs st) (defBody st) (defScope st) .none kV doc pm an cdv ct /\ K.lookup f = some ⟨oc, od, .func fd, osl⟩ /\ PySem.W.codeIn K cdv qual = true
 kp : PySem.W.keepIn K (.ref f) = true
section
variable {P : Program} {w : World} {K : PySem.W.Frag} {mg : Str -> Option Value} {base : Heap}
theorem Fun.ok {x qual : Str} {st : Stmt} {f : Addr} {fd : FuncData} {N ps : List Str} {k : Nat} {sp : Sp} (F : Fun K x qual st f fd) (S : FnScope N ps (defScope st)) (len : ∀ vs H Q E, sp vs H Q E -> vs.length = ps.length)
   (hbody : ∀ (cdv : Value) (A : Around) (outer : List Env) (s : Shared) (H : Hp) (vs : List V) (Q : VK) (E : XK), Room k (A.deeper (envOfC qual (defScope st) s.heap.objs.size f cdv)) -> sp vs H Q E ->
     ∃ t, PSs (cxOf CX0 P w K mg base N qual (defScope st) f cdv A outer s H E).nox (defBody st) t /\ t { nx := fun _ H' => Q .non H', rt := Q } (start N vs) H) : FnOk P w K mg base CX0 (k + 1) f fd ps sp := by
 obtain ⟨oc, od, kV, doc, pm, an, cdv, ct, osl, rfl, lk, hcd⟩ := F.ex
 refine fn_of lk hcd S len fun A outer s H vs Q E hr hsp => ?_
 obtain ⟨t, h, q⟩ := hbody cdv A outer s H vs Q E hr hsp
 exact ⟨t, h.nox, q⟩
theorem Fun.binds {x qual : Str} {st : Stmt} {f : Addr} {fd : FuncData} {ps : List Str} (F : Fun K x qual st f fd)
   (h : ∀ (kV doc pm : Value) (an : Option Addr) (cdv ct : Value) (us : List Value), us.length = ps.length -> bindArgs (PySem.W.fnOf x qual (defArgs st) (defBody st) (defScope st) .none kV doc pm an cdv ct) ⟨us, []⟩ = pure (ps.zip us)) : Binds K fd ps [] := by
 obtain ⟨oc, od, kV, doc, pm, an, cdv, ct, osl, rfl, lk, hcd⟩ := F.ex
 exact .all (h kV doc pm an cdv ct)
theorem fun_mk {x qual : Str} {st : Stmt} {f : Addr} {oc : Value} {od an : Option Addr} {osl : Array (Option Value)} {kV doc pm cdv ct : Value} (l : K.lookup f = some ⟨oc, od, .func (PySem.W.fnOf x qual (defArgs st) (defBody st) (defScope st) .none kV doc pm an cdv ct), osl⟩)
   (c : PySem.W.codeIn K cdv qual = true) (k : PySem.W.keepIn K (.ref f) = true) : Fun K x qual st f (PySem.W.fnOf x qual (defArgs st) (defBody st) (defScope st) .none kV doc pm an cdv ct) := ⟨⟨oc, od, kV, doc, pm, an, cdv, ct, osl, rfl, l, c⟩, k⟩
end
section
variable {X : Cx}
theorem pv (i : Nat) {x : Str} {pos : Pos} (hN : X.N[i]? = some x := by rfl) (hv : Vis X.env.scope x := by first | exact Or.inl rfl | exact Or.inr (Or.inl rfl) | exact Or.inr (Or.inr rfl)) (hd : (x == ("__debug__" : Str)) = false := by decide)
   (hcd : (x == ("__classdict__" : Str)) = false := by decide) : PE X (.Name x pos) (tVar i) := pe_var hN hv hd hcd
end
def Same (H H' : Hp) : Prop := ∀ b o, H b = some o -> H' b = some o
theorem Same.refl (H : Hp) : Same H H := fun _ _ h => h
theorem Same.trans {H H1 H2 : Hp} (a : Same H H1) (b : Same H1 H2) : Same H H2 := fun c o h => b c o (a c o h)
theorem Same.free {H H' : Hp} (e : Same H H') {l : Addr} (h : H' l = Option.none) : H l = Option.none := by
 cases q : H l with
 | none => rfl
 | some o =>
   rw [e l o q] at h
   cases h
theorem Same.seq {K : PySem.W.Frag} {H H' : Hp} {a : Addr} {xs : List V} (e : Same H H') (h : SqL K H a xs) : SqL K H' a xs := by
 rcases h with (h | ⟨o, h⟩) | h
 · exact .inl (.inl (e _ _ h))
 · exact .inl (.inr ⟨o, e _ _ h⟩)
 · exact .inr h
end L2
namespace L2
open PySem PySem.Spec PyProof.Rows
section
variable {prog : Program} {w : World} {A : Around} {R : Result -> Shared -> Prop} {s : Shared}
abbrev F0 : Value -> Shared -> Prop := fun _ _ => False
theorem offF' {α : Type} {t : Sem α} {Q Q' : α -> Shared -> Prop} {M : Model} {A : Around} {E : Value -> Shared -> Prop} {s : Shared} (h : wpAny M A t Q F0 s) (hq : ∀ a s, Q a s -> Q' a s) : wpAny M A t Q' E s := wpAny_mono h hq fun _ _ z => z.elim
theorem compLoop_turns {elt target iter : Expr} {ifs : List Expr} {scope : Scope} {pos : Pos} {it acc : Value} {env : Env} (I : Nat -> Shared -> Prop)
   (turn : ∀ n s, I n s -> wpAny (model prog w) A (pyNext it) (fun r s₁ => match r with
     | none => R (.ok .next) s₁
     | some v => wpAny (model prog w) A (letOwnedTupleGo target it v) (fun _ s₁ => wpAny (model prog w) A (assign target env v) (fun _ s₂ =>
         wpAny (model prog w) A (forIn ifs true fun c r => if r = true then do let ok ← isTrue c env (eval c env); pure (ForInStep.yield ok) else pure (ForInStep.yield r)) (fun ok s₃ =>
           if ok = true then wpAny (model prog w) A (eval elt env) (fun x s₄ =>
             wpAny (model prog w) A (call (.builtin "list.append") [acc, x]) (fun _ s₅ => ∃ m, m < n /\ I m s₅) F0 s₄) F0 s₃
           else ∃ m, m < n /\ I m s₃) F0 s₂) F0 s₁) F0 s₁) F0 s)
   (n : Nat) (h : I n s) :
   codeAny (model prog w) A (.compLoop (.ListComp elt [⟨target, iter, ifs, 0⟩] scope pos) 0 it acc env) R s := by
 refine codeAny_loop rfl I (fun n s hI => ?_) n h
 show wpAny _ A ((compTurn (.ListComp elt [⟨target, iter, ifs, 0⟩] scope pos) 0 it acc env).onRaise (fun x => do noteFrame x env; theTreesLotGoes x)) _ _ s
 refine wpAny_noted ?_
 rw [compTurn_list]
 refine wpAny_bind (wpAny_standAt (wpAny_bind (offF' (turn n s hI) (fun r s₁ h₁ => ?_))))
 cases r with
 | none => exact wpAny_pure h₁
 | some v =>
   refine wpAny_bind (offF' h₁ fun _ s₁' h₁' => ?_)
   refine wpAny_bind (offF' h₁' fun _ s₂ h₂ => wpAny_bind (offF' h₂ fun ok s₃ h₃ => ?_))
   cases ok with
   | false => exact wpAny_pure ⟨rfl, h₃⟩
   | true =>
     exact wpAny_bind (wpAny_bind (offF' h₃ fun x s₄ h₄ => wpAny_bind (offF' h₄ fun _ s₅ h₅ => wpAny_pure (wpAny_pure ⟨rfl, h₅⟩))))
end
theorem lookup_relabel {env : Env} (x : Str) : ∀ (names : List (Str × NameKind)),
   (names.map fun (n, k) => if (k == NameKind.free && env.scope.kind == .function && env.kindOf n == some .cell) then (n, NameKind.cell) else (n, k)).lookup x
     = (names.lookup x).map fun k => if (k == NameKind.free && env.scope.kind == .function && env.kindOf x == some .cell) = true then NameKind.cell else k
 | [] => rfl
 | (n, k) :: r => by
   have ih := lookup_relabel (env := env) x r
   rw [List.map_cons]
   cases hx : x == n with
   | true =>
     have e : x = n := eq_of_beq hx
     subst e
     by_cases hc : (k == NameKind.free && env.scope.kind == .function && env.kindOf x == some .cell) = true
     · simp only [hc, if_true, List.lookup_cons, beq_self_eq_true, Option.map_some]
     · simp only [hc, if_false, List.lookup_cons, beq_self_eq_true, Option.map_some, Bool.false_eq_true]
   | false =>
     by_cases hc : (k == NameKind.free && env.scope.kind == .function && env.kindOf n == some .cell) = true
     · simp only [hc, if_true, List.lookup_cons, hx]; exact ih
     · simp only [hc, if_false, List.lookup_cons, hx, Bool.false_eq_true]; exact ih
def clOf (env : Env) : List (Str × NameKind) -> List (Str × Addr) -> List (Str × Addr)
 | [], acc => acc
 | (n, k) :: r, acc => clOf env r (if k = .free then (match env.cells.lookup n with | some c => (n, c) :: acc | none => acc) else acc)
theorem closure_eq {env : Env} {scope : Scope} (h : ∀ p ∈ scope.names, p.2 = .free -> ∃ c, env.cells.lookup p.1 = some c) : closureFor scope env = pure (clOf env scope.names []) := by
 have gen : ∀ (l : List (Str × NameKind)) (acc : List (Str × Addr)), (∀ p ∈ l, p.2 = .free -> ∃ c, env.cells.lookup p.1 = some c) ->
     (forIn l acc fun x r => if (x.2 == NameKind.free) = true then (do let a ← cellOf env x.1; pure (ForInStep.yield ((x.1, a) :: r))) else pure (ForInStep.yield r) : Sem (List (Str × Addr))) = pure (clOf env l acc) := by
   intro l
   induction l with
   | nil => intro acc _; rfl
   | cons p r ih =>
     intro acc hp
     obtain ⟨n, k⟩ := p
     rw [List.forIn_cons]
     have hr : ∀ p ∈ r, p.2 = .free -> ∃ c, env.cells.lookup p.1 = some c := fun p hm => hp p (List.mem_cons_of_mem _ hm)
     by_cases hk : k = .free
     · subst hk
       obtain ⟨c, hc⟩ := hp (n, .free) List.mem_cons_self rfl
       have e : cellOf env n = pure c := by unfold cellOf; rw [hc]
       simp only [beq_self_eq_true, if_true, e]
       show (forIn r ((n, c) :: acc) _ : Sem _) = _
       rw [ih _ hr]
       show _ = (pure (clOf env r (if NameKind.free = NameKind.free then (match env.cells.lookup n with | some c => (n, c) :: acc | none => acc) else acc)) : Sem _)
       rw [if_pos rfl, hc]
     · have hb : (k == NameKind.free) = false := by simpa using hk
       simp only [hb, Bool.false_eq_true, if_false]
       show (forIn r acc _ : Sem _) = _
       rw [ih _ hr]
       show _ = (pure (clOf env r (if k = NameKind.free then (match env.cells.lookup n with | some c => (n, c) :: acc | none => acc) else acc)) : Sem _)
       rw [if_neg hk]
 have q := gen scope.names [] h
 simp only [closureFor]
 rw [q]
 rfl
theorem clOf_mem {env : Env} : ∀ (l : List (Str × NameKind)) (acc : List (Str × Addr)), (∀ x c, acc.lookup x = some c -> env.cells.lookup x = some c) -> ∀ x c, (clOf env l acc).lookup x = some c -> env.cells.lookup x = some c
 | [], _, h => h
 | (n, k) :: r, acc, h => by
   refine clOf_mem r _ ?_
   by_cases hk : k = .free
   · rw [if_pos hk]
     cases e : env.cells.lookup n with
     | none => exact h
     | some c =>
       intro x c' hx
       rw [List.lookup_cons] at hx
       cases q : x == n with
       | true => rw [q] at hx; cases hx; rw [eq_of_beq q]; exact e
       | false => rw [q] at hx; exact h x c' hx
   · rw [if_neg hk]; exact h
theorem clOf_old {env : Env} : ∀ (l : List (Str × NameKind)) (acc : List (Str × Addr)) (x : Str), (acc.lookup x).isSome = true -> ((clOf env l acc).lookup x).isSome = true
 | [], _, _, h => h
 | (n, k) :: r, acc, x, h => by
   refine clOf_old r _ x ?_
   by_cases hk : k = .free
   · rw [if_pos hk]
     cases e : env.cells.lookup n with
     | none => exact h
     | some c =>
       show (List.lookup x ((n, c) :: acc)).isSome = true
       rw [List.lookup_cons]
       cases q : x == n with
       | true => rfl
       | false => exact h
   · rw [if_neg hk]; exact h
theorem clOf_has {env : Env} : ∀ (l : List (Str × NameKind)) (acc : List (Str × Addr)), (∀ p ∈ l, p.2 = .free -> ∃ c, env.cells.lookup p.1 = some c) -> ∀ x, (x, NameKind.free) ∈ l -> ((clOf env l acc).lookup x).isSome = true
 | [], _, _, _, h => nomatch h
 | (n, k) :: r, acc, hp, x, h => by
   rcases List.mem_cons.mp h with e | h
   · cases e
     obtain ⟨c, hc⟩ := hp (n, .free) List.mem_cons_self rfl
     show ((clOf env r (if NameKind.free = NameKind.free then (match env.cells.lookup n with | some c => (n, c) :: acc | none => acc) else acc)).lookup n).isSome = true
     rw [if_pos rfl, hc]
     exact clOf_old r _ n (by simp [List.lookup_cons])
   · exact clOf_has r _ (fun p hm => hp p (List.mem_cons_of_mem _ hm)) x h
def compOk (sc scope : Scope) (N tgs frees : List Str) (js : List Nat) : Bool :=
 scope.kind == .function && scope.names.all (fun p => p.2 != .cell && (p.2 != .free || sc.names.lookup p.1 == some .cell || sc.names.lookup p.1 == some .free) && (p.2 != .local || scope.names.lookup p.1 == some .local))
   && tgs.all (fun x => scope.names.lookup x == some .local) && frees.all (fun x => scope.names.lookup x == some .free) && (js.map fun j => N[j]?) == frees.map some
def upC (m : Nat) (js : List Nat) (σ : St) : St := List.replicate m none ++ js.map fun j => (σ[j]?).join
def compCx (X : Cx) (Nc : List Str) (scope : Scope) (C : Addr) (s₀ : Shared) (H₀ : Hp) (fp : List Addr) : Cx where
 prog := X.prog
 w := X.w
 K := X.K
 mg := X.mg
 base := X.base
 A := X.A
 N := Nc
 s₀ := s₀
 H₀ := H₀
 env := compEnvC scope (clOf X.env scope.names []) C X.env
 outer := X.stack
 stack := X.stack
 ex := fp
 fn := fun _ => false
 calm := X.calm
 pn := []
 xe := F0
def PIfs (X : Cx) (ifs : List Expr) (t : TT) : Prop :=
 ∀ (pins : List (Addr × Obj)) (s : Shared) (σ : St) (H : Hp) (Q : Bool -> Hp -> Prop), Inv X pins σ H s -> t σ H Q ->
   wpAny (model X.prog X.w) X.A (forIn ifs true fun c r => if r = true then do let ok ← isTrue c X.env (eval c X.env); pure (ForInStep.yield ok) else pure (ForInStep.yield r)) (TP X pins σ Q) X.xe s
def tYes : TT := fun _ H Q => Q true H
theorem pifs_nil {X : Cx} : PIfs X [] tYes := fun _ _ _ H _ I h => wpAny_tests_nil ⟨H, I, h⟩
def tBlk (J : It) (m : Nat) (js : List Nat) (g : TG) (tc : TT) (te : TE) (σ : St) (H1 : Hp) (Q : VK) : Prop := ∀ D, H1 D = none ->
 ∃ W : Nat -> Nat -> St -> Hp -> Prop, (∃ k, W 0 k (upC m js σ) (upd H1 D (.lst []))) /\ ∀ i k σ' H', W i k σ' H' ->
   (J.stop i H' /\ Q (.ref D) H') ∨ (J.go i H' /\ ∀ x H2, J.yld i H' x H2 -> g x σ' H2 fun σ2 H3 => tc σ2 H3 fun b H4 => if b = true then te σ2 H4 fun y H5 => ∃ ys k', H5 D = some (.lst ys) /\ ys.length < sizeLine /\ k' < k /\ W (i + 1) k' σ2 (upd H5 D (.lst (ys ++ [y])))
     else ∃ k', k' < k /\ W (i + 1) k' σ2 H4)
section
variable {X : Cx} {pins : List (Addr × Obj)} {σ : St} {H2 : Hp} {s2 : Shared} {tg elt iter : Expr} {ifs : List Expr} {scope sc : Scope} {pos : Pos} {tgs frees : List Str} {js : List Nat} {g : TG} {te : TE} {tc : TT}
theorem compOk_parts {N : List Str} (h : compOk sc scope N tgs frees js = true) : scope.kind = .function /\ (∀ p ∈ scope.names, p.2 ≠ .cell) /\ (∀ p ∈ scope.names, p.2 = .free -> sc.names.lookup p.1 = some .cell ∨ sc.names.lookup p.1 = some .free) /\
   (∀ p ∈ scope.names, p.2 = .local -> scope.names.lookup p.1 = some .local) /\ (∀ x ∈ tgs, scope.names.lookup x = some .local) /\ (∀ x ∈ frees, scope.names.lookup x = some .free) /\ (js.map fun j => N[j]?) = frees.map some := by
 unfold compOk at h
 simp only [Bool.and_eq_true, List.all_eq_true, bne_iff_ne, ne_eq, Bool.or_eq_true, beq_iff_eq] at h
 obtain ⟨⟨⟨⟨h1, h2⟩, h3⟩, h4⟩, h5⟩ := h
 refine ⟨h1, fun p hp => (h2 p hp).1.1, fun p hp e => ?_, fun p hp e => ?_, h3, h4, h5⟩
 · rcases (h2 p hp).1.2 with (q | q) | q
   · exact absurd e q
   · exact .inl q
   · exact .inr q
 · rcases (h2 p hp).2 with q | q
   · exact absurd e q
   · exact q
theorem comp_start {C : Addr} {s3 : Shared} {H3 : Hp} {h4 : Heap} {tk : Nat} {fp : List Addr} {m0 : Str -> Option Value} (I : Inv X pins σ H3 s3) (f3 : ∀ b ∈ fp, FpOk X pins H3 b) (ofp : ∀ b ∈ fp, b < s3.heap.objs.size)
   (hsc : X.env.scope = sc) (hok : compOk sc scope X.N tgs frees js = true) (hC : C = s3.heap.objs.size) (hk : ∀ b o, s3.heap.get? b = some o -> h4.get? b = some o) (hn : h4.Ns C m0) :
   Inv (compCx X (tgs ++ frees) scope C s3 H3 fp) [] (upC tgs.length js σ) H3 { s3 with heap := h4, toks := tk } := by
 obtain ⟨k1, k2, k3, k4, k5, k6, k7⟩ := compOk_parts hok
 have hcl : ∀ x c, (clOf X.env scope.names []).lookup x = some c -> X.env.cells.lookup x = some c := clOf_mem scope.names [] (fun _ _ z => nomatch z)
 have hfr : ∀ p ∈ scope.names, p.2 = .free -> ∃ c, X.env.cells.lookup p.1 = some c := fun p hp e => I.ok.has p.1 (by
   show X.env.scope.names.lookup p.1 = _ ∨ X.env.scope.names.lookup p.1 = _
   rw [hsc]; exact k3 p hp e)
 have rl : ∀ x, (relabel scope X.env).names.lookup x = (scope.names.lookup x).map fun k => if (k == NameKind.free && X.env.scope.kind == .function && X.env.kindOf x == some .cell) = true then NameKind.cell else k := fun x => lookup_relabel x scope.names
 have hasc : ∀ x, ((relabel scope X.env).names.lookup x = some .cell ∨ (relabel scope X.env).names.lookup x = some .free) -> ∃ c, (clOf X.env scope.names []).lookup x = some c := fun x hx => by
   rw [rl x] at hx
   cases e : scope.names.lookup x with
   | none => rw [e] at hx; simp at hx
   | some k =>
     have hm := PySem.mem_of_lookup e
     have hkf : k = .free := by
       rw [e] at hx
       simp only [Option.map_some, Option.some.injEq] at hx
       by_cases q : k = .free
       · exact q
       · have hb : (k == NameKind.free) = false := by simpa using q
         rw [hb] at hx
         simp only [Bool.false_and, Bool.false_eq_true, if_false] at hx
         rcases hx with z | z
         · exact absurd z (k2 _ hm)
         · exact z
     subst hkf
     exact Option.isSome_iff_exists.mp (clOf_has scope.names [] hfr x hm)
 have cfr : ∀ x c, X.env.cells.lookup x = some c -> c ≠ C := fun x c e z => by
   obtain ⟨v, q⟩ := I.cell x c e
   exact absurd (z ▸ q.lt) (by rw [hC]; exact Nat.lt_irrefl _)
 have base0 : ∀ b o, X.base.get? b = some o -> b ∉ fp := fun b o e hb => by
   obtain ⟨_, _, _, q, _⟩ := f3 b hb
   rcases q with q | q
   · exact I.ok.noex b o e q
   · exact absurd (Nat.lt_of_lt_of_le (Heap.lt_size (I.ok.bs b o e).1) q) (Nat.lt_irrefl _)
 have stk : ∀ b ∈ fp, b ∉ frs X.stack := fun b hb z => by
   obtain ⟨_, q1, q2, _⟩ := f3 b hb
   rcases List.mem_cons.mp (I.stkSub b z) with e | e
   · exact q1 e
   · exact q2 e
 refine ⟨⟨I.ok.mod, k1, I.ok.glob, I.ok.blt, by rw [hC]; exact Nat.le_refl _, fun x y c e1 e2 => I.ok.inj x y c (hcl x c e1) (hcl y c e2), hasc, (fun x c z _ => nomatch z), I.ok.hd, I.ok.frames, .inl rfl,
     fun b hb => ⟨fun z => absurd (ofp b hb) (by rw [show b = C from z, hC]; exact Nat.lt_irrefl _), fun x c e => (f3 b hb).2.2.2.2.1 x c (hcl x c e)⟩,
     fun b o e => I.bs b o e, Nat.le_trans I.ok.bsz I.sz, base0, stk, I.stack, I.stkFree⟩,
   rfl, I.bare, Un.kept hk, ⟨m0, hn, fun i x v e1 e2 e3 => ?_⟩, fun x c e => ?_, I.hok.fresh (by rw [show (compCx X (tgs ++ frees) scope C s3 H3 fp).env.locals = C from rfl, hC]; exact Nat.le_refl _), fun x c e => I.freeC x c (hcl x c e),
   fun p hp => absurd (show p ∈ ([] : List (Addr × Obj)) from hp) (by simp), I.hok.kept hk, ?_⟩
 · -- a name's value
   have hi : tgs.length <= i := by
     refine Nat.le_of_not_lt fun hlt => ?_
     have e2 : (upC tgs.length js σ)[i]? = some (some v) := e2
     unfold upC at e2
     rw [List.getElem?_append_left (by simpa using hlt), List.getElem?_replicate] at e2
     split at e2 <;> cases e2
   have e2 : (upC tgs.length js σ)[i]? = some (some v) := e2
   unfold upC at e2
   rw [List.getElem?_append_right (by simpa using hi), List.length_replicate, List.getElem?_map] at e2
   have e1 : (tgs ++ frees)[i]? = some x := e1
   rw [List.getElem?_append_right hi] at e1
   obtain ⟨j, ej, e2⟩ := Option.map_eq_some_iff.mp e2
   have hj : X.N[j]? = some x := by
     have q := congrArg (fun l => l[i - tgs.length]?) k7
     simp only [List.getElem?_map, ej, e1, Option.map_some] at q
     exact Option.some.inj q
   have hσ : σ[j]? = some (some v) := by
     cases q : σ[j]? with
     | none => rw [q] at e2; cases e2
     | some o => rw [q] at e2; exact congrArg some e2
   have hf : scope.names.lookup x = some .free := k6 x (List.mem_of_getElem? e1)
   have hX : X.env.kindOf x = some .cell ∨ X.env.kindOf x = some .free := by
     show X.env.scope.names.lookup x = _ ∨ X.env.scope.names.lookup x = _
     rw [hsc]; exact k3 _ (PySem.mem_of_lookup hf) rfl
   obtain ⟨m, _, hl⟩ := I.loc
   obtain ⟨u, r, l⟩ := hl j x v hj hσ (by
     rcases hX with q | q
     · exact .inr (.inl q)
     · exact .inr (.inr q))
   refine ⟨u, r, .inr ⟨?_, ?_⟩⟩
   · show (relabel scope X.env).names.lookup x = _ ∨ (relabel scope X.env).names.lookup x = _
     rw [rl x, hf]
     by_cases q : (NameKind.free == NameKind.free && X.env.scope.kind == .function && X.env.kindOf x == some .cell) = true
     · exact .inl (by rw [Option.map_some, if_pos q])
     · exact .inr (by rw [Option.map_some, if_neg q])
   · rcases l with ⟨q, _⟩ | ⟨_, c, ec, hcell⟩
     · rcases hX with z | z <;> (rw [z] at q; cases q)
     · obtain ⟨c', ec'⟩ := Option.isSome_iff_exists.mp (clOf_has scope.names [] hfr x (PySem.mem_of_lookup hf))
       have e : c' = c := Option.some.inj ((hcl x c' ec').symm.trans ec)
       subst e
       obtain ⟨o, ho, hd⟩ := hcell
       exact ⟨c', ec', o, hk _ _ ho, hd⟩
 · obtain ⟨v, o, ho, hd⟩ := I.cell x c (hcl x c e)
   exact ⟨v, o, hk _ _ ho, hd⟩
 · show (upC tgs.length js σ).length = (tgs ++ frees).length
   have q := congrArg List.length k7
   rw [List.length_map, List.length_map] at q
   unfold upC
   rw [List.length_append, List.length_replicate, List.length_map, List.length_append, q]
theorem comp_block {J : It} {fp : List Addr} {it : Addr} {tn : Nat -> Heap -> Prop} {RR : Value -> Addr -> Result -> Shared -> Prop} {E : Value -> Shared -> Prop} {Q : VK}
   (I2 : Inv X pins σ H2 s2) (T : Turn X.prog X.w X.K tg J fp it tn) (st2 : tn 0 s2.heap) (f2 : ∀ b ∈ fp, FpOk X pins H2 b) (hc : X.calm = true)
   (hsc : X.env.scope = sc) (hok : compOk sc scope X.N tgs frees js = true)
   (hg : ∀ C s₀ H₀ fp, PG (compCx X (tgs ++ frees) scope C s₀ H₀ fp) tg g) (hi : ∀ C s₀ H₀ fp, PIfs (compCx X (tgs ++ frees) scope C s₀ H₀ fp) ifs tc) (he : ∀ C s₀ H₀ fp, PE (compCx X (tgs ++ frees) scope C s₀ H₀ fp) elt te)
   (hw : tBlk J tgs.length js g tc te σ H2 Q)
   (hRR : ∀ D C s' H' m, Inv X pins σ H' s' -> Q (.ref D) H' -> FpOk X pins H' C -> s'.heap.Ns C m -> RR (.ref D) C (.ok .next) s') :
   wpAny (model X.prog X.w) X.A (newList []) (fun acc s₃ => wpAny (model X.prog X.w) X.A (newFunctionEnv scope X.env.globals (clOf X.env scope.names []) [] X.env.qual none .none (some X.env)) (fun cenv s₄ =>
     codeAny (model X.prog X.w) X.A (.compStart (.ListComp elt [⟨tg, iter, ifs, 0⟩] scope pos) 0 (.ref it) acc { cenv with scope := relabel scope X.env }) (RR acc cenv.locals) s₄) E s₃) E s2 := by
 obtain ⟨k1, k2, k3, k4, k5, k6, k7⟩ := compOk_parts hok
 refine wpAny_newObj_type (wpAny_newFunctionEnv k2 (by intro y hy; simp at hy) (fun h4 hn4 hs4 => ?_) k1)
 dsimp only at hn4 hs4 ⊢
 generalize hh3 : s2.heap.push { cls := .type "list", dict := none, data := .seq ([] : List Value).toArray } = h3 at hn4 hs4 ⊢
 generalize hD : s2.heap.objs.size = D
 have hDn : H2 D = none := by rw [← hD]; exact I2.fresh
 have hsz3 : h3.objs.size = D + 1 := by rw [← hh3, Heap.size_push, hD]
 have keep23 : ∀ b o, s2.heap.get? b = some o -> h3.get? b = some o := fun b o e => by rw [← hh3]; exact Heap.get?_push_of_some _ e
 have keep34 : ∀ b o, h3.get? b = some o -> h4.get? b = some o := fun b o e => hs4.extBut b o (Nat.ne_of_lt (Heap.lt_size e)) (Heap.get?_push_of_some _ e)
 have I3 : Inv X pins σ (upd H2 D (.lst [])) { s2 with heap := h3 } := by
   have q := I2.lnew (its := []) (ys := []) (t' := s2.toks) .nil (Nat.zero_le _)
   rw [hD] at q
   rw [← hh3]
   exact q
 have nfp : ∀ b ∈ fp, b ≠ D := fun b hb z => by
   obtain ⟨o, e, _⟩ := T.obj 0 _ st2 b hb
   exact absurd (Heap.lt_size e) (by rw [z, hD]; exact Nat.lt_irrefl _)
 have f3 : ∀ b ∈ fp, FpOk X pins (upd H2 D (.lst [])) b := fun b hb => by
   obtain ⟨q0, q⟩ := f2 b hb
   exact ⟨by rw [upd_ne (nfp b hb)]; exact q0, q⟩
 have ofp : ∀ b ∈ fp, b < h3.objs.size := fun b hb => by
   obtain ⟨o, e, _⟩ := T.obj 0 _ st2 b hb
   exact Heap.lt_size (keep23 b o e)
 obtain ⟨W, ⟨n0, w0⟩, turn⟩ := hw D hDn
 have loop : ∀ s4 : Shared, s4 = { s2 with heap := h4, toks := s2.toks + ([] : List (Str × Value)).length } ->
     codeAny (model X.prog X.w) X.A (.compLoop (.ListComp elt [⟨tg, iter, ifs, 0⟩] scope pos) 0 (.ref it) (.ref D) (compEnvC scope (clOf X.env scope.names []) h3.objs.size X.env)) (RR (.ref D) h3.objs.size) s4 := by
   rintro s4 rfl
   generalize hX' : compCx X (tgs ++ frees) scope h3.objs.size { s2 with heap := h3 } (upd H2 D (.lst [])) fp = X'
   have I4 : Inv X' [] (upC tgs.length js σ) (upd H2 D (.lst [])) { s2 with heap := h4, toks := s2.toks + ([] : List (Str × Value)).length } := by
     rw [← hX']
     exact comp_start (s3 := { s2 with heap := h3 }) I3 f3 ofp hsc hok rfl keep34 hn4
   have eP : X'.prog = X.prog := by rw [← hX']; rfl
   have eW : X'.w = X.w := by rw [← hX']; rfl
   have eK : X'.K = X.K := by rw [← hX']; rfl
   have eA : X'.A = X.A := by rw [← hX']; rfl
   have eC : X'.calm = true := by rw [← hX']; exact hc
   have T' : Turn X'.prog X'.w X'.K tg J fp it tn := by rw [eP, eW, eK]; exact T
   have eE : X'.env = compEnvC scope (clOf X.env scope.names []) h3.objs.size X.env := by rw [← hX']; rfl
   have eX : X'.xe = F0 := by rw [← hX']; rfl
   have stat : ∀ {H' : Hp}, (∀ b ∈ fp, H' b = none) -> ∀ b ∈ fp, FpOk X' [] H' b := fun {H'} hn b hb => by
     obtain ⟨_, q1, q2, q3, q4, q5⟩ := f3 b hb
     rw [← hX']
     refine ⟨hn b hb, ?_, ?_, .inl hb, fun x c e => ?_, fun p hp => absurd (show p ∈ ([] : List (Addr × Obj)) from hp) (by simp)⟩
     · exact fun z => absurd (ofp b hb) (by rw [show b = h3.objs.size from z]; exact Nat.lt_irrefl _)
     · intro z
       rcases List.mem_cons.mp (I3.stkSub b z) with e | e
       · exact q1 e
       · exact q2 e
     · exact q4 x c (clOf_mem scope.names [] (fun _ _ z => nomatch z) x c e)
   have hgX : PG X' tg g := by rw [← hX']; exact hg _ _ _ _
   have hiX : PIfs X' ifs tc := by rw [← hX']; exact hi _ _ _ _
   have heX : PE X' elt te := by rw [← hX']; exact he _ _ _ _
   refine compLoop_turns (fun n s' => ∃ i σ' H', Inv X' [] σ' H' s' /\ tn i s'.heap /\ (∀ b ∈ fp, H' b = none) /\ W i n σ' H') ?_ n0 ⟨0, _, _, I4, T.keep 0 _ _ st2 (fun b _ o e => keep34 b o (keep23 b o e)), fun b hb => (f3 b hb).1, w0⟩
   rintro n s5 ⟨i, σ5, H5, I5, st5, fr5, w5⟩
   rw [← eP, ← eW, ← eE, ← eA]
   rcases turn i n σ5 H5 w5 with ⟨stop, qn⟩ | ⟨go, step⟩
   · refine thn (T'.done X' rfl rfl rfl eC i [] s5 σ5 H5 F0 I5 (stat fr5) st5 stop) fun r s6 ⟨hr, I6⟩ => ?_
     subst hr
     have un : Un (frs X.stack) fp H2 H5 s2.heap s6.heap := by
       have u1 : Un (frs X.stack) fp H2 (upd H2 D (.lst [])) s2.heap h3 := Un.laid keep23 (Nat.le_of_eq hD) hDn
       have u2 := I6.base
       rw [← hX'] at u2
       exact u1.trans u2
     have hpx : HOk X.prog X.w H5 s6.heap := by have q := I6.hok; rw [eP, eW] at q; exact q
     have hos : s6.os = s2.os := by have q := I6.os; rw [← hX'] at q; exact q
     have IX : Inv X pins σ H5 s6 := I2.call' (ch := fp) hos un hpx I6.bare fun b hb => ⟨(f2 b hb).2.2.2.1, (f2 b hb).2.1, (f2 b hb).2.2.2.2.1, (f2 b hb).2.2.2.2.2⟩
     obtain ⟨m, hm, _⟩ := I6.loc
     have hloc : X'.env.locals = h3.objs.size := by rw [eE]; rfl
     rw [hloc] at hm
     have hle : s2.heap.objs.size <= h3.objs.size := by rw [hD, hsz3]; exact Nat.le_succ _
     refine hRR D h3.objs.size s6 H5 m IX qn (I2.fpOk hle ?_) hm
     have q := I6.free
     rw [hloc] at q
     exact q
   · refine thn (T'.item X' rfl rfl rfl eC i [] s5 σ5 H5 F0 I5 (stat fr5) st5 go) fun r s6 ⟨u, hr, h6⟩ => ?_
     subst hr
     refine thn h6 fun _ s7 ⟨x, H7, I7, r7, y7, st7, fr7⟩ => ?_
     have I7' := I7.pinned (stat fr7) (T.obj _ _ st7)
     have xe0 : X'.xe = F0 := eX
     have conv : ∀ {α : Type} {t : Sem α} {Q : α -> Shared -> Prop} {s : Shared}, wpAny (model X'.prog X'.w) X'.A t Q X'.xe s -> wpAny (model X'.prog X'.w) X'.A t Q F0 s := fun h => by rw [xe0] at h; exact h
     refine thn (conv (hgX _ s7 σ5 H7 x u _ I7' r7 (step x H7 y7))) fun _ s8 ⟨σ8, H8, I8, q8⟩ => ?_
     refine thn (conv (hiX _ s8 σ8 H8 _ I8 q8)) fun ok s9 ⟨H9, I9, q9⟩ => ?_
     have again : ∀ {σz : St} {Hz : Hp} {sz : Shared} {k' : Nat}, Inv X' ([] ++ pinsAt fp s7.heap) σz Hz sz -> k' < n -> W (i + 1) k' σz Hz -> ∃ m, m < n /\ ∃ i σ' H', Inv X' [] σ' H' sz /\ tn i sz.heap /\ (∀ b ∈ fp, H' b = none) /\ W i m σ' H' := fun {σz Hz sz k'} Iz hk wz => by
       refine ⟨k', hk, i + 1, σz, Hz, Iz.unpinned, T.keep _ _ _ st7 fun b hb o e => (Iz.pin (b, o) (List.mem_append_right _ (List.mem_append_right _ (mem_pinsAt hb e)))).1, fun b hb => ?_, wz⟩
       obtain ⟨o, e, d⟩ := T.obj _ _ st7 b hb
       exact (Iz.pin (b, o) (List.mem_append_right _ (List.mem_append_right _ (mem_pinsAt hb e)))).2.1
     cases ok with
     | false =>
       rw [if_neg (by decide)] at q9
       rw [if_neg (by decide)]
       obtain ⟨k', hk, wz⟩ := q9
       exact again I9 hk wz
     | true =>
       rw [if_pos rfl] at q9
       rw [if_pos rfl]
       refine thn (conv (heX _ s9 σ8 H9 _ I9 q9)) fun v s10 ⟨y, H10, I10, r10, ys, k', hys, hl, hk, wz⟩ => ?_
       refine thn (conv (mt_append (X := X') _ s10 σ8 H10 (.ref D) [y] (.ref D) [v] (fun z Hz => W (i + 1) k' σ8 Hz) I10 rfl (.cons r10 .nil) ⟨D, ys, y, rfl, rfl, hys, hl, wz⟩)) fun _ s11 ⟨_, H11, I11, _, q11⟩ => ?_
       exact again I11 hk q11
 rw [show s2.heap.objs.size = D from hD] at *
 exact codeAny_compStart_list (loop _ rfl) (T.self _ 0 _ _ _ (T.keep 0 _ _ st2 fun b _ o e => keep34 b o (keep23 b o e)) (loop _ rfl))
def tComp (wi : TI) (m : Nat) (js : List Nat) (g : TG) (tc : TT) (te : TE) : TE := fun σ H Q => wi σ H fun J H1 => tBlk J m js g tc te σ H1 Q
theorem comp_hfree (ok : X.Ok) (hsc : X.env.scope = sc) (hok : compOk sc scope X.N tgs frees js = true) : closureFor scope X.env = pure (clOf X.env scope.names []) :=
 closure_eq fun p hp e => ok.has p.1 (by
   show X.env.scope.names.lookup p.1 = _ ∨ X.env.scope.names.lookup p.1 = _
   rw [hsc]; exact (compOk_parts hok).2.2.1 p hp e)
theorem pe_comp (sc : Scope) (tgs frees : List Str) (js : List Nat) {wi : TI} (hp : PI X tg iter wi) (hc : X.calm = true) (hsc : X.env.scope = sc) (hok : compOk sc scope X.N tgs frees js = true)
   (hg : ∀ C s₀ H₀ fp, PG (compCx X (tgs ++ frees) scope C s₀ H₀ fp) tg g) (hi : ∀ C s₀ H₀ fp, PIfs (compCx X (tgs ++ frees) scope C s₀ H₀ fp) ifs tc) (he : ∀ C s₀ H₀ fp, PE (compCx X (tgs ++ frees) scope C s₀ H₀ fp) elt te)
   (hs : ∀ x, foldedSetIterable iter X.env x = pure x := by intro _; rfl) :
   PE X (.ListComp elt [⟨tg, iter, ifs, 0⟩] scope pos) (tComp wi tgs.length js g tc te) := by
 intro pins s σ H Q I h
 obtain ⟨k1, k2, k3, k4, k5, k6, k7⟩ := compOk_parts hok
 rw [eval_ListComp]
 refine wpAny_comprehension_free (use := none) rfl hs (comp_hfree I.ok hsc hok) k1 k4 (thn (hp pins s σ H _ I h) fun v s1 h1 => thn h1 fun itv s2 h2 => ?_)
 obtain ⟨it, fp, tn, J, H2, e, I2, T, st2, f2, hw⟩ := h2
 subst e
 refine comp_block (RR := fun acc C => compPost (model X.prog X.w) X.A X.xe none (EP X pins σ Q) acc C) I2 T st2 f2 hc hsc hok hg hi he hw ?_
 intro D C s' H' m I' q fC hn
 refine ⟨m, hn, fun h' hs' => ⟨.ref D, H', ?_, rfl, q⟩⟩
 obtain ⟨c0, c1, c2, c3, c4, c5⟩ := fC
 exact I'.turned (t' := s'.toks) (fun b o hb e => hs'.extBut b o hb e) c0 c1 c3 c4 c5
theorem ps_setComp (sc : Scope) (tgs frees : List Str) (js : List Nat) {wi : TI} {i : Nat} {x : Str} {pos' spos : Pos} (hN : X.N.Nodup) (hx : X.N[i]? = some x) (hl : X.env.scope.names.lookup x = some .local)
   (hp : PI X tg iter wi) (hc : X.calm = true) (hsc : X.env.scope = sc) (hok : compOk sc scope X.N tgs frees js = true)
   (hg : ∀ C s₀ H₀ fp, PG (compCx X (tgs ++ frees) scope C s₀ H₀ fp) tg g) (hi : ∀ C s₀ H₀ fp, PIfs (compCx X (tgs ++ frees) scope C s₀ H₀ fp) ifs tc) (he : ∀ C s₀ H₀ fp, PE (compCx X (tgs ++ frees) scope C s₀ H₀ fp) elt te)
   (hsw : swapsWith (.ListComp elt [⟨tg, iter, ifs, 0⟩] scope pos) (some (.Name x pos')) spos.line X.env = pure true := by with_unfolding_all rfl) (hs : ∀ x, foldedSetIterable iter X.env x = pure x := by intro _; rfl) :
   PS X (.Assign [.Name x pos'] (.ListComp elt [⟨tg, iter, ifs, 0⟩] scope pos) spos) (tAsg (tComp wi tgs.length js g tc te) (gName i)) := by
 intro pins s σ H D I h
 obtain ⟨k1, k2, k3, k4, k5, k6, k7⟩ := compOk_parts hok
 rw [exec_Assign_Name_used _ _ _ _ hsw]
 refine wpAny_bind (wpAny_standAt (wpAny_bind ?_))
 show wpAny _ X.A (do let _ ← comprehension (.ListComp elt [⟨tg, iter, ifs, 0⟩] scope pos) scope X.env _ (newList []) false (eval iter X.env) (some (assign (.Name x pos') X.env))) _ _ s
 refine wpAny_bind (wpAny_mono (wpAny_comprehension_free (use := some (assign (.Name x pos') X.env)) (Q := fun _ s' => SP X pins D .next s') rfl hs (comp_hfree I.ok hsc hok) k1 k4
   (thn (hp pins s σ H _ I h) fun v s1 h1 => thn h1 fun itv s2 h2 => ?_)) (fun _ s' hq => wpAny_pure (wpAny_pure hq)) fun _ _ e => e)
 obtain ⟨it, fp, tn, J, H2, e, I2, T, st2, f2, hw⟩ := h2
 subst e
 refine comp_block (RR := fun acc C => compPost (model X.prog X.w) X.A X.xe (some (assign (.Name x pos') X.env)) (fun _ s' => SP X pins D .next s') acc C) I2 T st2 f2 hc hsc hok hg hi he hw ?_
 intro D' C s' H' m I' q fC hn
 obtain ⟨c0, c1, c2, c3, c4, c5⟩ := fC
 show wpAny _ X.A (assign (.Name x pos') X.env (.ref D')) _ _ _
 refine wpAny_assign_Name (store_ok2 (v := V.ref D') I' hN hx (.inl hl) rfl (fun s3 I3 hb => ?_) (.inr hl))
 obtain ⟨a, sb, ha⟩ := hb
 have hCa : C ≠ a := by
   rcases ha with z | z
   · rw [z]; exact c1
   · exact (c4 x a z).symm
 refine ⟨m, hn.sameBut sb hCa, fun h' hs' => ⟨_, H', I3.turned (t' := s3.toks) (fun b o hb e => hs'.extBut b o hb e) c0 c1 c3 c4 c5, q⟩⟩
end
end L2
namespace L2
open PySem PySem.Spec PyProof.Rows
inductive KT where
 | int (i : Int) | tup (l : List KT)
instance : DecidableEq KT := fun _ _ => Classical.propDecidable _
def leafH : KT -> Int
 | .int i => hashInt i
 | .tup _ => 0
def hK : Nat -> KT -> Int
 | n + 1, .tup ks => reduceHash (Builtin.Tuple.tupleHashOf (ks.map (hK n)))
 | _, k => leafH k
def entsK : List KT -> List Addr -> List Value -> List DictEntry
 | k :: ks, a :: as, u :: us => ⟨hK 8 k, .ref a, u⟩ :: entsK ks as us
 | _, _, _ => []
def dictφ (a : Addr) (ks : List KT) (as : List Addr) (vs : List V) : Heap -> Prop := fun h =>
 ∃ us, Vals vs us /\ ∃ o es ep, h.get? a = some o /\ o.ExactDict /\ o.data = .dict es ep /\ es.toList = entsK ks as us
end L2
namespace L2
open PySem PySem.Spec PyProof.Rows
inductive D where
 | non | bl (b : Bool) | int (i : Int) | str (x : Str) | tup (ds : List D) | lst (ds : List D) | obj (c : Str) (ns : List Str) (ds : List D)
 /-- an exception of an own class -/
 | exc (c : Str) (ns : List Str) (ds : List D)
 deriving Inhabited
theorem Same.tup {K : PySem.W.Frag} {H H' : Hp} {a : Addr} {xs : List V} (e : Same H H') (h : SqT K H a xs) : SqT K H' a xs := by
 rcases h with (h | ⟨o, h⟩) | h
 · exact .inl (.inl (e _ _ h))
 · exact .inl (.inr ⟨o, e _ _ h⟩)
 · exact .inr h
def ClsAt (K : PySem.W.Frag) (c : Str) (C : Addr) : Prop := PySem.W.nsIn K mainGlobals c = some (some (.ref C))
theorem ClsAt.one {K : PySem.W.Frag} {c : Str} {C C' : Addr} (h : ClsAt K c C) (h' : ClsAt K c C') : C' = C := by
 have := h.symm.trans h'
 cases this; rfl
def Xe (C a : Addr) (od : Option Addr) : Heap -> Prop := fun h => ∃ fs, h.get? a = some { cls := .ref C, dict := od, data := .fields fs }
def Xd (dx : Addr) (fs : List (Str × V)) : Heap -> Prop := fun h => ∃ mA, h.Ns1 dx mA /\ ∀ f, RelO (fs.lookup f) (mA f)
def XD (G : Hp) : Option Addr -> List (Str × V) -> Prop
 | none, fs => fs = []
 | some dx, fs => G dx = some (.ext (Xd dx fs))
theorem XD.mono {G G' : Hp} (e : Same G G') : ∀ {od : Option Addr} {fs : List (Str × V)}, XD G od fs -> XD G' od fs
 | none, _, h => h
 | some _, _, h => e _ _ h
mutual
def Rep (K : PySem.W.Frag) (G : Hp) : D -> V -> Prop
 | .non, v => v = .non
 | .bl b, v => v = .bl b
 | .int i, v => v = .int i
 | .str x, v => v = .str x
 | .tup ds, v => ∃ a vs, v = .ref a /\ SqT K G a vs /\ Reps K G ds vs
 | .lst ds, v => ∃ a vs, v = .ref a /\ SqL K G a vs /\ Reps K G ds vs
 | .obj c ns ds, v => ∃ C a dx vs, ClsAt K c C /\ v = .ref a /\ G a = some (.ins C dx (ns.zip vs)) /\ ns.length = ds.length /\ Reps K G ds vs
 | .exc c ns ds, v => ∃ C a od vs, ClsAt K c C /\ v = .ref a /\ G a = some (.ext (Xe C a od)) /\ XD G od (ns.zip vs) /\ ns.length = ds.length /\ Reps K G ds vs
def Reps (K : PySem.W.Frag) (G : Hp) : List D -> List V -> Prop
 | [], vs => vs = []
 | d :: r, vs => ∃ v vr, vs = v :: vr /\ Rep K G d v /\ Reps K G r vr
end
section
variable {K : PySem.W.Frag} {G G' : Hp}
mutual
theorem Rep.mono (e : Same G G') : ∀ (d : D) (v : V), Rep K G d v -> Rep K G' d v
 | .non, _, h => by unfold Rep at h ⊢; exact h
 | .bl _, _, h => by unfold Rep at h ⊢; exact h
 | .int _, _, h => by unfold Rep at h ⊢; exact h
 | .str _, _, h => by unfold Rep at h ⊢; exact h
 | .tup ds, _, h => by
   unfold Rep at h ⊢
   obtain ⟨a, vs, h1, h2, h3⟩ := h
   exact ⟨a, vs, h1, e.tup h2, Reps.mono e ds vs h3⟩
 | .lst ds, _, h => by
   unfold Rep at h ⊢
   obtain ⟨a, vs, h1, h2, h3⟩ := h
   exact ⟨a, vs, h1, e.seq h2, Reps.mono e ds vs h3⟩
 | .obj C ns ds, _, h => by
   unfold Rep at h ⊢
   obtain ⟨C, a, dx, vs, h0, h1, h2, h4, h3⟩ := h
   exact ⟨C, a, dx, vs, h0, h1, e _ _ h2, h4, Reps.mono e ds vs h3⟩
 | .exc C ns ds, _, h => by
   unfold Rep at h ⊢
   obtain ⟨C, a, od, vs, h0, h1, h2, h5, h4, h3⟩ := h
   exact ⟨C, a, od, vs, h0, h1, e _ _ h2, h5.mono e, h4, Reps.mono e ds vs h3⟩
theorem Reps.mono (e : Same G G') : ∀ (ds : List D) (vs : List V), Reps K G ds vs -> Reps K G' ds vs
 | [], _, h => by unfold Reps at h ⊢; exact h
 | d :: r, _, h => by
   unfold Reps at h ⊢
   obtain ⟨v, vr, h1, h2, h3⟩ := h
   exact ⟨v, vr, h1, Rep.mono e d v h2, Reps.mono e r vr h3⟩
end
theorem rep_non {v : V} : Rep K G .non v ↔ v = .non := by unfold Rep; exact Iff.rfl
theorem rep_bl {b : Bool} {v : V} : Rep K G (.bl b) v ↔ v = .bl b := by unfold Rep; exact Iff.rfl
theorem rep_int {i : Int} {v : V} : Rep K G (.int i) v ↔ v = .int i := by unfold Rep; exact Iff.rfl
theorem rep_str {x : Str} {v : V} : Rep K G (.str x) v ↔ v = .str x := by unfold Rep; exact Iff.rfl
theorem rep_tup {ds : List D} {v : V} : Rep K G (.tup ds) v ↔ ∃ a vs, v = .ref a /\ SqT K G a vs /\ Reps K G ds vs := by
 constructor <;> (intro h; unfold Rep at *; exact h)
theorem rep_lst {ds : List D} {v : V} : Rep K G (.lst ds) v ↔ ∃ a vs, v = .ref a /\ SqL K G a vs /\ Reps K G ds vs := by
 constructor <;> (intro h; unfold Rep at *; exact h)
theorem rep_obj {c : Str} {ns : List Str} {ds : List D} {v : V} : Rep K G (.obj c ns ds) v ↔ ∃ C a dx vs, ClsAt K c C /\ v = .ref a /\ G a = some (.ins C dx (ns.zip vs)) /\ ns.length = ds.length /\ Reps K G ds vs := by
 constructor <;> (intro h; unfold Rep at *; exact h)
theorem rep_exc {c : Str} {ns : List Str} {ds : List D} {v : V} : Rep K G (.exc c ns ds) v ↔ ∃ C a od vs, ClsAt K c C /\ v = .ref a /\ G a = some (.ext (Xe C a od)) /\ XD G od (ns.zip vs) /\ ns.length = ds.length /\ Reps K G ds vs := by
 constructor <;> (intro h; unfold Rep at *; exact h)
theorem reps_nil {vs : List V} : Reps K G [] vs ↔ vs = [] := by unfold Reps; exact Iff.rfl
theorem reps_cons {d : D} {r : List D} {vs : List V} : Reps K G (d :: r) vs ↔ ∃ v vr, vs = v :: vr /\ Rep K G d v /\ Reps K G r vr := by
 rw [Reps]
theorem Reps.length : ∀ {ds : List D} {vs : List V}, Reps K G ds vs -> ds.length = vs.length
 | [], _, h => by rw [reps_nil] at h; rw [h]; rfl
 | d :: r, _, h => by
   rw [reps_cons] at h
   obtain ⟨v, vr, rfl, _, h3⟩ := h
   rw [List.length_cons, List.length_cons, Reps.length h3]
theorem Reps.get : ∀ {ds : List D} {vs : List V} {i : Nat} {d : D}, Reps K G ds vs -> ds[i]? = some d -> ∃ v, vs[i]? = some v /\ Rep K G d v
 | [], _, _, _, _, e => by simp at e
 | d :: r, _, 0, _, h, e => by
   rw [reps_cons] at h
   obtain ⟨v, vr, rfl, h2, h3⟩ := h
   simp at e; subst e
   exact ⟨v, rfl, h2⟩
 | d :: r, _, i + 1, _, h, e => by
   rw [reps_cons] at h
   obtain ⟨v, vr, rfl, h2, h3⟩ := h
   obtain ⟨u, e1, e2⟩ := Reps.get h3 (by simpa using e)
   exact ⟨u, by simpa using e1, e2⟩
theorem Reps.snoc : ∀ {ds : List D} {vs : List V} {d : D} {v : V}, Reps K G ds vs -> Rep K G d v -> Reps K G (ds ++ [d]) (vs ++ [v])
 | [], _, d, v, h, r => by
   rw [reps_nil] at h; subst h
   exact reps_cons.mpr ⟨v, [], rfl, r, reps_nil.mpr rfl⟩
 | e :: t, _, d, v, h, r => by
   rw [reps_cons] at h
   obtain ⟨u, vr, rfl, h2, h3⟩ := h
   exact reps_cons.mpr ⟨u, vr ++ [v], rfl, h2, h3.snoc r⟩
theorem Reps.append : ∀ {ds es : List D} {vs us : List V}, Reps K G ds vs -> Reps K G es us -> Reps K G (ds ++ es) (vs ++ us)
 | [], _, _, _, h, r => by rw [reps_nil] at h; subst h; exact r
 | e :: t, _, _, us, h, r => by
   rw [reps_cons] at h
   obtain ⟨u, vr, rfl, h2, h3⟩ := h
   exact reps_cons.mpr ⟨u, vr ++ us, rfl, h2, h3.append r⟩
theorem Reps.take : ∀ {ds : List D} {vs : List V} (n : Nat), Reps K G ds vs -> Reps K G (ds.take n) (vs.take n)
 | _, _, 0, _ => by rw [List.take_zero, List.take_zero]; exact reps_nil.mpr rfl
 | [], _, _ + 1, h => by rw [reps_nil] at h; subst h; exact reps_nil.mpr rfl
 | e :: t, _, n + 1, h => by
   rw [reps_cons] at h
   obtain ⟨u, vr, rfl, h2, h3⟩ := h
   exact reps_cons.mpr ⟨u, vr.take n, rfl, h2, h3.take n⟩
theorem Reps.drop : ∀ {ds : List D} {vs : List V} (n : Nat), Reps K G ds vs -> Reps K G (ds.drop n) (vs.drop n)
 | _, _, 0, h => h
 | [], _, _ + 1, h => by rw [reps_nil] at h; subst h; exact reps_nil.mpr rfl
 | e :: t, _, n + 1, h => by
   rw [reps_cons] at h
   obtain ⟨u, vr, rfl, h2, h3⟩ := h
   exact h3.drop n
theorem Reps.set : ∀ {ds : List D} {vs : List V} {d : D} {v : V} (i : Nat), Reps K G ds vs -> Rep K G d v -> Reps K G (ds.set i d) (vs.set i v)
 | [], _, _, _, _, h, _ => by rw [reps_nil] at h; subst h; exact reps_nil.mpr rfl
 | e :: t, _, d, v, 0, h, r => by
   rw [reps_cons] at h
   obtain ⟨u, vr, rfl, h2, h3⟩ := h
   exact reps_cons.mpr ⟨v, vr, rfl, r, h3⟩
 | e :: t, _, d, v, i + 1, h, r => by
   rw [reps_cons] at h
   obtain ⟨u, vr, rfl, h2, h3⟩ := h
   exact reps_cons.mpr ⟨u, vr.set i v, rfl, h2, h3.set i r⟩
theorem Reps.erase : ∀ {ds : List D} {vs : List V} (i : Nat), Reps K G ds vs -> Reps K G (ds.eraseIdx i) (vs.eraseIdx i)
 | [], _, _, h => by rw [reps_nil] at h; subst h; exact reps_nil.mpr rfl
 | e :: t, _, 0, h => by
   rw [reps_cons] at h
   obtain ⟨u, vr, rfl, h2, h3⟩ := h
   exact h3
 | e :: t, _, i + 1, h => by
   rw [reps_cons] at h
   obtain ⟨u, vr, rfl, h2, h3⟩ := h
   exact reps_cons.mpr ⟨u, vr.eraseIdx i, rfl, h2, h3.erase i⟩
end
structure Step (G H G' H' : Hp) : Prop where
 hh : Same H H'
 gg : Same G G'
 sub : Same G' H'
 new : ∀ a, H a ≠ none -> G' a = G a
theorem Step.refl {G H : Hp} (h : Same G H) : Step G H G H := ⟨Same.refl _, Same.refl _, h, fun _ _ => rfl⟩
theorem Step.trans {G H G1 H1 G2 H2 : Hp} (a : Step G H G1 H1) (b : Step G1 H1 G2 H2) : Step G H G2 H2 :=
 ⟨a.hh.trans b.hh, a.gg.trans b.gg, b.sub, fun c hc => (b.new c (fun z => hc (a.hh.free z))).trans (a.new c hc)⟩
theorem Same.new {H : Hp} {p : Addr} {o : HO} (hp : H p = none) : Same H (upd H p o) := fun b u e => by rw [upd_ne (ne_of_none e hp)]; exact e
theorem Step.laid {G H : Hp} {p : Addr} {o : HO} (s : Same G H) (hp : H p = none) : Step G H (upd G p o) (upd H p o) := by
 refine ⟨Same.new hp, Same.new (s.free hp), fun b u e => ?_, fun a ha => ?_⟩
 · by_cases hb : b = p
   · subst hb; rw [upd_same] at e ⊢; exact e
   · rw [upd_ne hb] at e ⊢; exact s b u e
 · exact upd_ne (fun z : a = p => ha (by rw [z]; exact hp))
theorem Step.own {G H : Hp} {p : Addr} {o : HO} (s : Same G H) (hp : H p = none) : Step G H G (upd H p o) :=
 ⟨Same.new hp, Same.refl _, s.trans (Same.new hp), fun _ _ => rfl⟩
theorem Step.frz {G H G' H' : Hp} {p : Addr} {o : HO} (s : Step G H G' H') (hp : H p = none) (h' : H' p = some o) (g' : G' p = none) : Step G H (upd G' p o) H' := by
 refine ⟨s.hh, s.gg.trans (Same.new g'), fun b u e => ?_, fun a ha => ?_⟩
 · by_cases hb : b = p
   · subst hb; rw [upd_same] at e; rw [h']; exact e
   · rw [upd_ne hb] at e; exact s.sub b u e
 · rw [upd_ne (fun z : a = p => ha (by rw [z]; exact hp))]; exact s.new a ha
inductive B where
 | no | fz (d : D) | ow (ds : List D)
 /-- a dict of its own: keys and values -/
 | od (kvs : List (D × D))
 deriving Inhabited
def ktDs (f : D -> Option KT) : List D -> Option (List KT)
 | [] => some []
 | d :: r => (f d).bind fun k => (ktDs f r).map fun ks => k :: ks
def ktD : Nat -> D -> Option KT
 | _, .int i => some (.int i)
 | _, .bl b => some (.int (if b then 1 else 0))
 | n + 1, .tup ds => (ktDs (ktD n) ds).map .tup
 | _, _ => none
inductive ODs (K : PySem.W.Frag) (G : Hp) : List (D × D) -> List KT -> List Addr -> List V -> Prop
 | nil : ODs K G [] [] [] []
 | cons {d e : D} {k : KT} {a : Addr} {v : V} {kvs : List (D × D)} {ks : List KT} {as : List Addr} {vs : List V} : ktD 8 d = some k -> Rep K G d (.ref a) -> Rep K G e v -> ODs K G kvs ks as vs -> ODs K G ((d, e) :: kvs) (k :: ks) (a :: as) (v :: vs)
theorem ODs.mono {K : PySem.W.Frag} {G G' : Hp} (h : Same G G') : ∀ {kvs ks as vs}, ODs K G kvs ks as vs -> ODs K G' kvs ks as vs
 | _, _, _, _, .nil => .nil
 | _, _, _, _, .cons h1 h2 h3 h4 => .cons h1 (h2.mono h) (h3.mono h) (ODs.mono h h4)
inductive RB (K : PySem.W.Frag) (H0 G H : Hp) : Option V -> B -> Prop where
 | no {o : Option V} : RB K H0 G H o .no
 | fz {v : V} {d : D} : Rep K G d v -> RB K H0 G H (some v) (.fz d)
 | ow {a : Addr} {vs : List V} {ds : List D} : H a = some (.lst vs) -> G a = none -> H0 a = none -> Reps K G ds vs -> RB K H0 G H (some (.ref a)) (.ow ds)
 | od {a : Addr} {kvs : List (D × D)} {ks : List KT} {as : List Addr} {vs : List V} : H a = some (.ext (dictφ a ks as vs)) -> G a = none -> H0 a = none -> ODs K G kvs ks as vs -> ks.Nodup -> (a == sysModules) = false -> RB K H0 G H (some (.ref a)) (.od kvs)
structure Good (K : PySem.W.Frag) (G0 H0 G H : Hp) (σ : St) (ρ : List B) : Prop where
 st : Step G0 H0 G H
 vals : Paired (RB K H0 G H) σ ρ
 apart : ∀ (i j : Nat) (a : Addr) (ds es : List D), ρ[i]? = some (.ow ds) -> ρ[j]? = some (.ow es) -> σ[i]? = some (some (.ref a)) -> σ[j]? = some (some (.ref a)) -> i = j
theorem Paired.get {α β : Type} {F : α -> β -> Prop} : ∀ {l : List α} {r : List β} {i : Nat} {b : β}, Paired F l r -> r[i]? = some b -> ∃ a, l[i]? = some a /\ F a b
 | _, _, _, _, .nil, e => by simp at e
 | _, _, 0, _, .cons h _, e => by simp at e; subst e; exact ⟨_, rfl, h⟩
 | _, _, i + 1, b, .cons _ t, e => by
   obtain ⟨a, h1, h2⟩ := Paired.get (i := i) (b := b) t (by simpa using e)
   exact ⟨a, by simpa using h1, h2⟩
theorem Paired.set {α β : Type} {F : α -> β -> Prop} {a : α} {b : β} (h : F a b) : ∀ {l : List α} {r : List β} (i : Nat), Paired F l r -> Paired F (l.set i a) (r.set i b)
 | _, _, _, .nil => .nil
 | _, _, 0, .cons _ t => .cons h t
 | _, _, i + 1, .cons q t => .cons q (Paired.set h i t)
theorem RB.step {K : PySem.W.Frag} {H0 G H G' H' : Hp} {o : Option V} {b : B} (r : RB K H0 G H o b) (s : Step G H G' H') : RB K H0 G' H' o b := by
 cases r with
 | no => exact .no
 | fz q => exact .fz (q.mono s.gg)
 | ow h1 h2 h3 h4 => exact .ow (s.hh _ _ h1) ((s.new _ (by rw [h1]; exact fun z => nomatch z)).trans h2) h3 (h4.mono s.gg)
 | od h1 h2 h3 h4 h5 h6 => exact .od (s.hh _ _ h1) ((s.new _ (by rw [h1]; exact fun z => nomatch z)).trans h2) h3 (h4.mono s.gg) h5 h6
theorem Good.step {K : PySem.W.Frag} {G0 H0 G H G' H' : Hp} {σ : St} {ρ : List B} (g : Good K G0 H0 G H σ ρ) (s : Step G H G' H') : Good K G0 H0 G' H' σ ρ :=
 ⟨g.st.trans s, Paired.mapP g.vals fun _ _ r => r.step s, g.apart⟩
theorem Good.sub {K : PySem.W.Frag} {G0 H0 G H : Hp} {σ : St} {ρ : List B} (g : Good K G0 H0 G H σ ρ) : Same G H := g.st.sub
abbrev Ef := List B -> Option D
def tF (K : PySem.W.Frag) (f : Ef) : TE := fun σ H Q => ∃ G0 H0 G ρ d, Good K G0 H0 G H σ ρ /\ f ρ = some d /\ ∀ v H' G', Step G H G' H' -> Rep K G' d v -> Q v H'
def PF (X : Cx) (e : Expr) (f : Ef) : Prop := PE X e (tF X.K f)
theorem PE.to {X : Cx} {e : Expr} {t : TE} {f : Ef} (h : PE X e t) (imp : ∀ σ H Q, tF X.K f σ H Q -> t σ H Q) : PF X e f := fun pins s σ H Q I q => h pins s σ H Q I (imp σ H Q q)
abbrev Lf := List B -> Option (List D)
def tFr (K : PySem.W.Frag) (f : Lf) : TE := fun σ H Q => ∃ G0 H0 G ρ ds, Good K G0 H0 G H σ ρ /\ f ρ = some ds /\ ∀ a vs H' G', Step G H G' H' -> H a = none -> H' a = some (.lst vs) -> G' a = none -> Reps K G' ds vs -> Q (.ref a) H'
def PFr (X : Cx) (e : Expr) (f : Lf) : Prop := PE X e (tFr X.K f)
theorem PE.toR {X : Cx} {e : Expr} {t : TE} {f : Lf} (h : PE X e t) (imp : ∀ σ H Q, tFr X.K f σ H Q -> t σ H Q) : PFr X e f := fun pins s σ H Q I q => h pins s σ H Q I (imp σ H Q q)
def eL (f : Lf) : Ef := fun ρ => (f ρ).map .lst
theorem pf_l {X : Cx} {e : Expr} {f : Lf} (h : PFr X e f) : PF X e (eL f) := by
 refine PE.to h ?_
 rintro σ H Q ⟨G0, H0, G, ρ, d, good, hf, k⟩
 unfold eL at hf
 obtain ⟨ds, h1, rfl⟩ := Option.map_eq_some_iff.mp hf
 refine ⟨G0, H0, G, ρ, ds, good, h1, fun a vs H' G' s hn ha ga rs => ?_⟩
 exact k _ _ (upd G' a (.lst vs)) (s.frz hn ha ga) (rep_lst.mpr ⟨a, vs, rfl, .of upd_same, rs.mono (Same.new ga)⟩)
abbrev Tf := List B -> Option Bool
def tFT (K : PySem.W.Frag) (f : Tf) : TT := fun σ H Q => ∃ G0 H0 G ρ b, Good K G0 H0 G H σ ρ /\ f ρ = some b /\ ∀ H' G', Step G H G' H' -> Q b H'
def PFT (X : Cx) (e : Expr) (f : Tf) : Prop := PT X e (tFT X.K f)
theorem PT.to {X : Cx} {e : Expr} {t : TT} {f : Tf} (h : PT X e t) (imp : ∀ σ H Q, tFT X.K f σ H Q -> t σ H Q) : PFT X e f := fun pins s σ H Q I q => h pins s σ H Q I (imp σ H Q q)
def PFW (X : Cx) (e : Expr) (f : Tf) : Prop := PW X e (tFT X.K f)
def tFA (K : PySem.W.Frag) (f : Lf) : TA := fun σ H Q => ∃ G0 H0 G ρ ds, Good K G0 H0 G H σ ρ /\ f ρ = some ds /\ ∀ vs H' G', Step G H G' H' -> Reps K G' ds vs -> Q vs H'
def PFA (X : Cx) (es : List Expr) (f : Lf) : Prop := PA X es (tFA X.K f)
theorem PA.to {X : Cx} {es : List Expr} {t : TA} {f : Lf} (h : PA X es t) (imp : ∀ σ H Q, tFA X.K f σ H Q -> t σ H Q) : PFA X es f := fun pos pins s σ H Q I q => h pos pins s σ H Q I (imp σ H Q q)
section
variable {X : Cx} {a b c e : Expr} {es : List Expr} {fa fb fc : Ef} {ga gb : Lf} {ta tb : Tf} {pos : Pos}
def getB (ρ : List B) (i : Nat) : Option D := match ρ[i]? with | some (.fz d) => some d | _ => none
def eV (i : Nat) : Ef := fun ρ => getB ρ i
theorem getB_good {K : PySem.W.Frag} {G0 H0 G H : Hp} {σ : St} {ρ : List B} {i : Nat} {d : D} (g : Good K G0 H0 G H σ ρ) (h : getB ρ i = some d) : ∃ v, σ[i]? = some (some v) /\ Rep K G d v := by
 unfold getB at h
 split at h
 · rename_i d' e
   cases h
   obtain ⟨o, h1, r⟩ := Paired.get g.vals e
   cases r with
   | fz r => exact ⟨_, h1, r⟩
 · cases h
theorem pf_v (i : Nat) {x : Str} (hN : X.N[i]? = some x := by rfl) (hv : Vis X.env.scope x := by first | exact Or.inl rfl | exact Or.inr (Or.inl rfl) | exact Or.inr (Or.inr rfl)) (hd : (x == ("__debug__" : Str)) = false := by decide) (hcd : (x == ("__classdict__" : Str)) = false := by decide) : PF X (.Name x pos) (eV i) := by
 refine PE.to (pe_var hN hv hd hcd) ?_
 rintro σ H Q ⟨G0, H0, G, ρ, d, good, hf, k⟩
 obtain ⟨v, h1, r⟩ := getB_good good hf
 exact ⟨v, h1, k v H G (.refl good.sub) r⟩
def eC (d : D) : Ef := fun _ => some d
theorem pf_cst {v : V} {d : D} (h : PE X e (tC v)) (r : ∀ G, Rep X.K G d v) : PF X e (eC d) := by
 refine PE.to h ?_
 rintro σ H Q ⟨G0, H0, G, ρ, d', good, hf, k⟩
 cases hf
 exact k v H G (.refl good.sub) (r G)
theorem pf_int {i : Int} {j : Nat} : PF X (.Constant (.int i) j pos) (eC (.int i)) := pf_cst pe_int fun _ => rep_int.mpr rfl
theorem pf_bl {i : Bool} {j : Nat} : PF X (.Constant (.bool i) j pos) (eC (.bl i)) := pf_cst pe_bl fun _ => rep_bl.mpr rfl
theorem pf_non {j : Nat} : PF X (.Constant .none j pos) (eC .non) := pf_cst pe_non fun _ => rep_non.mpr rfl
theorem pf_str {x : Str} {j : Nat} : PF X (.Constant (.str x) j pos) (eC (.str x)) := pf_cst pe_str fun _ => rep_str.mpr rfl
def eI (C : Int -> Int -> Bool) (g : Int -> Int -> Int) (fa fb : Ef) : Ef := fun ρ => (fa ρ).bind fun x => (fb ρ).bind fun y => match x, y with | .int i, .int j => if C i j then some (.int (g i j)) else none | _, _ => none
theorem eI_inv {C : Int -> Int -> Bool} {g : Int -> Int -> Int} {ρ : List B} {d : D} (h : eI C g fa fb ρ = some d) : ∃ i j, fa ρ = some (.int i) /\ fb ρ = some (.int j) /\ C i j = true /\ d = .int (g i j) := by
 unfold eI at h
 obtain ⟨x, h1, h⟩ := Option.bind_eq_some_iff.mp h
 obtain ⟨y, h2, h⟩ := Option.bind_eq_some_iff.mp h
 cases x with
 | int i =>
   cases y with
   | int j =>
     dsimp only at h
     split at h
     · rename_i hc; cases h; exact ⟨i, j, h1, h2, hc, rfl⟩
     · cases h
   | _ => cases h
 | _ => cases h
theorem pf_i {op : Operator} {C : Int -> Int -> Bool} {P : Int -> Int -> Prop} {g : Int -> Int -> Int} (ho : OpR X (binaryOp op) (rI P fun i j => .int (g i j))) (hP : ∀ i j, C i j = true -> P i j) (ha : PF X a fa) (hb : PF X b fb) : PF X (.BinOp a op b pos) (eI C g fa fb) := by
 refine PE.to (pe_op ho ha hb) ?_
 rintro σ H Q ⟨G0, H0, G, ρ, d, good, hf, k⟩
 obtain ⟨i, j, h1, h2, hc, rfl⟩ := eI_inv hf
 refine ⟨G0, H0, G, ρ, _, good, h1, fun x H1 G1 s1 r1 => ⟨G0, H0, G1, ρ, _, good.step s1, h2, fun y H2 G2 s2 r2 => ?_⟩⟩
 exact ⟨i, j, rep_int.mp r1, rep_int.mp r2, hP i j hc, k _ _ G2 (s1.trans s2) (rep_int.mpr rfl)⟩
theorem pf_i0 {op : Operator} {g : Int -> Int -> Int} (ho : OpR X (binaryOp op) (rI0 fun i j => .int (g i j))) (ha : PF X a fa) (hb : PF X b fb) : PF X (.BinOp a op b pos) (eI (fun _ _ => true) g fa fb) := by
 refine PE.to (pe_op ho ha hb) ?_
 rintro σ H Q ⟨G0, H0, G, ρ, d, good, hf, k⟩
 obtain ⟨i, j, h1, h2, hc, rfl⟩ := eI_inv hf
 refine ⟨G0, H0, G, ρ, _, good, h1, fun x H1 G1 s1 r1 => ⟨G0, H0, G1, ρ, _, good.step s1, h2, fun y H2 G2 s2 r2 => ?_⟩⟩
 exact ⟨i, j, rep_int.mp r1, rep_int.mp r2, k _ _ G2 (s1.trans s2) (rep_int.mpr rfl)⟩
abbrev eAdd := eI (fun _ _ => true) (fun i j => i + j)
abbrev eSub := eI (fun _ _ => true) (fun i j => i - j)
def cMul (i j : Int) : Bool := (decide (-(2 ^ 64) < i) && decide (i < 2 ^ 64)) || (decide (-(2 ^ 64) < j) && decide (j < 2 ^ 64))
abbrev eMul := eI cMul (fun i j => i * j)
def cDiv (_ j : Int) : Bool := decide (0 < j) && decide (j < 1073741824)
abbrev eDiv := eI cDiv (fun i j => i / j)
abbrev eMod := eI (fun _ j => decide (0 < j)) (fun i j => i % j)
def cPow (i j : Int) : Bool := decide (0 <= j) && decide (j <= 1000000) && decide (i.natAbs < 2 ^ 64)
abbrev ePow := eI cPow (fun i j => i ^ j.toNat)
abbrev eXor := eI (fun _ _ => true) (fun i j => Builtin.bitXor i j)
theorem pf_add (ha : PF X a fa) (hb : PF X b fb) : PF X (.BinOp a .Add b pos) (eAdd fa fb) := pf_i0 op_add ha hb
theorem pf_sub (ha : PF X a fa) (hb : PF X b fb) : PF X (.BinOp a .Sub b pos) (eSub fa fb) := pf_i0 op_sub ha hb
theorem pf_mul (ha : PF X a fa) (hb : PF X b fb) : PF X (.BinOp a .Mult b pos) (eMul fa fb) := pf_i op_mul (fun i j h => by
 unfold cMul at h
 simp only [Bool.or_eq_true, Bool.and_eq_true, decide_eq_true_eq] at h
 exact h) ha hb
theorem pf_div (ha : PF X a fa) (hb : PF X b fb) : PF X (.BinOp a .FloorDiv b pos) (eDiv fa fb) := pf_i op_fdiv (fun i j h => by
 unfold cDiv at h
 simp only [Bool.and_eq_true, decide_eq_true_eq] at h
 exact h) ha hb
theorem pf_mod (ha : PF X a fa) (hb : PF X b fb) : PF X (.BinOp a .Mod b pos) (eMod fa fb) := pf_i op_mod (fun i j h => of_decide_eq_true h) ha hb
theorem cPow_ok {i j : Int} (h : cPow i j = true) : CPow i j := by
 unfold cPow at h
 simp only [Bool.and_eq_true, decide_eq_true_eq] at h
 exact ⟨h.1.1, h.1.2, h.2⟩
theorem pf_pow (ha : PF X a fa) (hb : PF X b fb) : PF X (.BinOp a .Pow b pos) (ePow fa fb) := pf_i op_pow (fun i j h => cPow_ok h) ha hb
theorem pf_xor (ha : PF X a fa) (hb : PF X b fb) : PF X (.BinOp a .BitXor b pos) (eXor fa fb) := pf_i0 op_xor ha hb
def eNeg (fa : Ef) : Ef := fun ρ => (fa ρ).bind fun x => match x with | .int i => some (.int (-i)) | _ => none
theorem pf_neg (ha : PF X a fa) : PF X (.UnaryOp .USub a pos) (eNeg fa) := by
 refine PE.to (pe_un un_neg ha) ?_
 rintro σ H Q ⟨G0, H0, G, ρ, d, good, hf, k⟩
 unfold eNeg at hf
 obtain ⟨x, h1, hf⟩ := Option.bind_eq_some_iff.mp hf
 split at hf
 · rename_i i
   cases hf
   exact ⟨G0, H0, G, ρ, _, good, h1, fun x H1 G1 s1 r1 => ⟨i, rep_int.mp r1, k _ _ G1 s1 (rep_int.mpr rfl)⟩⟩
 · cases hf
def eB2 (g : D -> D -> Option Bool) (fa fb : Ef) : Tf := fun ρ => (fa ρ).bind fun x => (fb ρ).bind fun y => g x y
def eOfT (t : Tf) : Ef := fun ρ => (t ρ).map .bl
def gLt : D -> D -> Option Bool | .int i, .int j => some (decide (i < j)) | _, _ => none
def gLe : D -> D -> Option Bool | .int i, .int j => some (decide (i <= j)) | _, _ => none
def gGt : D -> D -> Option Bool | .int i, .int j => some (decide (j < i)) | _, _ => none
def gEq : D -> D -> Option Bool
 | .int i, .int j => some (decide (i = j))
 | .bl i, .bl j => some (decide (i = j))
 | .str i, .str j => some (decide (i = j))
 | _, _ => none
def gNe (x y : D) : Option Bool := (gEq x y).map (!·)
def CmR (X : Cx) (op : CmpOp) (g : D -> D -> Option Bool) : Prop := ∃ r : R2, OpR X (compareOp op) r /\ ∀ (d d' : D) (k : Bool) (G H : Hp) (x y : V) (Q : VK), g d d' = some k -> Same G H -> Rep X.K G d x -> Rep X.K G d' y -> (∀ H' G', Step G H G' H' -> Q (.bl k) H') -> r x y H Q
theorem cm_int {op : CmpOp} {p : Int -> Int -> Bool} {g : D -> D -> Option Bool} (ho : OpR X (compareOp op) (rI0 fun i j => .bl (p i j))) (hg : ∀ d d' k, g d d' = some k -> ∃ i j, d = .int i /\ d' = .int j /\ k = p i j) : CmR X op g := by
 refine ⟨_, ho, fun d d' k G H x y Q h s rx ry q => ?_⟩
 obtain ⟨i, j, rfl, rfl, rfl⟩ := hg d d' k h
 exact ⟨i, j, rep_int.mp rx, rep_int.mp ry, q H G (.refl s)⟩
theorem cm_lt : CmR X .Lt gLt := cm_int op_lt fun d d' k h => by unfold gLt at h; split at h <;> cases h; exact ⟨_, _, rfl, rfl, rfl⟩
theorem cm_le : CmR X .LtE gLe := cm_int op_le fun d d' k h => by unfold gLe at h; split at h <;> cases h; exact ⟨_, _, rfl, rfl, rfl⟩
theorem cm_gt : CmR X .Gt gGt := cm_int op_gt fun d d' k h => by unfold gGt at h; split at h <;> cases h; exact ⟨_, _, rfl, rfl, rfl⟩
theorem gEq_sc {d d' : D} {k : Bool} {K : PySem.W.Frag} {G : Hp} {x y : V} (h : gEq d d' = some k) (rx : Rep K G d x) (ry : Rep K G d' y) : scal x y = true /\ decide (x = y) = k := by
 unfold gEq at h
 split at h
 · cases h; rw [rep_int] at rx ry; subst rx; subst ry; exact ⟨rfl, by simp⟩
 · cases h; rw [rep_bl] at rx ry; subst rx; subst ry; exact ⟨rfl, by simp⟩
 · cases h; rw [rep_str] at rx ry; subst rx; subst ry; exact ⟨rfl, by simp⟩
 · cases h
theorem cm_eq : CmR X .Eq gEq := ⟨_, op_eq, fun d d' k G H x y Q h s rx ry q => by
 obtain ⟨h1, h2⟩ := gEq_sc h rx ry
 exact ⟨h1, by rw [h2]; exact q H G (.refl s)⟩⟩
theorem cm_ne : CmR X .NotEq gNe := ⟨_, op_ne, fun d d' k G H x y Q h s rx ry q => by
 unfold gNe at h
 obtain ⟨k', h', rfl⟩ := Option.map_eq_some_iff.mp h
 obtain ⟨h1, h2⟩ := gEq_sc h' rx ry
 exact ⟨h1, by rw [h2]; exact q H G (.refl s)⟩⟩
theorem eB2_inv {g : D -> D -> Option Bool} {ρ : List B} {k : Bool} (h : eB2 g fa fb ρ = some k) : ∃ x y, fa ρ = some x /\ fb ρ = some y /\ g x y = some k := by
 unfold eB2 at h
 obtain ⟨x, h1, h⟩ := Option.bind_eq_some_iff.mp h
 obtain ⟨y, h2, h⟩ := Option.bind_eq_some_iff.mp h
 exact ⟨x, y, h1, h2, h⟩
theorem eOfT_inv {t : Tf} {ρ : List B} {d : D} (h : eOfT t ρ = some d) : ∃ k, t ρ = some k /\ d = .bl k := by
 unfold eOfT at h
 obtain ⟨k, h1, rfl⟩ := Option.map_eq_some_iff.mp h
 exact ⟨k, h1, rfl⟩
theorem pf_cmp {op : CmpOp} {g : D -> D -> Option Bool} (hc : CmR X op g) (ha : PF X a fa) (hb : PF X b fb) (hm : behindInMarks op b = false := by first | exact nomark _ | (with_unfolding_all rfl)) : PF X (.Compare a [op] [b] pos) (eOfT (eB2 g fa fb)) := by
 obtain ⟨r, ho, hr⟩ := hc
 refine PE.to (pe_cmpR ho ha hb hm) ?_
 rintro σ H Q ⟨G0, H0, G, ρ, d, good, hf, k⟩
 obtain ⟨c, hf2, rfl⟩ := eOfT_inv hf
 obtain ⟨x, y, h1, h2, h3⟩ := eB2_inv hf2
 refine ⟨G0, H0, G, ρ, _, good, h1, fun u H1 G1 s1 r1 => ⟨G0, H0, G1, ρ, _, good.step s1, h2, fun v H2 G2 s2 r2 => ?_⟩⟩
 exact hr x y c G2 H2 u v Q h3 s2.sub (r1.mono s2.gg) r2 fun H' G' s3 => k _ _ G' ((s1.trans s2).trans s3) (rep_bl.mpr rfl)
theorem pt_cmpF {op : CmpOp} {g : D -> D -> Option Bool} (hc : CmR X op g) (ha : PF X a fa) (hb : PF X b fb) (hm : behindInMarks op b = false := by first | exact nomark _ | (with_unfolding_all rfl)) : PFT X (.Compare a [op] [b] pos) (eB2 g fa fb) := by
 obtain ⟨r, ho, hr⟩ := hc
 refine PT.to (pt_cmpR ho ha hb hm) ?_
 rintro σ H Q ⟨G0, H0, G, ρ, c, good, hf, k⟩
 obtain ⟨x, y, h1, h2, h3⟩ := eB2_inv hf
 refine ⟨G0, H0, G, ρ, _, good, h1, fun u H1 G1 s1 r1 => ⟨G0, H0, G1, ρ, _, good.step s1, h2, fun v H2 G2 s2 r2 => ?_⟩⟩
 exact hr x y c G2 H2 u v _ h3 s2.sub (r1.mono s2.gg) r2 fun H' G' s3 => ⟨c, rfl, k _ G' ((s1.trans s2).trans s3)⟩
def isNon : D -> Bool | .non => true | _ => false
theorem rep_isNon {K : PySem.W.Frag} {G : Hp} {d : D} {v : V} (r : Rep K G d v) : decide (v = .non) = isNon d := by
 cases d with
 | non => rw [rep_non] at r; subst r; rfl
 | bl b => rw [rep_bl] at r; subst r; simp [isNon]
 | int b => rw [rep_int] at r; subst r; simp [isNon]
 | str b => rw [rep_str] at r; subst r; simp [isNon]
 | tup ds => obtain ⟨p, _, rfl, _⟩ := rep_tup.mp r; simp [isNon]
 | lst ds => obtain ⟨p, _, rfl, _⟩ := rep_lst.mp r; simp [isNon]
 | obj C ns ds => obtain ⟨_, p, _, _, _, rfl, _⟩ := rep_obj.mp r; simp [isNon]
 | exc C ns ds => obtain ⟨_, p, _, _, _, rfl, _⟩ := rep_exc.mp r; simp [isNon]
def tB1 (f : Ef) : Tf := fun ρ => (f ρ).bind fun x => match x with | .bl k => some k | _ => none
theorem tB1_inv {f : Ef} {ρ : List B} {k : Bool} (h : tB1 f ρ = some k) : f ρ = some (.bl k) := by
 unfold tB1 at h
 obtain ⟨x, h1, h⟩ := Option.bind_eq_some_iff.mp h
 split at h
 · cases h; exact h1
 · cases h
theorem pt_valF (ha : PF X a fa) (he : ∀ whole, isTrue a X.env whole = (do let v ← whole; standAt a.pos; holding [v] (truthy v)) := by intro _; rfl) : PFT X a (tB1 fa) := by
 refine PT.to (pt_val ha he) ?_
 rintro σ H Q ⟨G0, H0, G, ρ, c, good, hf, k⟩
 exact ⟨G0, H0, G, ρ, _, good, tB1_inv hf, fun u H1 G1 s1 r1 => ⟨c, rep_bl.mp r1, k _ G1 s1⟩⟩
def tNotF (t : Tf) : Tf := fun ρ => (t ρ).map (!·)
def tAndF (t u : Tf) : Tf := fun ρ => (t ρ).bind fun c => if c = true then u ρ else some false
def tOrF (t u : Tf) : Tf := fun ρ => (t ρ).bind fun c => if c = true then some true else u ρ
theorem pt_notF (ha : PFT X a ta) : PFT X (.UnaryOp .Not a pos) (tNotF ta) := by
 refine PT.to (pt_not ha) ?_
 rintro σ H Q ⟨G0, H0, G, ρ, c, good, hf, k⟩
 unfold tNotF at hf
 obtain ⟨c', h1, rfl⟩ := Option.map_eq_some_iff.mp hf
 exact ⟨G0, H0, G, ρ, _, good, h1, fun H1 G1 s1 => k _ G1 s1⟩
theorem PW.to {t : TT} {f : Tf} (h : PW X e t) (imp : ∀ σ H Q, tFT X.K f σ H Q -> t σ H Q) : PFW X e f := fun whole pins s σ H Q I q => h whole pins s σ H Q I (imp σ H Q q)
theorem pw_and1F (ha : PFT X a ta) : PFW X (.BoolOp .And [a] pos) ta := pw_and1 ha
theorem pw_or1F (ha : PFT X a ta) : PFW X (.BoolOp .Or [a] pos) ta := pw_or1 ha
theorem pw_andF {rest : List Expr} (ha : PFT X a ta) (hb : PFW X (.BoolOp .And (b :: rest) pos) tb) : PFW X (.BoolOp .And (a :: b :: rest) pos) (tAndF ta tb) := by
 refine PW.to (pw_and ha hb) ?_
 rintro σ H Q ⟨G0, H0, G, ρ, c, good, hf, k⟩
 unfold tAndF at hf
 obtain ⟨c', h1, hf⟩ := Option.bind_eq_some_iff.mp hf
 refine ⟨G0, H0, G, ρ, _, good, h1, fun H1 G1 s1 => ?_⟩
 split at hf
 · rename_i h; rw [if_pos h]; exact ⟨G0, H0, G1, ρ, c, good.step s1, hf, fun H2 G2 s2 => k _ G2 (s1.trans s2)⟩
 · rename_i h; rw [if_neg h]; cases hf; exact k _ G1 s1
theorem pw_orF {rest : List Expr} (ha : PFT X a ta) (hb : PFW X (.BoolOp .Or (b :: rest) pos) tb) : PFW X (.BoolOp .Or (a :: b :: rest) pos) (tOrF ta tb) := by
 refine PW.to (pw_or ha hb) ?_
 rintro σ H Q ⟨G0, H0, G, ρ, c, good, hf, k⟩
 unfold tOrF at hf
 obtain ⟨c', h1, hf⟩ := Option.bind_eq_some_iff.mp hf
 refine ⟨G0, H0, G, ρ, _, good, h1, fun H1 G1 s1 => ?_⟩
 split at hf
 · rename_i h; rw [if_pos h]; cases hf; exact k _ G1 s1
 · rename_i h; rw [if_neg h]; exact ⟨G0, H0, G1, ρ, c, good.step s1, hf, fun H2 G2 s2 => k _ G2 (s1.trans s2)⟩
theorem pt_w (h : PFW X e ta) : PFT X e ta := h.pt
theorem pf_one {op : BoolOp} (h : PF X a fa) : PF X (.BoolOp op [a] pos) fa := pe_one h
def eAndV (fa fb : Ef) : Ef := fun ρ => (tB1 fa ρ).bind fun c => if c = true then fb ρ else some (.bl false)
theorem pf_and {rest : List Expr} (ha : PF X a fa) (hb : PF X (.BoolOp .And (b :: rest) pos) fb) : PF X (.BoolOp .And (a :: b :: rest) pos) (eAndV fa fb) := by
 refine PE.to (pe_and ha hb) ?_
 rintro σ H Q ⟨G0, H0, G, ρ, d, good, hf, k⟩
 obtain ⟨c, h1, hf⟩ := Option.bind_eq_some_iff.mp hf
 refine ⟨G0, H0, G, ρ, _, good, tB1_inv h1, fun u H1 G1 s1 r1 => ⟨c, rep_bl.mp r1, ?_⟩⟩
 split at hf
 · rename_i h; rw [if_pos h]; exact ⟨G0, H0, G1, ρ, d, good.step s1, hf, fun v H2 G2 s2 r2 => k _ _ G2 (s1.trans s2) r2⟩
 · rename_i h; rw [if_neg h]; cases hf; exact k _ _ G1 s1 (rep_bl.mpr rfl)
theorem pf_not (ha : PF X a fa) : PF X (.UnaryOp .Not a pos) (eOfT (tNotF (tB1 fa))) := by
 refine PE.to (pe_not ha) ?_
 rintro σ H Q ⟨G0, H0, G, ρ, d, good, hf, k⟩
 obtain ⟨c, hf2, rfl⟩ := eOfT_inv hf
 unfold tNotF at hf2
 obtain ⟨c', h1, rfl⟩ := Option.map_eq_some_iff.mp hf2
 exact ⟨G0, H0, G, ρ, _, good, tB1_inv h1, fun u H1 G1 s1 r1 => ⟨c', rep_bl.mp r1, k _ _ G1 s1 (rep_bl.mpr rfl)⟩⟩
def eIf (t : Tf) (fa fb : Ef) : Ef := fun ρ => (t ρ).bind fun c => if c = true then fa ρ else fb ρ
theorem pf_if (ht : PFT X c ta) (ha : PF X a fa) (hb : PF X b fb) : PF X (.IfExp c a b pos) (eIf ta fa fb) := by
 refine PE.to (pe_ifExp ht ha hb) ?_
 rintro σ H Q ⟨G0, H0, G, ρ, d, good, hf, k⟩
 unfold eIf at hf
 obtain ⟨c', h1, hf⟩ := Option.bind_eq_some_iff.mp hf
 refine ⟨G0, H0, G, ρ, _, good, h1, fun H1 G1 s1 => ?_⟩
 split at hf
 · rename_i h; rw [if_pos h]; exact ⟨G0, H0, G1, ρ, d, good.step s1, hf, fun v H2 G2 s2 r2 => k _ _ G2 (s1.trans s2) r2⟩
 · rename_i h; rw [if_neg h]; exact ⟨G0, H0, G1, ρ, d, good.step s1, hf, fun v H2 G2 s2 r2 => k _ _ G2 (s1.trans s2) r2⟩
def aNil : Lf := fun _ => some []
def aCons (f : Ef) (r : Lf) : Lf := fun ρ => (f ρ).bind fun d => (r ρ).map fun ds => d :: ds
theorem pa_nilF : PFA X [] aNil := by
 refine PA.to pa_nil ?_
 rintro σ H Q ⟨G0, H0, G, ρ, d, good, hf, k⟩
 cases hf
 exact k [] H G (.refl good.sub) (reps_nil.mpr rfl)
theorem aCons_inv {f : Ef} {r : Lf} {ρ : List B} {ds : List D} (h : aCons f r ρ = some ds) : ∃ d dr, f ρ = some d /\ r ρ = some dr /\ ds = d :: dr := by
 unfold aCons at h
 obtain ⟨d, h1, h⟩ := Option.bind_eq_some_iff.mp h
 obtain ⟨dr, h2, rfl⟩ := Option.map_eq_some_iff.mp h
 exact ⟨d, dr, h1, h2, rfl⟩
theorem pa_consF (ha : PF X e fa) (hr : PFA X es ga) (hs : starEach (e :: es) X.env = (false, eval e X.env) :: starEach es X.env := by rfl) : PFA X (e :: es) (aCons fa ga) := by
 refine PA.to (pa_cons ha hr hs) ?_
 rintro σ H Q ⟨G0, H0, G, ρ, ds, good, hf, k⟩
 obtain ⟨d, dr, h1, h2, rfl⟩ := aCons_inv hf
 refine ⟨G0, H0, G, ρ, _, good, h1, fun u H1 G1 s1 r1 => ⟨G0, H0, G1, ρ, _, good.step s1, h2, fun v H2 G2 s2 r2 => ?_⟩⟩
 exact k _ _ G2 (s1.trans s2) (reps_cons.mpr ⟨u, v, rfl, r1.mono s2.gg, r2⟩)
abbrev lim : Nat := 100000
theorem lim_ok {n : Nat} (h : n <= lim) : n < sizeLine := Nat.lt_of_le_of_lt h (by decide)
def okL (ds : List D) : Option (List D) := if ds.length <= lim then some ds else none
theorem okL_inv {ds es : List D} (h : okL ds = some es) : es = ds /\ ds.length <= lim := by
 unfold okL at h
 split at h
 · rename_i q; cases h; exact ⟨rfl, q⟩
 · cases h
def eTup (g : Lf) : Ef := fun ρ => ((g ρ).bind okL).map .tup
theorem pf_tup {k : Nat} (h : PFA X es ga) : PF X (.Tuple es k pos) (eTup ga) := by
 refine PE.to (pe_tup h) ?_
 rintro σ H Q ⟨G0, H0, G, ρ, d, good, hf, k⟩
 unfold eTup at hf
 obtain ⟨ds, h1, rfl⟩ := Option.map_eq_some_iff.mp hf
 obtain ⟨es, h1, h2⟩ := Option.bind_eq_some_iff.mp h1
 obtain ⟨rfl, h3⟩ := okL_inv h2
 refine ⟨G0, H0, G, ρ, _, good, h1, fun vs H1 G1 s1 r1 => ⟨by rw [← r1.length]; exact Nat.le_of_lt (lim_ok h3), fun p hp => ?_⟩⟩
 have s2 := Step.laid (o := .tup vs) s1.sub hp
 exact k _ _ _ (s1.trans s2) (rep_tup.mpr ⟨p, vs, rfl, .of upd_same, r1.mono s2.gg⟩)
def lDisp (g : Lf) : Lf := fun ρ => (g ρ).bind okL
theorem pl_disp (h : PFA X es ga) : PFr X (.List es pos) (lDisp ga) := by
 refine PE.toR (pe_lst h) ?_
 rintro σ H Q ⟨G0, H0, G, ρ, d, good, hf, k⟩
 unfold lDisp at hf
 obtain ⟨es, h1, h2⟩ := Option.bind_eq_some_iff.mp hf
 obtain ⟨rfl, h3⟩ := okL_inv h2
 refine ⟨G0, H0, G, ρ, _, good, h1, fun vs H1 G1 s1 r1 => ⟨by rw [← r1.length]; exact Nat.le_of_lt (lim_ok h3), fun p hp => ?_⟩⟩
 exact k p vs _ G1 (s1.trans (Step.own s1.sub hp)) (s1.hh.free hp) upd_same (s1.sub.free hp) r1
def atD (x y : D) : Option D := match x, y with
 | .tup ds, .int i => atI ds i
 | .lst ds, .int i => atI ds i
 | .str z, .int i => if z.length <= lim then (atI z.cps.toList i).map fun c => .str ⟨#[c]⟩ else none
 | _, _ => none
def eIx (fa fb : Ef) : Ef := fun ρ => (fa ρ).bind fun x => (fb ρ).bind fun y => atD x y
theorem atI_reps {K : PySem.W.Frag} {G : Hp} {ds : List D} {vs : List V} {i : Int} {d : D} (r : Reps K G ds vs) (h : atI ds i = some d) : ∃ v, atI vs i = some v /\ Rep K G d v := by
 unfold atI at h ⊢
 rw [r.length] at h
 obtain ⟨j, h1, h2⟩ := Option.bind_eq_some_iff.mp h
 obtain ⟨v, h3, h4⟩ := r.get h2
 exact ⟨v, by rw [h1]; exact h3, h4⟩
theorem pf_ix (ha : PF X a fa) (hb : PF X b fb) (hs : PlainIx b := by exact fun _ _ => rfl) : PF X (.Subscript a b pos) (eIx fa fb) := by
 refine PE.to (pe_ix ix_seq ha hb hs) ?_
 rintro σ H Q ⟨G0, H0, G, ρ, d, good, hf, k⟩
 unfold eIx at hf
 obtain ⟨x, h1, hf⟩ := Option.bind_eq_some_iff.mp hf
 obtain ⟨y, h2, hf⟩ := Option.bind_eq_some_iff.mp hf
 refine ⟨G0, H0, G, ρ, _, good, h1, fun u H1 G1 s1 r1 => ⟨G0, H0, G1, ρ, _, good.step s1, h2, fun v H2 G2 s2 r2 => ?_⟩⟩
 have r1 := r1.mono s2.gg
 have s3 := s1.trans s2
 unfold atD at hf
 split at hf
 · obtain ⟨p, vs, rfl, q, rs⟩ := rep_tup.mp r1
   obtain ⟨w, e, rw'⟩ := atI_reps rs hf
   exact .inr (.inl ⟨p, vs, _, w, rfl, rep_int.mp r2, s2.sub.tup q, e, k _ _ G2 s3 rw'⟩)
 · obtain ⟨p, vs, rfl, q, rs⟩ := rep_lst.mp r1
   obtain ⟨w, e, rw'⟩ := atI_reps rs hf
   exact .inl ⟨p, vs, _, w, rfl, rep_int.mp r2, s2.sub.seq q, e, k _ _ G2 s3 rw'⟩
 · split at hf
   · rename_i hz
     obtain ⟨c, e, rfl⟩ := Option.map_eq_some_iff.mp hf
     exact .inr (.inr ⟨_, _, c, rep_str.mp r1, rep_int.mp r2, Nat.le_of_lt (lim_ok hz), e, k _ _ G2 s3 (rep_str.mpr rfl)⟩)
   · cases hf
 · cases hf
end
end L2
namespace L2
open PySem PySem.Spec PyProof.Rows
inductive Out where
 | nx (ρ : List B) | rt (d : D) | rl (ds : List D) | bk (ρ : List B) | ct (ρ : List B)
 deriving Inhabited
abbrev Sf := List B -> Option Out
def Wants (K : PySem.W.Frag) (G0 H0 G : Hp) (D : Ends) : Out -> Prop
 | .nx ρ' => ∀ σ' H' G', Same G G' -> Good K G0 H0 G' H' σ' ρ' -> D.nx σ' H'
 | .bk ρ' => ∀ σ' H' G', Same G G' -> Good K G0 H0 G' H' σ' ρ' -> D.bk σ' H'
 | .ct ρ' => ∀ σ' H' G', Same G G' -> Good K G0 H0 G' H' σ' ρ' -> D.ct σ' H'
 | .rt d => ∀ v H' G', Step G0 H0 G' H' -> Rep K G' d v -> D.rt v H'
 | .rl ds => ∀ a vs H' G', Step G0 H0 G' H' -> H0 a = none -> H' a = some (.lst vs) -> G' a = none -> Reps K G' ds vs -> D.rt (.ref a) H'
def tFS (K : PySem.W.Frag) (f : Sf) : TS := fun D σ H => ∃ G0 H0 G ρ o, Good K G0 H0 G H σ ρ /\ f ρ = some o /\ Wants K G0 H0 G D o
def PFS (X : Cx) (st : Stmt) (f : Sf) : Prop := PS X st (tFS X.K f)
def PFSs (X : Cx) (sts : List Stmt) (f : Sf) : Prop := PSs X sts (tFS X.K f)
theorem PS.to {X : Cx} {st : Stmt} {t : TS} {f : Sf} (h : PS X st t) (imp : ∀ D σ H, tFS X.K f D σ H -> t D σ H) : PFS X st f := fun pins s σ H D I q => h pins s σ H D I (imp D σ H q)
theorem PSs.to {X : Cx} {st : List Stmt} {t : TS} {f : Sf} (h : PSs X st t) (imp : ∀ D σ H, tFS X.K f D σ H -> t D σ H) : PFSs X st f := fun pins s σ H D I q => h pins s σ H D I (imp D σ H q)
theorem Wants.mono {K : PySem.W.Frag} {G0 H0 G G' : Hp} {D : Ends} {o : Out} (h : Wants K G0 H0 G D o) (s : Same G G') : Wants K G0 H0 G' D o := by
 cases o with
 | nx ρ => exact fun σ' H' G2 s2 g => h σ' H' G2 (s.trans s2) g
 | bk ρ => exact fun σ' H' G2 s2 g => h σ' H' G2 (s.trans s2) g
 | ct ρ => exact fun σ' H' G2 s2 g => h σ' H' G2 (s.trans s2) g
 | rt d => exact h
 | rl ds => exact h
theorem getElem?_set_fz {ρ : List B} {i j : Nat} {d : D} {ds : List D} (h : (ρ.set i (.fz d))[j]? = some (.ow ds)) : j ≠ i /\ ρ[j]? = some (.ow ds) := by
 by_cases e : j = i
 · subst e
   rw [List.getElem?_set] at h
   split at h
   · split at h <;> cases h
   · rename_i z; exact absurd rfl z
 · rw [List.getElem?_set_ne (Ne.symm e)] at h
   exact ⟨e, h⟩
theorem getElem?_set_fzD {ρ : List B} {i j : Nat} {d : D} {ds : List (D × D)} (h : (ρ.set i (.fz d))[j]? = some (.od ds)) : j ≠ i /\ ρ[j]? = some (.od ds) := by
 by_cases e : j = i
 · subst e
   rw [List.getElem?_set] at h
   split at h
   · split at h <;> cases h
   · rename_i z; exact absurd rfl z
 · rw [List.getElem?_set_ne (Ne.symm e)] at h
   exact ⟨e, h⟩
theorem Good.setF {K : PySem.W.Frag} {G0 H0 G H : Hp} {σ : St} {ρ : List B} {v : V} {d : D} (g : Good K G0 H0 G H σ ρ) (i : Nat) (r : Rep K G d v) : Good K G0 H0 G H (σ.set i (some v)) (ρ.set i (.fz d)) := by
 refine ⟨g.st, Paired.set (.fz r) i g.vals, fun j k a ds es h1 h2 h3 h4 => ?_⟩
 obtain ⟨n1, e1⟩ := getElem?_set_fz h1
 obtain ⟨n2, e2⟩ := getElem?_set_fz h2
 rw [List.getElem?_set_ne (Ne.symm n1)] at h3
 rw [List.getElem?_set_ne (Ne.symm n2)] at h4
 exact g.apart j k a ds es e1 e2 h3 h4
theorem Good.addr {K : PySem.W.Frag} {G0 H0 G H : Hp} {σ : St} {ρ : List B} {i : Nat} {ds : List D} (g : Good K G0 H0 G H σ ρ) (h : ρ[i]? = some (.ow ds)) : ∃ a vs, σ[i]? = some (some (.ref a)) /\ H a = some (.lst vs) /\ G a = none /\ H0 a = none /\ Reps K G ds vs := by
 obtain ⟨o, e, r⟩ := Paired.get g.vals h
 cases r with
 | ow h1 h2 h3 h4 => exact ⟨_, _, e, h1, h2, h3, h4⟩
theorem Good.setO {K : PySem.W.Frag} {G0 H0 G H : Hp} {σ : St} {ρ : List B} {a : Addr} {vs : List V} {ds : List D} (g : Good K G0 H0 G H σ ρ) (i : Nat) (ha : H a = some (.lst vs)) (ga : G a = none) (h0 : H0 a = none) (rs : Reps K G ds vs)
   (fr : ∀ (j : Nat) (es : List D), ρ[j]? = some (B.ow es) -> σ[j]? ≠ some (some (V.ref a))) : Good K G0 H0 G H (σ.set i (some (.ref a))) (ρ.set i (.ow ds)) := by
 have hl : σ.length = ρ.length := Paired.length g.vals
 refine ⟨g.st, Paired.set (.ow ha ga h0 rs) i g.vals, fun j k b d1 d2 h1 h2 h3 h4 => ?_⟩
 by_cases hj : j = i
 · by_cases hk : k = i
   · rw [hj, hk]
   · subst hj
     rw [List.getElem?_set_ne (Ne.symm hk)] at h2 h4
     have hlt : j < σ.length := by
       have := (List.getElem?_eq_some_iff.mp h3).1
       rwa [List.length_set] at this
     rw [List.getElem?_set_self hlt] at h3
     cases h3
     exact absurd h4 (fr k d2 h2)
 · rw [List.getElem?_set_ne (Ne.symm hj)] at h1 h3
   by_cases hk : k = i
   · subst hk
     have hlt : k < σ.length := by
       have := (List.getElem?_eq_some_iff.mp h4).1
       rwa [List.length_set] at this
     rw [List.getElem?_set_self hlt] at h4
     cases h4
     exact absurd h3 (fr j d1 h1)
   · rw [List.getElem?_set_ne (Ne.symm hk)] at h2 h4
     exact g.apart j k b d1 d2 h1 h2 h3 h4
theorem Good.wr {K : PySem.W.Frag} {G0 H0 G H : Hp} {σ : St} {ρ : List B} {a : Addr} {us : List V} {ds es : List D} {i : Nat} (g : Good K G0 H0 G H σ ρ) (hi : ρ[i]? = some (.ow ds)) (hs : σ[i]? = some (some (.ref a))) (rs : Reps K G es us) :
   Good K G0 H0 G (upd H a (.lst us)) σ (ρ.set i (.ow es)) := by
 obtain ⟨a', vs, h1, h2, h3, h4, _⟩ := g.addr hi
 rw [hs] at h1; cases h1
 have st : Step G0 H0 G (upd H a (.lst us)) := by
   refine ⟨fun b o e => ?_, g.st.gg, fun b o e => ?_, g.st.new⟩
   · rw [upd_ne (ne_of_none e h4)]; exact g.st.hh b o e
   · rw [upd_ne (ne_of_none e h3)]; exact g.st.sub b o e
 have hl : σ.length = ρ.length := Paired.length g.vals
 have hil : i < ρ.length := (List.getElem?_eq_some_iff.mp hi).1
 have key : ∀ (l : List (Option V)) (r : List B) (n : Nat), Paired (RB K H0 G H) l r -> (∀ j es, n + j ≠ i -> r[j]? = some (.ow es) -> l[j]? ≠ some (some (.ref a))) -> (∀ j, n + j = i -> l[j]? = some (some (.ref a))) ->
     Paired (RB K H0 G (upd H a (.lst us))) l (if i < n then r else r.set (i - n) (.ow es)) := by
   intro l r n p
   induction p generalizing n with
   | nil => intro _ _; split <;> exact .nil
   | @cons o b l' r' q t ih =>
     intro hne hat
     have tl := ih (n + 1) (fun j es z e => by have := hne (j + 1) es (by omega) (by simpa using e); simpa using this) (fun j z => by have := hat (j + 1) (by omega); simpa using this)
     have keepq : (∀ es, b = .ow es -> o ≠ some (.ref a)) -> RB K H0 G (upd H a (.lst us)) o b := fun hb => by
       cases q with
       | no => exact .no
       | fz r => exact .fz r
       | @ow c vs ds' c1 c2 c3 c4 =>
         have : c ≠ a := fun z => hb _ rfl (by rw [z])
         exact .ow (by rw [upd_ne this]; exact c1) c2 c3 c4
       | @od c _ _ _ _ c1 c2 c3 c4 c5 c6 =>
         have : c ≠ a := fun z => by rw [z, h2] at c1; cases c1
         exact .od (by rw [upd_ne this]; exact c1) c2 c3 c4 c5 c6
     by_cases h1 : i < n
     · rw [if_pos h1]
       rw [if_pos (by omega)] at tl
       refine .cons (keepq fun es e z => ?_) tl
       exact hne 0 es (by omega) (by simp [e]) (by simp [z])
     · rw [if_neg h1]
       by_cases h2 : i = n
       · subst h2
         rw [if_pos (by omega)] at tl
         have := hat 0 (by omega)
         simp at this
         subst this
         rw [Nat.sub_self]
         exact .cons (.ow upd_same h3 h4 rs) tl
       · rw [if_neg (by omega)] at tl
         have e : i - n = (i - (n + 1)) + 1 := by omega
         rw [e]
         refine .cons (keepq fun es e z => ?_) tl
         exact hne 0 es (by omega) (by simp [e]) (by simp [z])
 have vals := key σ ρ 0 g.vals (fun j es' z e w => by
   have := g.apart j i a es' ds e hi w hs
   omega) (fun j z => by rw [show j = i by omega]; exact hs)
 rw [if_neg (Nat.not_lt_zero _), Nat.sub_zero] at vals
 refine ⟨st, vals, fun j k b d1 d2 e1 e2 e3 e4 => ?_⟩
 have un : ∀ (j : Nat) (d1 : List D), (ρ.set i (B.ow es))[j]? = some (B.ow d1) -> ∃ d, ρ[j]? = some (B.ow d) := fun j d1 e => by
   by_cases hj : j = i
   · subst hj; exact ⟨ds, hi⟩
   · rw [List.getElem?_set_ne (Ne.symm hj)] at e; exact ⟨d1, e⟩
 obtain ⟨c1, f1⟩ := un j d1 e1
 obtain ⟨c2, f2⟩ := un k d2 e2
 exact g.apart j k b c1 c2 f1 f2 e3 e4
section
variable {X : Cx} {a b c e tg : Expr} {es : List Expr} {fa fb : Ef} {ga : Lf} {ta : Tf} {pos : Pos} {st : Stmt} {sts rest : List Stmt} {f g : Sf}
def sSeq (f g : Sf) : Sf := fun ρ => (f ρ).bind fun o => match o with | .nx ρ' => g ρ' | o => some o
def sNil : Sf := fun ρ => some (.nx ρ)
theorem pss_nilF : PFSs X [] sNil := by
 refine PSs.to pss_nil ?_
 rintro D σ H ⟨G0, H0, G, ρ, o, good, hf, k⟩
 cases hf
 exact k σ H G (Same.refl _) good
theorem pss_oneF (h : PFS X st f) : PFSs X [st] f := pss_one h
theorem pss_consF (h1 : PFS X st f) (h2 : PFSs X rest g) : PFSs X (st :: rest) (sSeq f g) := by
 refine PSs.to (pss_cons h1 h2) ?_
 rintro D σ H ⟨G0, H0, G, ρ, o, good, hf, k⟩
 unfold sSeq at hf
 obtain ⟨o1, h1, hf⟩ := Option.bind_eq_some_iff.mp hf
 refine ⟨G0, H0, G, ρ, o1, good, h1, ?_⟩
 cases o1 with
 | nx ρ' => exact fun σ' H' G' s g' => ⟨G0, H0, G', ρ', o, g', hf, k.mono s⟩
 | rt d => cases hf; exact k
 | rl d => cases hf; exact k
 | bk d => cases hf; exact k
 | ct d => cases hf; exact k
def sRet (f : Ef) : Sf := fun ρ => (f ρ).map .rt
theorem ps_retF (h : PF X e fa) : PFS X (.Return (some e) pos) (sRet fa) := by
 refine PS.to (ps_ret h) ?_
 rintro D σ H ⟨G0, H0, G, ρ, o, good, hf, k⟩
 unfold sRet at hf
 obtain ⟨d, h1, rfl⟩ := Option.map_eq_some_iff.mp hf
 exact ⟨G0, H0, G, ρ, d, good, h1, fun v H' G' s r => k v H' G' (good.st.trans s) r⟩
def sRetL (f : Lf) : Sf := fun ρ => (f ρ).map .rl
theorem ps_retL (h : PFr X e ga) : PFS X (.Return (some e) pos) (sRetL ga) := by
 refine PS.to (ps_ret h) ?_
 rintro D σ H ⟨G0, H0, G, ρ, o, good, hf, k⟩
 unfold sRetL at hf
 obtain ⟨d, h1, rfl⟩ := Option.map_eq_some_iff.mp hf
 exact ⟨G0, H0, G, ρ, d, good, h1, fun p vs H' G' s hn hp gp rs => k p vs H' G' (good.st.trans s) (good.st.hh.free hn) hp gp rs⟩
def sRetO (i : Nat) : Sf := fun ρ => match ρ[i]? with | some (.ow ds) => some (.rl ds) | _ => none
theorem ps_retO (i : Nat) {x : Str} {pos' : Pos} (hN : X.N[i]? = some x := by rfl) (hv : Vis X.env.scope x := by first | exact Or.inl rfl | exact Or.inr (Or.inl rfl) | exact Or.inr (Or.inr rfl)) (hd : (x == ("__debug__" : Str)) = false := by decide) (hcd : (x == ("__classdict__" : Str)) = false := by decide) :
   PFS X (.Return (some (.Name x pos')) pos) (sRetO i) := by
 refine PS.to (ps_ret (pe_var hN hv hd hcd)) ?_
 rintro D σ H ⟨G0, H0, G, ρ, o, good, hf, k⟩
 unfold sRetO at hf
 split at hf
 · rename_i ds e
   cases hf
   obtain ⟨p, vs, h1, h2, h3, h4, h5⟩ := good.addr e
   exact ⟨.ref p, h1, k p vs H G good.st h4 h2 h3 h5⟩
 · cases hf
def sIf (t : Tf) (f g : Sf) : Sf := fun ρ => (t ρ).bind fun c => if c = true then f ρ else g ρ
theorem ps_ifF {sa sb : List Stmt} (ht : PFT X c ta) (ha : PFSs X sa f) (hb : PFSs X sb g) : PFS X (.If c sa sb pos) (sIf ta f g) := by
 refine PS.to (ps_if ht ha hb) ?_
 rintro D σ H ⟨G0, H0, G, ρ, o, good, hf, k⟩
 unfold sIf at hf
 obtain ⟨c', h1, hf⟩ := Option.bind_eq_some_iff.mp hf
 refine ⟨G0, H0, G, ρ, _, good, h1, fun H1 G1 s1 => ?_⟩
 split at hf
 · rename_i h; rw [if_pos h]; exact ⟨G0, H0, G1, ρ, o, good.step s1, hf, k.mono s1.gg⟩
 · rename_i h; rw [if_neg h]; exact ⟨G0, H0, G1, ρ, o, good.step s1, hf, k.mono s1.gg⟩
def sDrop (f : Ef) : Sf := fun ρ => (f ρ).map fun _ => .nx ρ
theorem ps_exprF (h : PF X e fa) (hs : swapsWith e none pos.line X.env = pure false := by rfl) : PFS X (.Expr e pos) (sDrop fa) := by
 refine PS.to (ps_expr h hs) ?_
 rintro D σ H ⟨G0, H0, G, ρ, o, good, hf, k⟩
 unfold sDrop at hf
 obtain ⟨d, h1, rfl⟩ := Option.map_eq_some_iff.mp hf
 exact ⟨G0, H0, G, ρ, d, good, h1, fun v H' G' s r => k σ H' G' s.gg (good.step s)⟩
abbrev Gf := D -> List B -> Option (List B)
def tFG (K : PySem.W.Frag) (g : Gf) : TG := fun v σ H Q => ∃ G0 H0 G ρ d ρ', Good K G0 H0 G H σ ρ /\ Rep K G d v /\ g d ρ = some ρ' /\ ∀ σ' H' G', Step G H G' H' -> Good K G0 H0 G' H' σ' ρ' -> Q σ' H'
def PFG (X : Cx) (tg : Expr) (g : Gf) : Prop := PG X tg (tFG X.K g)
abbrev Gfs := List D -> List B -> Option (List B)
def tFGs (K : PySem.W.Frag) (g : Gfs) : TGs := fun vs σ H Q => ∃ G0 H0 G ρ ds ρ', Good K G0 H0 G H σ ρ /\ Reps K G ds vs /\ g ds ρ = some ρ' /\ ∀ σ' H' G', Step G H G' H' -> Good K G0 H0 G' H' σ' ρ' -> Q σ' H'
def PFGs (X : Cx) (tgs : List Expr) (g : Gfs) : Prop := PGs X tgs (tFGs X.K g)
def gN (i : Nat) : Gf := fun d ρ => some (ρ.set i (.fz d))
theorem pg_n (i : Nat) {x : Str} (hN : X.N.Nodup) (hi : X.N[i]? = some x := by rfl) (hx : Loc X.env.scope x := by first | exact .inl rfl | exact .inr rfl) (hf : X.fn x = true ∨ X.env.scope.names.lookup x = some .local := by first | exact .inl rfl | exact .inr rfl) : PFG X (.Name x pos) (gN i) := by
 have h := pg_name (pos := pos) hN hi hx hf
 intro pins s σ H v u Q I r q
 refine h pins s σ H v u Q I r ?_
 obtain ⟨G0, H0, G, ρ, d, ρ', good, rd, hf, k⟩ := q
 cases hf
 exact k _ H G (.refl good.sub) (good.setF i rd)
def gsNil : Gfs := fun ds ρ => match ds with | [] => some ρ | _ => none
def gsCons (g : Gf) (r : Gfs) : Gfs := fun ds ρ => match ds with | d :: dr => (g d ρ).bind fun ρ' => r dr ρ' | _ => none
theorem pgs_nilF : PFGs X [] gsNil := by
 intro pins s σ H vs us Q I r q
 refine pgs_nil pins s σ H vs us Q I r ?_
 obtain ⟨G0, H0, G, ρ, ds, ρ', good, rd, hf, k⟩ := q
 unfold gsNil at hf
 split at hf
 · cases hf
   rw [reps_nil] at rd
   exact ⟨rd, k _ H G (.refl good.sub) good⟩
 · cases hf
theorem pgs_consF {g : Gf} {r : Gfs} (h1 : PFG X e g) (h2 : PFGs X es r) (hs : (assignEach (e :: es) X.env).map (·.2) = assign e X.env :: (assignEach es X.env).map (·.2) := by rfl) : PFGs X (e :: es) (gsCons g r) := by
 intro pins s σ H vs us Q I rv q
 refine pgs_cons h1 h2 hs pins s σ H vs us Q I rv ?_
 obtain ⟨G0, H0, G, ρ, ds, ρ', good, rd, hf, k⟩ := q
 unfold gsCons at hf
 split at hf
 · rename_i d dr
   obtain ⟨ρ1, e1, e2⟩ := Option.bind_eq_some_iff.mp hf
   obtain ⟨v, vr, rfl, r1, r2⟩ := reps_cons.mp rd
   exact ⟨v, vr, rfl, G0, H0, G, ρ, d, ρ1, good, r1, e1, fun σ' H' G' s' g' => ⟨G0, H0, G', ρ1, dr, ρ', g', r2.mono s'.gg, e2, fun σ2 H2 G2 s2 g2 => k σ2 H2 G2 (s'.trans s2) g2⟩⟩
 · cases hf
def gT (r : Gfs) : Gf := fun d ρ => match d with | .tup ds => r ds ρ | _ => none
theorem pg_t {r : Gfs} {k : Nat} (n : Nat) (hc : X.calm = true) (h : PFGs X es r) (hr : ∀ ds ρ ρ', r ds ρ = some ρ' -> ds.length = n) (hn : (assignEach es X.env).length = n := by rfl) (hst : (assignEach es X.env).findIdx? (·.1) = none := by rfl) : PFG X (.Tuple es k pos) (gT r) := by
 have h := pg_tup (pos := pos) (k := k) hc h hn hst
 intro pins s σ H v u Q I rv q
 refine h pins s σ H v u Q I rv ?_
 obtain ⟨G0, H0, G, ρ, d, ρ', good, rd, hf, k⟩ := q
 unfold gT at hf
 split at hf
 · obtain ⟨p, vs, rfl, h1, h2⟩ := rep_tup.mp rd
   exact ⟨p, vs, rfl, good.sub.tup h1, by rw [← h2.length]; exact hr _ _ _ hf, G0, H0, G, ρ, _, ρ', good, h2, hf, k⟩
 · cases hf
theorem gs_len1 {g : Gf} {r : Gfs} {n : Nat} (h : ∀ ds ρ ρ', r ds ρ = some ρ' -> ds.length = n) : ∀ ds ρ ρ', gsCons g r ds ρ = some ρ' -> ds.length = n + 1 := by
 intro ds ρ ρ' q
 unfold gsCons at q
 split at q
 · obtain ⟨ρ1, e1, e2⟩ := Option.bind_eq_some_iff.mp q
   rw [List.length_cons, h _ _ _ e2]
 · cases q
theorem gs_len0 : ∀ ds ρ ρ', gsNil ds ρ = some ρ' -> ds.length = 0 := by
 intro ds ρ ρ' q
 unfold gsNil at q
 split at q
 · rfl
 · cases q
def NoOw (ρ : List B) : Prop := (∀ (j : Nat) (es : List D), ρ[j]? ≠ some (B.ow es)) /\ ∀ (j : Nat) (ks : List (D × D)), ρ[j]? ≠ some (B.od ks)
def GfOk (g : Gf) : Prop := ∀ d ρ ρ', g d ρ = some ρ' -> NoOw ρ -> NoOw ρ'
def GfsOk (g : Gfs) : Prop := ∀ d ρ ρ', g d ρ = some ρ' -> NoOw ρ -> NoOw ρ'
theorem go_n (i : Nat) : GfOk (gN i) := fun d ρ ρ' h n => by
 cases h
 exact ⟨fun j es e => n.1 j es (getElem?_set_fz e).2, fun j ks e => n.2 j ks (getElem?_set_fzD e).2⟩
theorem gso_nil : GfsOk gsNil := fun d ρ ρ' h n => by
 unfold gsNil at h
 split at h
 · cases h; exact n
 · cases h
theorem gso_cons {g : Gf} {r : Gfs} (h1 : GfOk g) (h2 : GfsOk r) : GfsOk (gsCons g r) := fun d ρ ρ' h n => by
 unfold gsCons at h
 split at h
 · obtain ⟨ρ1, e1, e2⟩ := Option.bind_eq_some_iff.mp h
   exact h2 _ _ _ e2 (h1 _ _ _ e1 n)
 · cases h
theorem go_t {r : Gfs} (h : GfsOk r) : GfOk (gT r) := fun d ρ ρ' q n => by
 unfold gT at q
 split at q
 · exact h _ _ _ q n
 · cases q
def sAsg (f : Ef) (g : Gf) : Sf := fun ρ => (f ρ).bind fun d => (g d ρ).map .nx
theorem sAsg_imp {K : PySem.W.Frag} {t : TE} {f : Ef} {g : Gf} (imp : ∀ σ H Q, tF K f σ H Q -> t σ H Q) {D : Ends} {σ : St} {H : Hp} (h : tFS K (sAsg f g) D σ H) : tAsg t (tFG K g) D σ H := by
 obtain ⟨G0, H0, G, ρ, o, good, hf, k⟩ := h
 unfold sAsg at hf
 obtain ⟨d, h1, hf⟩ := Option.bind_eq_some_iff.mp hf
 obtain ⟨ρ', h2, rfl⟩ := Option.map_eq_some_iff.mp hf
 exact imp _ _ _ ⟨G0, H0, G, ρ, d, good, h1, fun v H' G' s r => ⟨G0, H0, G', ρ, d, ρ', good.step s, r, h2, fun σ2 H2 G2 s2 g2 => k σ2 H2 G2 (s.gg.trans s2.gg) g2⟩⟩
theorem ps_asgF {g : Gf} (he : PF X e fa) (hg : PFG X tg g) (hs : swapsWithSole [tg] e pos.line X.env = pure false := by rfl) (hw : swappedStores [tg] e X.env = pure none := by rfl) (h1 : (assignEach [tg] X.env).map (·.2) = [assign tg X.env] := by rfl) :
   PFS X (.Assign [tg] e pos) (sAsg fa g) := PS.to (ps_asg he hg hs hw h1) fun D σ H h => sAsg_imp (fun _ _ _ q => q) h
def sSet (i : Nat) (f : Ef) : Sf := fun ρ => (f ρ).map fun d => .nx (ρ.set i (.fz d))
theorem sSet_imp {K : PySem.W.Frag} {t : TE} {f : Ef} {i : Nat} (imp : ∀ σ H Q, tF K f σ H Q -> t σ H Q) {D : Ends} {σ : St} {H : Hp} (h : tFS K (sSet i f) D σ H) : tAsg t (gName i) D σ H := by
 obtain ⟨G0, H0, G, ρ, o, good, hf, k⟩ := h
 unfold sSet at hf
 obtain ⟨d, h1, rfl⟩ := Option.map_eq_some_iff.mp hf
 exact imp _ _ _ ⟨G0, H0, G, ρ, d, good, h1, fun v H' G' s r => k _ H' G' s.gg ((good.step s).setF i r)⟩
theorem ps_setF (i : Nat) {x : Str} {pos' : Pos} (hN : X.N.Nodup) (he : PF X e fa) (hi : X.N[i]? = some x := by rfl) (hx : Loc X.env.scope x := by first | exact .inl rfl | exact .inr rfl) (hs : swapsWith e (some (.Name x pos')) pos.line X.env = pure false := by rfl)
   (hf : X.fn x = true ∨ X.env.scope.names.lookup x = some .local := by first | exact .inl rfl | exact .inr rfl) : PFS X (.Assign [.Name x pos'] e pos) (sSet i fa) :=
 PS.to (ps_set hN hi hx he hs hf) fun D σ H h => sSet_imp (fun _ _ _ q => q) h
def sOwn (i : Nat) (f : Lf) : Sf := fun ρ => (f ρ).map fun ds => .nx (ρ.set i (.ow ds))
theorem sOwn_imp {K : PySem.W.Frag} {t : TE} {f : Lf} {i : Nat} (imp : ∀ σ H Q, tFr K f σ H Q -> t σ H Q) {D : Ends} {σ : St} {H : Hp} (h : tFS K (sOwn i f) D σ H) : tAsg t (gName i) D σ H := by
 obtain ⟨G0, H0, G, ρ, o, good, hf, k⟩ := h
 unfold sOwn at hf
 obtain ⟨ds, h1, rfl⟩ := Option.map_eq_some_iff.mp hf
 refine imp _ _ _ ⟨G0, H0, G, ρ, ds, good, h1, fun p vs H' G' s hn hp gp rs => ?_⟩
 refine k _ H' G' s.gg ((good.step s).setO i hp gp (good.st.hh.free hn) rs fun j es e z => ?_)
 obtain ⟨q, us, e1, e2, _⟩ := good.addr e
 rw [e1] at z; cases z
 rw [hn] at e2; cases e2
theorem ps_own (i : Nat) {x : Str} {pos' : Pos} (hN : X.N.Nodup) (he : PFr X e ga) (hi : X.N[i]? = some x := by rfl) (hx : Loc X.env.scope x := by first | exact .inl rfl | exact .inr rfl) (hs : swapsWith e (some (.Name x pos')) pos.line X.env = pure false := by rfl)
   (hf : X.fn x = true ∨ X.env.scope.names.lookup x = some .local := by first | exact .inl rfl | exact .inr rfl) : PFS X (.Assign [.Name x pos'] e pos) (sOwn i ga) :=
 PS.to (ps_set hN hi hx he hs hf) fun D σ H h => sOwn_imp (fun _ _ _ q => q) h
def frzB (i : Nat) (ρ : List B) : List B := match ρ[i]? with | some (.ow ds) => ρ.set i (.fz (.lst ds)) | _ => ρ
def sFrz (i : Nat) (f : Sf) : Sf := fun ρ => f (frzB i ρ)
theorem Good.frz {K : PySem.W.Frag} {G0 H0 G H : Hp} {σ : St} {ρ : List B} (g : Good K G0 H0 G H σ ρ) (i : Nat) : ∃ G', Same G G' /\ Good K G0 H0 G' H σ (frzB i ρ) := by
 unfold frzB
 split
 · rename_i ds e
   obtain ⟨p, vs, h1, h2, h3, h4, h5⟩ := g.addr e
   have sG : Same G (upd G p (.lst vs)) := Same.new h3
   have st : Step G0 H0 (upd G p (.lst vs)) H := by
     refine ⟨g.st.hh, g.st.gg.trans sG, fun b o q => ?_, fun b hb => ?_⟩
     · by_cases z : b = p
       · subst z; rw [upd_same] at q; rw [h2]; exact q
       · rw [upd_ne z] at q; exact g.st.sub b o q
     · rw [upd_ne (fun z : b = p => hb (by rw [z]; exact h4))]; exact g.st.new b hb
   have vals : Paired (RB K H0 (upd G p (.lst vs)) H) σ (ρ.set i (.fz (.lst ds))) := by
     have key : ∀ (l : List (Option V)) (r : List B) (n : Nat), Paired (RB K H0 G H) l r -> (∀ j es, n + j ≠ i -> r[j]? = some (.ow es) -> l[j]? ≠ some (some (.ref p))) -> (∀ j, n + j = i -> l[j]? = some (some (.ref p))) ->
         Paired (RB K H0 (upd G p (.lst vs)) H) l (if i < n then r else r.set (i - n) (.fz (.lst ds))) := by
       intro l r n q
       induction q generalizing n with
       | nil => intro _ _; split <;> exact .nil
       | @cons o b l' r' q t ih =>
         intro hne hat
         have tl := ih (n + 1) (fun j es z e => by have := hne (j + 1) es (by omega) (by simpa using e); simpa using this) (fun j z => by have := hat (j + 1) (by omega); simpa using this)
         have keepq : (∀ es, b = .ow es -> o ≠ some (.ref p)) -> RB K H0 (upd G p (.lst vs)) H o b := fun hb => by
           cases q with
           | no => exact .no
           | fz r => exact .fz (r.mono sG)
           | @ow c vs' ds' c1 c2 c3 c4 =>
             have : c ≠ p := fun z => hb _ rfl (by rw [z])
             exact .ow c1 (by rw [upd_ne this]; exact c2) c3 (c4.mono sG)
           | @od c _ _ _ _ c1 c2 c3 c4 c5 c6 =>
             have : c ≠ p := fun z => by rw [z, h2] at c1; cases c1
             exact .od c1 (by rw [upd_ne this]; exact c2) c3 (c4.mono sG) c5 c6
         by_cases h1 : i < n
         · rw [if_pos h1]
           rw [if_pos (by omega)] at tl
           exact .cons (keepq fun es e z => hne 0 es (by omega) (by simp [e]) (by simp [z])) tl
         · rw [if_neg h1]
           by_cases h2 : i = n
           · subst h2
             rw [if_pos (by omega)] at tl
             have := hat 0 (by omega)
             simp at this
             subst this
             rw [Nat.sub_self]
             exact .cons (.fz (rep_lst.mpr ⟨p, vs, rfl, .of upd_same, h5.mono sG⟩)) tl
           · rw [if_neg (by omega)] at tl
             have e : i - n = (i - (n + 1)) + 1 := by omega
             rw [e]
             exact .cons (keepq fun es e z => hne 0 es (by omega) (by simp [e]) (by simp [z])) tl
     have v := key σ ρ 0 g.vals (fun j es' z e' w => by have := g.apart j i p es' ds e' e w h1; omega) (fun j z => by rw [show j = i by omega]; exact h1)
     rw [if_neg (Nat.not_lt_zero _), Nat.sub_zero] at v
     exact v
   refine ⟨_, sG, st, vals, fun j k b d1 d2 e1 e2 e3 e4 => ?_⟩
   obtain ⟨_, f1⟩ := getElem?_set_fz e1
   obtain ⟨_, f2⟩ := getElem?_set_fz e2
   exact g.apart j k b d1 d2 f1 f2 e3 e4
 · exact ⟨G, Same.refl _, g⟩
theorem ps_frz (i : Nat) (h : PFS X st f) : PFS X st (sFrz i f) := by
 refine PS.to h ?_
 rintro D σ H ⟨G0, H0, G, ρ, o, good, hf, k⟩
 obtain ⟨G', s, g'⟩ := good.frz i
 exact ⟨G0, H0, G', _, o, g', hf, k.mono s⟩
end
end L2
namespace L2
open PySem PySem.Spec PyProof.Rows
def Yields (K : PySem.W.Frag) (J : It) (G : Hp) (ds : List D) : Prop := ∀ (i : Nat) (G2 H2 : Hp), Same G G2 -> Same G2 H2 ->
 (∀ d, ds[i]? = some d -> J.go i H2 /\ ∀ x H3, J.yld i H2 x H3 -> ∃ G3, Step G2 H2 G3 H3 /\ Rep K G3 d x) /\ (ds.length <= i -> J.stop i H2)
def tFI (K : PySem.W.Frag) (f : Lf) : TI := fun σ H R => ∃ G0 H0 G ρ ds, Good K G0 H0 G H σ ρ /\ f ρ = some ds /\ ∀ J H' G', Step G H G' H' -> Yields K J G' ds -> R J H'
def PFI (X : Cx) (tg iter : Expr) (f : Lf) : Prop := PI X tg iter (tFI X.K f)
theorem PI.to {X : Cx} {tg e : Expr} {t : TI} {f : Lf} (h : PI X tg e t) (imp : ∀ σ H R, tFI X.K f σ H R -> t σ H R) : PFI X tg e f := fun pins s σ H R I q => h pins s σ H R I (imp σ H R q)
theorem yields_list' {K : PySem.W.Frag} {G : Hp} {a : Addr} {vs : List V} {ds : List D} (h : SqL K G a vs) (r : Reps K G ds vs) : Yields K (Itl K a) G ds := by
 intro i G2 H2 s1 s2
 have q : SqL K H2 a vs := (s1.trans s2).seq h
 refine ⟨fun d hd => ?_, fun hi => ⟨vs, q, by rw [← r.length]; exact hi⟩⟩
 obtain ⟨v, e, rv⟩ := r.get hd
 refine ⟨⟨vs, v, q, e⟩, fun x H3 y => ?_⟩
 obtain ⟨rfl, y⟩ := y
 have := y vs q
 rw [e] at this; cases this
 exact ⟨G2, .refl s2, rv.mono s1⟩
theorem yields_tup {K : PySem.W.Frag} {G : Hp} {a : Addr} {vs : List V} {ds : List D} (h : SqT K G a vs) (r : Reps K G ds vs) : Yields K (Itt K a) G ds := by
 intro i G2 H2 s1 s2
 have q : SqT K H2 a vs := (s1.trans s2).tup h
 refine ⟨fun d hd => ?_, fun hi => ⟨vs, q, by rw [← r.length]; exact hi⟩⟩
 obtain ⟨v, e, rv⟩ := r.get hd
 refine ⟨⟨vs, v, q, e⟩, fun x H3 y => ?_⟩
 obtain ⟨rfl, y⟩ := y
 have := y vs q
 rw [e] at this; cases this
 exact ⟨G2, .refl s2, rv.mono s1⟩
def upto (lo : Int) (n : Nat) : List D := (List.range n).map fun i => D.int (lo + (i : Nat))
theorem yields_range {K : PySem.W.Frag} {G : Hp} {lo : Int} {n : Nat} : Yields K (Itr lo n) G (upto lo n) := by
 intro i G2 H2 s1 s2
 have hl : (upto lo n).length = n := by simp [upto]
 refine ⟨fun d hd => ?_, fun hi => by rw [hl] at hi; exact hi⟩
 have hi : i < n := by rw [← hl]; exact (List.getElem?_eq_some_iff.mp hd).1
 refine ⟨hi, fun x H3 y => ?_⟩
 obtain ⟨rfl, rfl⟩ := y
 have e : d = .int (lo + i) := by
   unfold upto at hd
   rw [List.getElem?_map, List.getElem?_range hi] at hd
   exact (Option.some.inj hd).symm
 subst e
 exact ⟨G2, .refl s2, rep_int.mpr rfl⟩
section
variable {X : Cx} {a b c e tg elt iter : Expr} {es ifs : List Expr} {fa fb : Ef} {ga gi : Lf} {ta tc : Tf} {pos : Pos} {st : Stmt} {sts rest : List Stmt} {f g : Sf}
def iL (f : Ef) : Lf := fun ρ => (f ρ).bind fun d => match d with | .lst ds => some ds | _ => none
def iT (f : Ef) : Lf := fun ρ => (f ρ).bind fun d => match d with | .tup ds => some ds | _ => none
theorem pi_l (h : PF X e fa) : PFI X tg e (iL fa) := by
 refine PI.to (pi_list h) ?_
 rintro σ H R ⟨G0, H0, G, ρ, ds, good, hf, k⟩
 unfold iL at hf
 obtain ⟨d, h1, hf⟩ := Option.bind_eq_some_iff.mp hf
 cases d with
 | lst es =>
   cases hf
   refine ⟨G0, H0, G, ρ, _, good, h1, fun x H1 G1 s1 r1 => ?_⟩
   obtain ⟨p, vs, rfl, q, rs⟩ := rep_lst.mp r1
   exact ⟨p, rfl, ⟨vs, s1.sub.seq q⟩, k _ H1 G1 s1 (yields_list' q rs)⟩
 | _ => cases hf
theorem pi_lr (h : PFr X e ga) : PFI X tg e ga := by
 refine PI.to (pi_list h) ?_
 rintro σ H R ⟨G0, H0, G, ρ, ds, good, hf, k⟩
 refine ⟨G0, H0, G, ρ, _, good, hf, fun p vs H1 G1 s1 hn hp gp rs => ?_⟩
 exact ⟨p, rfl, ⟨vs, .of hp⟩, k _ H1 (upd G1 p (.lst vs)) (s1.frz hn hp gp) (yields_list' (.of upd_same) (rs.mono (Same.new gp)))⟩
theorem pi_t (h : PF X e fa) : PFI X tg e (iT fa) := by
 refine PI.to (pi_tup h) ?_
 rintro σ H R ⟨G0, H0, G, ρ, ds, good, hf, k⟩
 unfold iT at hf
 obtain ⟨d, h1, hf⟩ := Option.bind_eq_some_iff.mp hf
 cases d with
 | tup es =>
   cases hf
   refine ⟨G0, H0, G, ρ, _, good, h1, fun x H1 G1 s1 r1 => ?_⟩
   obtain ⟨p, vs, rfl, q, rs⟩ := rep_tup.mp r1
   exact ⟨p, rfl, ⟨vs, s1.sub.tup q⟩, k _ H1 G1 s1 (yields_tup q rs)⟩
 | _ => cases hf
def iR (f : Ef) : Lf := fun ρ => (f ρ).bind fun d => match d with | .int n => if decide (-1000000 <= n) && decide (n <= 1000000) then some (upto 0 n.toNat) else none | _ => none
theorem pi_r {p : Pos} (hg : Gl X "range") (hm : X.mg "range" = none) (h : PF X a fa) (hs : starEach [a] X.env = [(false, eval a X.env)] := by rfl) : PFI X tg (.Call (.Name "range" p) [a] [] pos) (iR fa) := by
 refine PI.to (pi_range1 hg hm (pa_cons h pa_nil (by rw [hs]; rfl)) hs) ?_
 rintro σ H R ⟨G0, H0, G, ρ, ds, good, hf, k⟩
 unfold iR at hf
 obtain ⟨d, h1, hf⟩ := Option.bind_eq_some_iff.mp hf
 cases d with
 | int n =>
   dsimp only at hf
   split at hf
   · rename_i hc
     cases hf
     simp only [Bool.and_eq_true, decide_eq_true_eq] at hc
     refine ⟨G0, H0, G, ρ, _, good, h1, fun x H1 G1 s1 r1 => ⟨n, by rw [rep_int.mp r1], by omega, by omega, k _ H1 G1 s1 yields_range⟩⟩
   · cases hf
 | _ => cases hf
def forF (g : Gf) (body : Sf) : List D -> Sf
 | [], ρ => some (.nx ρ)
 | d :: r, ρ => (g d ρ).bind fun ρ1 => (body ρ1).bind fun o => match o with
   | .nx ρ2 => forF g body r ρ2
   | .ct ρ2 => forF g body r ρ2
   | .bk ρ2 => some (.nx ρ2)
   | o => some o
def sFor (src : Lf) (g : Gf) (body : Sf) : Sf := fun ρ => (src ρ).bind fun ds => forF g body ds ρ
theorem ps_forF {gt : Gf} {body : List Stmt} {fb : Sf} (hp : PassesOwn (model X.prog X.w) X.A X.env X.xe) (hc : X.calm = true) (hi : PFI X tg iter gi) (hg : PFG X tg gt) (hb : PFSs X body fb) (hs : ∀ x, foldedSetIterable iter X.env x = pure x := by intro _; rfl) :
   PFS X (.For tg iter body [] pos) (sFor gi gt fb) := by
 refine PS.to (ps_for hp hc hi hg hb hs) ?_
 rintro D σ H ⟨G0, H0, G, ρ, o, good, hf, k⟩
 unfold sFor at hf
 obtain ⟨ds, h1, hf⟩ := Option.bind_eq_some_iff.mp hf
 refine ⟨G0, H0, G, ρ, ds, good, h1, fun J H1 G1 s1 y => ?_⟩
 refine ⟨fun i m σ H => m = ds.length - i /\ i <= ds.length /\ ∃ G2 ρ2, Same G1 G2 /\ Good X.K G0 H0 G2 H σ ρ2 /\ forF gt fb (ds.drop i) ρ2 = some o, ⟨ds.length, by simp, Nat.zero_le _, G1, ρ, Same.refl _, good.step s1, by simpa using hf⟩, ?_⟩
 rintro i m σ2 H2 ⟨rfl, hi', G2, ρ2, sg, good2, hf2⟩
 obtain ⟨y1, y2⟩ := y i G2 H2 sg good2.sub
 by_cases hlt : i < ds.length
 · obtain ⟨go, yl⟩ := y1 ds[i] (List.getElem?_eq_getElem hlt)
   rw [List.drop_eq_getElem_cons hlt] at hf2
   unfold forF at hf2
   obtain ⟨ρ3, e1, hf2⟩ := Option.bind_eq_some_iff.mp hf2
   obtain ⟨o1, e2, hf2⟩ := Option.bind_eq_some_iff.mp hf2
   refine .inr ⟨go, fun σ' H' => ∃ G' ρ', Same G1 G' /\ Good X.K G0 H0 G' H' σ' ρ' /\ forF gt fb (ds.drop (i + 1)) ρ' = some o, fun σ' H' ⟨G', ρ', a1, a2, a3⟩ => ⟨ds.length - (i + 1), by omega, rfl, hlt, G', ρ', a1, a2, a3⟩, fun x H3 yx => ?_⟩
   obtain ⟨G3, s3, r3⟩ := yl x H3 yx
   refine ⟨G0, H0, G3, ρ2, _, ρ3, good2.step s3, r3, e1, fun σ4 H4 G4 s4 good4 => ?_⟩
   have sg4 : Same G1 G4 := (sg.trans s3.gg).trans s4.gg
   refine ⟨G0, H0, G4, ρ3, o1, good4, e2, ?_⟩
   cases o1 with
   | nx ρ5 => exact fun σ5 H5 G5 s5 good5 => ⟨G5, ρ5, sg4.trans s5, good5, hf2⟩
   | ct ρ5 => exact fun σ5 H5 G5 s5 good5 => ⟨G5, ρ5, sg4.trans s5, good5, hf2⟩
   | bk ρ5 => cases hf2; exact fun σ5 H5 G5 s5 good5 => k σ5 H5 G5 ((s1.gg.trans sg4).trans s5) good5
   | rt d => cases hf2; exact k
   | rl d => cases hf2; exact k
 · have e : i = ds.length := by omega
   subst e
   rw [List.drop_length] at hf2
   cases hf2
   exact .inl ⟨y2 (Nat.le_refl _), k σ2 H2 G2 (s1.gg.trans sg) good2⟩
def mapF (g : Gf) (t : Tf) (elt : Ef) : List D -> List B -> List D -> Option (List D)
 | [], _, acc => some acc
 | d :: r, ρ, acc => (g d ρ).bind fun ρ1 => (t ρ1).bind fun c => if c = true then (elt ρ1).bind fun y => mapF g t elt r ρ1 (acc ++ [y]) else mapF g t elt r ρ1 acc
def upB (m : Nat) (js : List Nat) (ρ : List B) : List B := List.replicate m .no ++ js.map fun j => match ρ[j]? with | some (.fz d) => .fz d | _ => .no
def lComp (src : Lf) (m : Nat) (js : List Nat) (g : Gf) (t : Tf) (elt : Ef) : Lf := fun ρ => ((src ρ).bind okL).bind fun ds => mapF g t elt ds (upB m js ρ) []
theorem Good.up {K : PySem.W.Frag} {G0 H0 G H : Hp} {σ : St} {ρ : List B} (g : Good K G0 H0 G H σ ρ) (m : Nat) (js : List Nat) : Good K G H G H (upC m js σ) (upB m js ρ) := by
 refine ⟨.refl g.sub, ?_, fun i j a ds es h1 => ?_⟩
 · unfold upC upB
   have rep : ∀ m : Nat, Paired (RB K H G H) (List.replicate m (none : Option V)) (List.replicate m B.no) := fun m => by
     induction m with
     | zero => exact .nil
     | succ n ih => rw [List.replicate_succ, List.replicate_succ]; exact .cons .no ih
   have app : ∀ {l1 l2 : List (Option V)} {r1 r2 : List B}, Paired (RB K H G H) l1 r1 -> Paired (RB K H G H) l2 r2 -> Paired (RB K H G H) (l1 ++ l2) (r1 ++ r2) := fun h1 h2 => by
     induction h1 with
     | nil => exact h2
     | cons q t ih => exact .cons q ih
   refine app (rep m) ?_
   induction js with
   | nil => exact .nil
   | cons j r ih =>
     rw [List.map_cons, List.map_cons]
     refine .cons ?_ ih
     cases e : ρ[j]? with
     | none => exact .no
     | some b =>
       obtain ⟨o, e1, r1⟩ := Paired.get g.vals e
       cases r1 with
       | no => exact .no
       | fz q => rw [e1]; exact .fz q
       | ow q1 q2 q3 q4 => exact .no
       | od q1 q2 q3 q4 q5 q6 => exact .no
 · unfold upB at h1
   by_cases hi : i < m
   · rw [List.getElem?_append_left (by simpa using hi), List.getElem?_replicate] at h1
     split at h1 <;> cases h1
   · rw [List.getElem?_append_right (by simpa using hi), List.getElem?_map] at h1
     obtain ⟨k, _, h1⟩ := Option.map_eq_some_iff.mp h1
     split at h1 <;> cases h1
theorem upB_noow (m : Nat) (js : List Nat) (ρ : List B) : NoOw (upB m js ρ) := by
 constructor
 all_goals
   intro i es h1
   unfold upB at h1
   by_cases hi : i < m
   · rw [List.getElem?_append_left (by simpa using hi), List.getElem?_replicate] at h1
     split at h1 <;> cases h1
   · rw [List.getElem?_append_right (by simpa using hi), List.getElem?_map] at h1
     obtain ⟨k, _, h1⟩ := Option.map_eq_some_iff.mp h1
     split at h1 <;> cases h1
theorem Good.wrX {K : PySem.W.Frag} {G0 H0 G H : Hp} {σ : St} {ρ : List B} {p : Addr} {o : HO} (g : Good K G0 H0 G H σ ρ) (n : NoOw ρ) (gp : G p = none) (h0 : H0 p = none) : Good K G0 H0 G (upd H p o) σ ρ := by
 refine ⟨⟨fun b u e => ?_, g.st.gg, fun b u e => ?_, g.st.new⟩, ?_, g.apart⟩
 · rw [upd_ne (ne_of_none e h0)]; exact g.st.hh b u e
 · rw [upd_ne (ne_of_none e gp)]; exact g.st.sub b u e
 · have key : ∀ (l : List (Option V)) (r : List B), Paired (RB K H0 G H) l r -> NoOw r -> Paired (RB K H0 G (upd H p o)) l r := by
     intro l r q
     induction q with
     | nil => intro _; exact .nil
     | @cons x b l' r' q t ih =>
       intro n
       refine .cons ?_ (ih ⟨fun j es e => n.1 (j + 1) es (by simpa using e), fun j es e => n.2 (j + 1) es (by simpa using e)⟩)
       cases q with
       | no => exact .no
       | fz r => exact .fz r
       | ow _ _ _ _ => exact absurd rfl (n.1 0 _)
       | od _ _ _ _ _ _ => exact absurd rfl (n.2 0 _)
   exact key σ ρ g.vals n
theorem comp_imp {K : PySem.W.Frag} {m : Nat} {js : List Nat} {gt : Gf} {t : Tf} {el : Ef} (hgo : GfOk gt) {σ : St} {H : Hp} {Q : VK} (h : tFr K (lComp gi m js gt t el) σ H Q) : tComp (tFI K gi) m js (tFG K gt) (tFT K t) (tF K el) σ H Q := by
 obtain ⟨G0, H0, G, ρ, out, good, hf, k⟩ := h
 unfold lComp at hf
 obtain ⟨ds, h1, hf⟩ := Option.bind_eq_some_iff.mp hf
 obtain ⟨ds', h1, h1'⟩ := Option.bind_eq_some_iff.mp h1
 obtain ⟨rfl, hlen⟩ := okL_inv h1'
 refine ⟨G0, H0, G, ρ, _, good, h1, fun J H1 G1 s1 y D hD => ?_⟩
 have good1 := (good.step s1).up m js
 have hGD : G1 D = none := s1.sub.free hD
 refine ⟨fun i n σ2 H2 => n = ds.length - i /\ i <= ds.length /\ ∃ G2 ρ2 acc us, Same G1 G2 /\ G2 D = none /\ H2 D = some (.lst us) /\ Reps K G2 acc us /\ acc.length <= i /\ NoOw ρ2 /\ Good K G1 H1 G2 H2 σ2 ρ2 /\ mapF gt t el (ds.drop i) ρ2 acc = some out,
   ⟨ds.length, by simp, Nat.zero_le _, G1, upB m js ρ, [], [], Same.refl _, hGD, upd_same, reps_nil.mpr rfl, Nat.le_refl _, upB_noow _ _ _, good1.step (Step.own s1.sub hD), by simpa using hf⟩, ?_⟩
 rintro i n σ2 H2 ⟨rfl, hi, G2, ρ2, acc, us, sg, gD, hD2, rs, hal, now, good2, hf2⟩
 obtain ⟨y1, y2⟩ := y i G2 H2 sg good2.sub
 by_cases hlt : i < ds.length
 · obtain ⟨go, yl⟩ := y1 ds[i] (List.getElem?_eq_getElem hlt)
   rw [List.drop_eq_getElem_cons hlt] at hf2
   unfold mapF at hf2
   obtain ⟨ρ3, e1, hf2⟩ := Option.bind_eq_some_iff.mp hf2
   obtain ⟨c, e2, hf2⟩ := Option.bind_eq_some_iff.mp hf2
   have now3 := hgo _ _ _ e1 now
   refine .inr ⟨go, fun x H3 yx => ?_⟩
   obtain ⟨G3, s3, r3⟩ := yl x H3 yx
   refine ⟨G1, H1, G3, ρ2, _, ρ3, good2.step s3, r3, e1, fun σ4 H4 G4 s4 good4 => ?_⟩
   refine ⟨G1, H1, G4, ρ3, c, good4, e2, fun H5 G5 s5 => ?_⟩
   have s35 := (s3.trans s4).trans s5
   have hne : H2 D ≠ none := by rw [hD2]; exact fun z => nomatch z
   split at hf2
   · rename_i hc
     show if c = true then _ else _
     rw [if_pos hc]
     obtain ⟨yd, e3, hf2⟩ := Option.bind_eq_some_iff.mp hf2
     refine ⟨G1, H1, G5, ρ3, yd, good4.step s5, e3, fun v H6 G6 s6 r6 => ?_⟩
     have s36 := s35.trans s6
     have hD6 : H6 D = some (.lst us) := s36.hh _ _ hD2
     have gD6 : G6 D = none := (s36.new D hne).trans gD
     refine ⟨us, ds.length - (i + 1), hD6, ?_, by omega, rfl, hlt, G6, ρ3, acc ++ [yd], us ++ [v], sg.trans s36.gg, gD6, upd_same, (rs.mono s36.gg).snoc r6, by rw [List.length_append, List.length_singleton]; omega, now3, ((good4.step s5).step s6).wrX now3 gD6 hD, hf2⟩
     rw [← rs.length]
     exact lim_ok (Nat.le_trans hal (Nat.le_trans hi hlen))
   · rename_i hc
     show if c = true then _ else _
     rw [if_neg hc]
     exact ⟨ds.length - (i + 1), by omega, rfl, hlt, G5, ρ3, acc, us, sg.trans s35.gg, (s35.new D hne).trans gD, s35.hh _ _ hD2, rs.mono s35.gg, by omega, now3, good4.step s5, hf2⟩
 · have e : i = ds.length := by omega
   subst e
   rw [List.drop_length] at hf2
   cases hf2
   exact .inl ⟨y2 (Nat.le_refl _), k D us H2 G2 (s1.trans good2.st) (s1.hh.free hD) hD2 gD rs⟩
def tOK : Tf := fun _ => some true
def PFIfs (X : Cx) (ifs : List Expr) (t : Tf) : Prop := PIfs X ifs (tFT X.K t)
theorem pifs_nilF {X : Cx} : PFIfs X [] tOK := fun pins s σ H Q I h => pifs_nil pins s σ H Q I (by
 obtain ⟨G0, H0, G, ρ, b, good, hf, k⟩ := h
 cases hf
 exact k H G (.refl good.sub))
theorem pl_comp (sc : Scope) (N tgs frees : List Str) (js : List Nat) {scope : Scope} {gt : Gf} {t : Tf} {el : Ef} (hgo : GfOk gt) (hp : PFI X tg iter gi) (hc : X.calm = true) (hsc : X.env.scope = sc) (hNN : X.N = N) (hok : compOk sc scope N tgs frees js = true)
   (hg : ∀ C s₀ H₀ fp, PFG (compCx X (tgs ++ frees) scope C s₀ H₀ fp) tg gt) (hi : ∀ C s₀ H₀ fp, PFIfs (compCx X (tgs ++ frees) scope C s₀ H₀ fp) ifs t) (he : ∀ C s₀ H₀ fp, PF (compCx X (tgs ++ frees) scope C s₀ H₀ fp) elt el)
   (hs : ∀ x, foldedSetIterable iter X.env x = pure x := by intro _; rfl) :
   PFr X (.ListComp elt [⟨tg, iter, ifs, 0⟩] scope pos) (lComp gi tgs.length js gt t el) :=
 PE.toR (pe_comp (g := tFG X.K gt) (tc := tFT X.K t) (te := tF X.K el) sc tgs frees js hp hc hsc (by rw [hNN]; exact hok) hg hi he hs) fun σ H Q h => comp_imp hgo h
theorem ps_compOwn (sc : Scope) (N tgs frees : List Str) (js : List Nat) {scope : Scope} {gt : Gf} {t : Tf} {el : Ef} (hgo : GfOk gt) (i : Nat) {x : Str} {pos' spos : Pos} (hN : X.N.Nodup) (hx : X.N[i]? = some x) (hl : X.env.scope.names.lookup x = some .local) (hp : PFI X tg iter gi) (hc : X.calm = true) (hsc : X.env.scope = sc) (hNN : X.N = N) (hok : compOk sc scope N tgs frees js = true)
   (hg : ∀ C s₀ H₀ fp, PFG (compCx X (tgs ++ frees) scope C s₀ H₀ fp) tg gt) (hi : ∀ C s₀ H₀ fp, PFIfs (compCx X (tgs ++ frees) scope C s₀ H₀ fp) ifs t) (he : ∀ C s₀ H₀ fp, PF (compCx X (tgs ++ frees) scope C s₀ H₀ fp) elt el)
   (hsw : swapsWith (.ListComp elt [⟨tg, iter, ifs, 0⟩] scope pos) (some (.Name x pos')) spos.line X.env = pure true := by with_unfolding_all rfl) (hs : ∀ x, foldedSetIterable iter X.env x = pure x := by intro _; rfl) :
   PFS X (.Assign [.Name x pos'] (.ListComp elt [⟨tg, iter, ifs, 0⟩] scope pos) spos) (sOwn i (lComp gi tgs.length js gt t el)) :=
 PS.to (ps_setComp (g := tFG X.K gt) (tc := tFT X.K t) (te := tF X.K el) sc tgs frees js hN hx hl hp hc hsc (by rw [hNN]; exact hok) hg hi he hsw hs) fun D σ H h => sOwn_imp (fun _ _ _ q => comp_imp hgo q) h
end
end L2
namespace L2
open PySem PySem.Spec PyProof.Rows
section
variable {X : Cx} {a b c e tg elt iter : Expr} {es ifs : List Expr} {fa fb fc : Ef} {ga gi : Lf} {ta tc : Tf} {pos : Pos} {st : Stmt} {sts rest : List Stmt} {f g : Sf}
def sApp (i : Nat) (f : Ef) : Sf := fun ρ => (f ρ).bind fun d => match ρ[i]? with | some (.ow ds) => if ds.length < lim then some (.nx (ρ.set i (.ow (ds ++ [d])))) else none | _ => none
theorem ps_app (i : Nat) (ht : PE X c (tBM X.K "list" rAppend (tVar i) (tCons (tF X.K fa) tNil))) (hs : swapsWith c none pos.line X.env = pure false := by rfl) : PFS X (.Expr c pos) (sApp i fa) := by
 refine PS.to (ps_expr ht hs) ?_
 rintro D σ H ⟨G0, H0, G, ρ, o, good, hf, k⟩
 unfold sApp at hf
 obtain ⟨d, h1, hf⟩ := Option.bind_eq_some_iff.mp hf
 split at hf
 · rename_i ds hi
   split at hf
   · rename_i hl
     cases hf
     obtain ⟨p, vs, e1, e2, e3, e4, e5⟩ := good.addr hi
     refine ⟨.ref p, e1, .inl ⟨rfl, vs, .of e2⟩, G0, H0, G, ρ, d, good, h1, fun v H1 G1 s1 r1 => ?_⟩
     have good1 := good.step s1
     obtain ⟨p', vs', f1, f2, f3, f4, f5⟩ := good1.addr hi
     rw [e1] at f1; cases f1
     exact ⟨p, vs', v, rfl, rfl, f2, by rw [← f5.length]; exact lim_ok (Nat.le_of_lt hl), k σ _ G1 s1.gg (good1.wr hi e1 (f5.snoc r1))⟩
   · cases hf
 · cases hf
def sPop (j i : Nat) (f : Ef) : Sf := fun ρ => (f ρ).bind fun d => match d, ρ[i]? with
 | .int n, some (.ow ds) => if ds.length <= lim then (ixN ds.length n).bind fun q => (ds[q]?).map fun x => .nx ((ρ.set i (.ow (ds.eraseIdx q))).set j (.fz x)) else none
 | _, _ => none
theorem ps_popF (j i : Nat) {y : Str} {p4 : Pos} (hNd : X.N.Nodup) (ht : PE X c (tBM X.K "list" rPopAt (tVar i) (tCons (tF X.K fa) tNil))) (hj : X.N[j]? = some y := by rfl) (hjx : Loc X.env.scope y := by first | exact .inl rfl | exact .inr rfl)
   (hs : swapsWith c (some (.Name y p4)) pos.line X.env = pure false := by rfl) (hfn : X.fn y = true ∨ X.env.scope.names.lookup y = some .local := by first | exact .inl rfl | exact .inr rfl) :
   PFS X (.Assign [.Name y p4] c pos) (sPop j i fa) := by
 refine PS.to (ps_set hNd hj hjx ht hs hfn) ?_
 rintro D σ H ⟨G0, H0, G, ρ, o, good, hf, k⟩
 unfold sPop at hf
 obtain ⟨d, h1, hf⟩ := Option.bind_eq_some_iff.mp hf
 split at hf
 · rename_i n ds hi
   split at hf
   · rename_i hl
     obtain ⟨q, hq, hf⟩ := Option.bind_eq_some_iff.mp hf
     obtain ⟨x', hx, rfl⟩ := Option.map_eq_some_iff.mp hf
     obtain ⟨p, vs, e1, e2, e3, e4, e5⟩ := good.addr hi
     refine ⟨.ref p, e1, .inl ⟨rfl, vs, .of e2⟩, G0, H0, G, ρ, _, good, h1, fun v H1 G1 s1 r1 => ?_⟩
     have good1 := good.step s1
     obtain ⟨p', vs', f1, f2, f3, f4, f5⟩ := good1.addr hi
     rw [e1] at f1; cases f1
     obtain ⟨w, hw, rw'⟩ := f5.get hx
     have hlen := f5.length
     rw [hlen] at hq
     obtain ⟨q1, q2, q3, q4⟩ := ixN_seq hq
     have hb : vs'.length < 2 ^ 40 := by rw [← hlen]; exact Nat.lt_of_le_of_lt hl (by decide)
     refine ⟨p, vs', n, q, w, rfl, by rw [rep_int.mp r1], f2, by omega, by omega, q1, hw, ?_⟩
     exact k _ _ G1 s1.gg ((good1.wr hi e1 (f5.erase q)).setF j rw')
   · cases hf
 · cases hf
def sItem (i : Nat) (fi fv : Ef) : Sf := fun ρ => (fv ρ).bind fun d => (fi ρ).bind fun n => match n, ρ[i]? with
 | .int n, some (.ow ds) => if ds.length <= lim then (ixN ds.length n).map fun q => .nx (ρ.set i (.ow (ds.set q d))) else none
 | _, _ => none
theorem ps_item (i : Nat) {x : Str} {p1 p2 : Pos} (he : PF X e fa) (hb : PF X b fb) (hN : X.N[i]? = some x := by rfl) (hv : Vis X.env.scope x := by first | exact Or.inl rfl | exact Or.inr (Or.inl rfl) | exact Or.inr (Or.inr rfl)) (hd : (x == ("__debug__" : Str)) = false := by decide) (hcd : (x == ("__classdict__" : Str)) = false := by decide)
   (ha : ∀ v, assign (.Subscript (.Name x p1) b p2) X.env v = (do
     let ov ← holding [v] (eval (.Name x p1) X.env)
     let iv ← holding [v, ov] (eval b X.env)
     standAt p2
     holding [v, ov, iv] (setItem ov iv v)
     release [v, ov, iv] []) := by intro _; rfl)
   (hs : swapsWithSole [.Subscript (.Name x p1) b p2] e pos.line X.env = pure false := by rfl) (hw : swappedStores [.Subscript (.Name x p1) b p2] e X.env = pure none := by rfl)
   (h1 : (assignEach [.Subscript (.Name x p1) b p2] X.env).map (·.2) = [assign (.Subscript (.Name x p1) b p2) X.env] := by rfl) : PFS X (.Assign [.Subscript (.Name x p1) b p2] e pos) (sItem i fb fa) := by
 refine PS.to (ps_asg he (pg_sub (pe_var hN hv hd hcd) hb set_list ha) hs hw h1) ?_
 rintro D σ H ⟨G0, H0, G, ρ, o, good, hf, k⟩
 unfold sItem at hf
 obtain ⟨d, h1, hf⟩ := Option.bind_eq_some_iff.mp hf
 obtain ⟨n, h2, hf⟩ := Option.bind_eq_some_iff.mp hf
 split at hf
 · rename_i n ds hi
   split at hf
   · rename_i hl
     obtain ⟨q, hq, rfl⟩ := Option.map_eq_some_iff.mp hf
     refine ⟨G0, H0, G, ρ, d, good, h1, fun v H1 G1 s1 r1 => ?_⟩
     have good1 := good.step s1
     obtain ⟨p, vs, e1, e2, e3, e4, e5⟩ := good1.addr hi
     refine ⟨.ref p, e1, G0, H0, G1, ρ, _, good1, h2, fun u H2 G2 s2 r2 => ?_⟩
     have good2 := good1.step s2
     obtain ⟨p', vs', f1, f2, f3, f4, f5⟩ := good2.addr hi
     rw [e1] at f1; cases f1
     refine ⟨p, vs', n, q, rfl, rep_int.mp r2, f2, by rw [← f5.length]; exact hq, ?_⟩
     exact k _ _ G2 (s1.gg.trans s2.gg) (good2.wr hi e1 (f5.set q (r1.mono s2.gg)))
   · cases hf
 · cases hf
def lenD : D -> Option D
 | .tup ds => some (.int ds.length)
 | .lst ds => some (.int ds.length)
 | .str z => if z.length <= lim then some (.int z.length) else none
 | _ => none
def eLen (f : Ef) : Ef := fun ρ => (f ρ).bind lenD
theorem pf_len {p : Pos} (hg : Gl X "len") (hm : X.mg "len" = none) (h : PF X a fa) (hs : starEach [a] X.env = [(false, eval a X.env)] := by rfl) : PF X (.Call (.Name "len" p) [a] [] pos) (eLen fa) := by
 refine PE.to (pe_callB (call_len_seq.or call_len_str) hg hm PySem.boot_len (pa_cons h pa_nil (by rw [hs]; rfl)) (by decide) (by decide) (by rw [hs]; rfl) (by rfl)) ?_
 rintro σ H Q ⟨G0, H0, G, ρ, d, good, hf, k⟩
 unfold eLen at hf
 obtain ⟨x, h1, hf⟩ := Option.bind_eq_some_iff.mp hf
 refine ⟨G0, H0, G, ρ, _, good, h1, fun v H1 G1 s1 r1 => ?_⟩
 unfold lenD at hf
 split at hf
 · cases hf
   obtain ⟨p, vs, rfl, q, rs⟩ := rep_tup.mp r1
   exact .inl ⟨p, vs, rfl, .inr (s1.sub.tup q), k _ _ G1 s1 (rep_int.mpr (by rw [rs.length]))⟩
 · cases hf
   obtain ⟨p, vs, rfl, q, rs⟩ := rep_lst.mp r1
   exact .inl ⟨p, vs, rfl, .inl (s1.sub.seq q), k _ _ G1 s1 (rep_int.mpr (by rw [rs.length]))⟩
 · split at hf
   · rename_i hz
     cases hf
     exact .inr ⟨_, by rw [rep_str.mp r1], Nat.le_of_lt (lim_ok hz), k _ _ G1 s1 (rep_int.mpr rfl)⟩
   · cases hf
 · cases hf
def eLenO (i : Nat) : Ef := fun ρ => match ρ[i]? with | some (.ow ds) => some (.int ds.length) | _ => none
theorem pf_lenO (i : Nat) {x : Str} {p p1 : Pos} (hg : Gl X "len") (hm : X.mg "len" = none) (hN : X.N[i]? = some x := by rfl) (hv : Vis X.env.scope x := by first | exact Or.inl rfl | exact Or.inr (Or.inl rfl) | exact Or.inr (Or.inr rfl)) (hd : (x == ("__debug__" : Str)) = false := by decide) (hcd : (x == ("__classdict__" : Str)) = false := by decide) : PF X (.Call (.Name "len" p) [.Name x p1] [] pos) (eLenO i) := by
 refine PE.to (pe_callB call_len_seq hg hm PySem.boot_len (pa_cons (pe_var hN hv hd hcd) pa_nil)) ?_
 rintro σ H Q ⟨G0, H0, G, ρ, d, good, hf, k⟩
 unfold eLenO at hf
 split at hf
 · rename_i ds hi
   cases hf
   obtain ⟨q, vs, e1, e2, e3, e4, e5⟩ := good.addr hi
   exact ⟨.ref q, e1, q, vs, rfl, .inl (.of e2), k _ _ G (.refl good.sub) (rep_int.mpr (by rw [e5.length]))⟩
 · cases hf
def tupD : D -> Option D | .lst ds => some (.tup ds) | .tup ds => some (.tup ds) | _ => none
def eTupOf (f : Ef) : Ef := fun ρ => (f ρ).bind tupD
theorem pf_tupOf {p : Pos} (hg : Gl X "tuple") (hm : X.mg "tuple" = none) (h : PF X a fa) (hs : starEach [a] X.env = [(false, eval a X.env)] := by rfl) : PF X (.Call (.Name "tuple" p) [a] [] pos) (eTupOf fa) := by
 refine PE.to (pe_callTy call_tuple_of hg hm (by rfl) (pa_cons h pa_nil (by rw [hs]; rfl)) (by decide) (by decide) (by rw [hs]; rfl) (by rfl)) ?_
 rintro σ H Q ⟨G0, H0, G, ρ, d, good, hf, k⟩
 unfold eTupOf at hf
 obtain ⟨x, h1, hf⟩ := Option.bind_eq_some_iff.mp hf
 refine ⟨G0, H0, G, ρ, _, good, h1, fun v H1 G1 s1 r1 => ?_⟩
 unfold tupD at hf
 split at hf
 · cases hf
   obtain ⟨p, vs, rfl, q, rs⟩ := rep_lst.mp r1
   refine ⟨p, vs, rfl, .inl ⟨s1.sub.seq q, fun l hl => ?_⟩⟩
   have s2 := Step.laid (o := .tup vs) s1.sub hl
   exact k _ _ _ (s1.trans s2) (rep_tup.mpr ⟨l, vs, rfl, .of upd_same, rs.mono s2.gg⟩)
 · cases hf
   obtain ⟨p, vs, rfl, q, rs⟩ := rep_tup.mp r1
   exact ⟨p, vs, rfl, .inr ⟨s1.sub.tup q, k _ _ G1 s1 r1⟩⟩
 · cases hf
def itemsD : D -> Option (List D) | .lst ds => some ds | .tup ds => some ds | _ => none
def lListOf (f : Ef) : Lf := fun ρ => (f ρ).bind itemsD
theorem pl_listOf {p : Pos} (hg : Gl X "list") (hm : X.mg "list" = none) (h : PF X a fa) (hs : starEach [a] X.env = [(false, eval a X.env)] := by rfl) : PFr X (.Call (.Name "list" p) [a] [] pos) (lListOf fa) := by
 refine PE.toR (pe_callTy call_list_of hg hm (by rfl) (pa_cons h pa_nil (by rw [hs]; rfl)) (by decide) (by decide) (by rw [hs]; rfl) (by rfl)) ?_
 rintro σ H Q ⟨G0, H0, G, ρ, d, good, hf, k⟩
 unfold lListOf at hf
 obtain ⟨x, h1, hf⟩ := Option.bind_eq_some_iff.mp hf
 refine ⟨G0, H0, G, ρ, _, good, h1, fun v H1 G1 s1 r1 => ?_⟩
 unfold itemsD at hf
 split at hf
 · cases hf
   obtain ⟨p, vs, rfl, q, rs⟩ := rep_lst.mp r1
   exact ⟨p, vs, rfl, .inl (s1.sub.seq q), fun l hl => k l vs _ G1 (s1.trans (Step.own s1.sub hl)) (s1.hh.free hl) upd_same (s1.sub.free hl) rs⟩
 · cases hf
   obtain ⟨p, vs, rfl, q, rs⟩ := rep_tup.mp r1
   exact ⟨p, vs, rfl, .inr (s1.sub.tup q), fun l hl => k l vs _ G1 (s1.trans (Step.own s1.sub hl)) (s1.hh.free hl) upd_same (s1.sub.free hl) rs⟩
 · cases hf
end
end L2
namespace L2
open PySem PySem.Spec PyProof.Rows
def spF (K : PySem.W.Frag) (n : Nat) (f : List D -> Option D) : Sp := fun vs H Q _ => ∃ G ds d, Same G H /\ Reps K G ds vs /\ ds.length = n /\ f ds = some d /\ ∀ v H' G', Step G H G' H' -> Rep K G' d v -> Q v H'
def spL (K : PySem.W.Frag) (n : Nat) (f : List D -> Option (List D)) : Sp := fun vs H Q _ => ∃ G ds es, Same G H /\ Reps K G ds vs /\ ds.length = n /\ f ds = some es /\ ∀ a us H' G', Step G H G' H' -> H a = none -> H' a = some (.lst us) -> G' a = none -> Reps K G' es us -> Q (.ref a) H'
def startB (N : Nat) (ds : List D) : List B := ds.map .fz ++ List.replicate (N - ds.length) .no
def outD : Out -> Option D
 | .nx _ => some .non
 | .rt d => some d
 | .rl ds => some (.lst ds)
 | _ => none
def outL : Out -> Option (List D)
 | .rl ds => some ds
 | _ => none
def fnF (N : Nat) (body : Sf) (ds : List D) : Option D := (body (startB N ds)).bind outD
def fnL (N : Nat) (body : Sf) (ds : List D) : Option (List D) := (body (startB N ds)).bind outL
theorem good_start {K : PySem.W.Frag} {G H : Hp} {N : List Str} {ds : List D} {vs : List V} (s : Same G H) (r : Reps K G ds vs) : Good K G H G H (start N vs) (startB N.length ds) := by
 refine ⟨.refl s, ?_, fun i j a es es' h1 => ?_⟩
 · unfold start startB
   rw [r.length]
   have rep : ∀ m : Nat, Paired (RB K H G H) (List.replicate m (none : Option V)) (List.replicate m B.no) := fun m => by
     induction m with
     | zero => exact .nil
     | succ n ih => rw [List.replicate_succ, List.replicate_succ]; exact .cons .no ih
   have key : ∀ (ds : List D) (vs : List V) (l : List (Option V)) (q : List B), Reps K G ds vs -> Paired (RB K H G H) l q -> Paired (RB K H G H) (vs.map some ++ l) (ds.map .fz ++ q) := by
     intro ds
     induction ds with
     | nil => intro vs l q h p; rw [reps_nil] at h; subst h; exact p
     | cons d r ih =>
       intro vs l q h p
       obtain ⟨v, vr, rfl, h1, h2⟩ := reps_cons.mp h
       exact .cons (.fz h1) (ih vr l q h2 p)
   exact key ds vs _ _ r (rep _)
 · unfold startB at h1
   by_cases hi : i < ds.length
   · rw [List.getElem?_append_left (by simpa using hi), List.getElem?_map] at h1
     obtain ⟨k, _, h1⟩ := Option.map_eq_some_iff.mp h1
     cases h1
   · rw [List.getElem?_append_right (by simpa using hi), List.getElem?_replicate] at h1
     split at h1 <;> cases h1
section
variable {P : Program} {w : World} {K : PySem.W.Frag} {mg : Str -> Option Value} {base : Heap} {x qual : Str} {st : Stmt} {f : Addr} {fd : FuncData} {N ps : List Str} {k : Nat}
theorem ok_fn {body : Sf} (F : Fun K x qual st f fd) (S : FnScope N ps (defScope st))
   (hb : ∀ (cdv : Value) (A : Around) (outer : List Env) (s : Shared) (H : Hp) (E : XK), Room k (A.deeper (envOfC qual (defScope st) s.heap.objs.size f cdv)) -> PFSs (cxOf CX0 P w K mg base N qual (defScope st) f cdv A outer s H E).nox (defBody st) body) :
   FnOk P w K mg base CX0 (k + 1) f fd ps (spF K ps.length (fnF N.length body)) := by
 refine F.ok S (fun vs H Q E h => ?_) (fun cdv A outer s H vs Q E hr h => ⟨_, hb cdv A outer s H E hr, ?_⟩)
 · obtain ⟨G, ds, d, sub, rs, hl, _⟩ := h
   rw [← rs.length]; exact hl
 · obtain ⟨G, ds, d, sub, rs, hl, hf, k⟩ := h
   unfold fnF at hf
   obtain ⟨o, h1, h2⟩ := Option.bind_eq_some_iff.mp hf
   refine ⟨G, H, G, _, o, good_start sub rs, h1, ?_⟩
   cases o with
   | nx ρ => cases h2; exact fun σ' H' G' s' g' => k .non H' G' g'.st (rep_non.mpr rfl)
   | rt e => cases h2; exact fun v H' G' s' r => k v H' G' s' r
   | rl es => cases h2; exact fun p us H' G' s' hn hp gp r => k _ H' (upd G' p (.lst us)) (s'.frz hn hp gp) (rep_lst.mpr ⟨p, us, rfl, .of upd_same, r.mono (Same.new gp)⟩)
   | bk ρ => cases h2
   | ct ρ => cases h2
theorem ok_fnL {body : Sf} (F : Fun K x qual st f fd) (S : FnScope N ps (defScope st))
   (hb : ∀ (cdv : Value) (A : Around) (outer : List Env) (s : Shared) (H : Hp) (E : XK), Room k (A.deeper (envOfC qual (defScope st) s.heap.objs.size f cdv)) -> PFSs (cxOf CX0 P w K mg base N qual (defScope st) f cdv A outer s H E).nox (defBody st) body) :
   FnOk P w K mg base CX0 (k + 1) f fd ps (spL K ps.length (fnL N.length body)) := by
 refine F.ok S (fun vs H Q E h => ?_) (fun cdv A outer s H vs Q E hr h => ⟨_, hb cdv A outer s H E hr, ?_⟩)
 · obtain ⟨G, ds, d, sub, rs, hl, _⟩ := h
   rw [← rs.length]; exact hl
 · obtain ⟨G, ds, d, sub, rs, hl, hf, k⟩ := h
   unfold fnL at hf
   obtain ⟨o, h1, h2⟩ := Option.bind_eq_some_iff.mp hf
   refine ⟨G, H, G, _, o, good_start sub rs, h1, ?_⟩
   cases o with
   | rl es => cases h2; exact fun p us H' G' s' hn hp gp r => k p us H' G' s' hn hp gp r
   | _ => cases h2
theorem fn_never {CX : CXT} {n : Nat} : FnOk P w K mg base CX k f fd ps (spF K n fun _ => none) :=
 ⟨fun vs H Q E h => (by obtain ⟨_, _, _, _, _, _, z, _⟩ := h; exact nomatch z), fun A outer s H args us vs Q E _ _ _ _ h => (by obtain ⟨_, _, _, _, _, _, z, _⟩ := h; exact nomatch z)⟩
end
section
variable {X : Cx} {a b c e tg elt iter : Expr} {es ifs : List Expr} {fa fb fc : Ef} {ga gi : Lf} {ta tc : Tf} {pos p : Pos} {st : Stmt} {sts rest : List Stmt} {f g : Sf}
def eCall (n : Nat) (f : List D -> Option D) (g : Lf) : Ef := fun ρ => (g ρ).bind fun ds => if ds.length = n then f ds else none
theorem pf_call {k n : Nat} {fad : Addr} {fd : FuncData} {ps : List Str} {x : Str} {fD : List D -> Option D} (F : FnOk X.prog X.w X.K X.mg X.base CX0 k fad fd ps (spF X.K n fD)) (hr : Room k X.A) (hm : X.mg x = some (.ref fad)) (hk : PySem.W.keepIn X.K (.ref fad) = true) (hb : Binds X.K fd ps []) (hg : Gl X x)
   (ha : PFA X (e :: es) ga) (hdb : (x == ("__debug__" : Str)) = false := by decide) (he : starEach (e :: es) X.env = (false, eval e X.env) :: starEach es X.env := by rfl) (hpl : (backTo pos (starEach es X.env)).any (·.1) = false := by rfl) :
   PF X (.Call (.Name x p) (e :: es) [] pos) (eCall n fD ga) := by
 refine PE.to (pe_call (E := E0) F hr hg hm hk hb .nil pass0 ha hdb he hpl) ?_
 rintro σ H Q ⟨G0, H0, G, ρ, d, good, hf, k⟩
 unfold eCall at hf
 obtain ⟨ds, h1, hf⟩ := Option.bind_eq_some_iff.mp hf
 split at hf
 · rename_i hl
   refine ⟨G0, H0, G, ρ, _, good, h1, fun vs H1 G1 s1 r1 => ?_⟩
   show spF X.K n fD (vs ++ []) H1 Q E0
   rw [List.append_nil]
   exact ⟨G1, ds, d, s1.sub, r1, hl, hf, fun v H' G' s r => k v H' G' (s1.trans s) r⟩
 · cases hf
def lCall (n : Nat) (f : List D -> Option (List D)) (g : Lf) : Lf := fun ρ => (g ρ).bind fun ds => if ds.length = n then f ds else none
theorem pl_call {k n : Nat} {fad : Addr} {fd : FuncData} {ps : List Str} {x : Str} {fD : List D -> Option (List D)} (F : FnOk X.prog X.w X.K X.mg X.base CX0 k fad fd ps (spL X.K n fD)) (hr : Room k X.A) (hm : X.mg x = some (.ref fad)) (hk : PySem.W.keepIn X.K (.ref fad) = true) (hb : Binds X.K fd ps []) (hg : Gl X x)
   (ha : PFA X (e :: es) ga) (hdb : (x == ("__debug__" : Str)) = false := by decide) (he : starEach (e :: es) X.env = (false, eval e X.env) :: starEach es X.env := by rfl) (hpl : (backTo pos (starEach es X.env)).any (·.1) = false := by rfl) :
   PFr X (.Call (.Name x p) (e :: es) [] pos) (lCall n fD ga) := by
 refine PE.toR (pe_call (E := E0) F hr hg hm hk hb .nil pass0 ha hdb he hpl) ?_
 rintro σ H Q ⟨G0, H0, G, ρ, d, good, hf, k⟩
 unfold lCall at hf
 obtain ⟨ds, h1, hf⟩ := Option.bind_eq_some_iff.mp hf
 split at hf
 · rename_i hl
   refine ⟨G0, H0, G, ρ, _, good, h1, fun vs H1 G1 s1 r1 => ?_⟩
   show spL X.K n fD (vs ++ []) H1 Q E0
   rw [List.append_nil]
   exact ⟨G1, ds, d, s1.sub, r1, hl, hf, fun p us H' G' s hn hp gp r => k p us H' G' (s1.trans s) (s1.hh.free hn) hp gp r⟩
 · cases hf
def whileF (t : Tf) (body : Sf) : Nat -> Sf
 | 0, _ => none
 | n + 1, ρ => (t ρ).bind fun c => if c = true then (body ρ).bind fun o => match o with
     | .nx ρ2 => whileF t body n ρ2
     | .ct ρ2 => whileF t body n ρ2
     | .bk ρ2 => some (.nx ρ2)
     | o => some o
   else some (.nx ρ)
theorem ps_whileF (n : Nat) {body : List Stmt} {fb : Sf} (hp : PassesOwn (model X.prog X.w) X.A X.env X.xe) (hc : PFT X c tc) (hb : PFSs X body fb) : PFS X (.While c body [] pos) (whileF tc fb n) := by
 refine PS.to (ps_while hp hc hb) ?_
 rintro D σ H ⟨G0, H0, G, ρ, o, good, hf, k⟩
 refine ⟨fun m σ H => ∃ G2 ρ2, Same G G2 /\ Good X.K G0 H0 G2 H σ ρ2 /\ whileF tc fb m ρ2 = some o, ⟨n, G, ρ, Same.refl _, good, hf⟩, ?_⟩
 rintro m σ2 H2 ⟨G2, ρ2, sg, good2, hf2⟩
 cases m with
 | zero => cases hf2
 | succ m =>
   unfold whileF at hf2
   obtain ⟨c', h1, hf2⟩ := Option.bind_eq_some_iff.mp hf2
   refine ⟨G0, H0, G2, ρ2, c', good2, h1, fun H3 G3 s3 => ?_⟩
   cases c' with
   | true =>
     rw [if_pos rfl] at hf2
     obtain ⟨o1, e2, hf2⟩ := Option.bind_eq_some_iff.mp hf2
     refine ⟨fun σ' H' => ∃ G2 ρ2, Same G G2 /\ Good X.K G0 H0 G2 H' σ' ρ2 /\ whileF tc fb m ρ2 = some o, fun σ' H' h => ⟨m, Nat.lt_succ_self _, h⟩, ?_⟩
     refine ⟨G0, H0, G3, ρ2, o1, good2.step s3, e2, ?_⟩
     have sg3 : Same G G3 := sg.trans s3.gg
     cases o1 with
     | nx ρ5 => exact fun σ5 H5 G5 s5 good5 => ⟨G5, ρ5, sg3.trans s5, good5, hf2⟩
     | ct ρ5 => exact fun σ5 H5 G5 s5 good5 => ⟨G5, ρ5, sg3.trans s5, good5, hf2⟩
     | bk ρ5 => cases hf2; exact fun σ5 H5 G5 s5 good5 => k σ5 H5 G5 (sg3.trans s5) good5
     | rt d => cases hf2; exact k
     | rl d => cases hf2; exact k
   | false =>
     rw [if_neg (by decide)] at hf2
     cases hf2
     exact k σ2 H3 G3 (sg.trans s3.gg) (good2.step s3)
def tyD : D -> Option String
 | .non => some "NoneType"
 | .bl _ => some "bool"
 | .int _ => some "int"
 | .str _ => some "str"
 | .tup _ => some "tuple"
 | .lst _ => some "list"
 | _ => none
theorem isi_D {pins : List (Addr × Obj)} {σ : St} {H G : Hp} {s : Shared} {A : Around} {E : Value -> Shared -> Prop} {Q : Value -> Shared -> Prop} {d : D} {v : V} {u cl : Value} {t : String} {k : Bool} (I : Inv X pins σ H s) (rv : RelV v u) (sub : Same G H) (r : Rep X.K G d v) (ht : tyD d = some t)
   (e : PySem.W.kitOne X.K (.type t) cl = some k) (h : ∀ tk, Q (.bool k) { s with toks := tk }) : wpAny (model X.prog X.w) A (call (.builtin "isinstance") [u, cl]) Q E s := by
 cases d with
 | non => cases ht; rw [rep_non] at r; subst r; cases rv; exact PySem.W.kia_one PySem.W.kitx_none I.kIn True.intro e (fun z => nomatch z) h
 | bl y => cases ht; rw [rep_bl] at r; subst r; cases rv; exact PySem.W.kia_one PySem.W.kitx_bool I.kIn True.intro e (fun z => nomatch z) h
 | int i => cases ht; rw [rep_int] at r; subst r; obtain ⟨t, rfl⟩ := rv; exact PySem.W.kia_one PySem.W.kitx_int I.kIn True.intro e (fun z => nomatch z) h
 | str i => cases ht; rw [rep_str] at r; subst r; obtain ⟨t, rfl⟩ := rv; exact PySem.W.kia_one PySem.W.kitx_str I.kIn True.intro e (fun z => nomatch z) h
 | tup ds =>
   cases ht
   obtain ⟨p, vs, rfl, q, _⟩ := rep_tup.mp r
   cases rv
   obtain ⟨its, _, ⟨o, h1, h2, _⟩, _⟩ := I.tuple (sub.tup q)
   exact PySem.W.kia_one PySem.W.kitx_tuple I.kIn ⟨o, h1, h2⟩ e (fun z => nomatch z) h
 | lst ds =>
   cases ht
   obtain ⟨p, vs, rfl, q, _⟩ := rep_lst.mp r
   cases rv
   obtain ⟨its, _, ⟨o, n, h1, h2, _⟩, _⟩ := I.list (sub.seq q)
   exact PySem.W.kia_one PySem.W.kitx_list I.kIn ⟨o, h1, h2⟩ e (fun z => nomatch z) h
 | obj C ns ds => cases ht
 | exc C ns ds => cases ht
theorem kit_int (K : PySem.W.Frag) : ∀ t : String, t ∈ ["NoneType", "bool", "int", "str", "tuple", "list"] -> PySem.W.kitOne K (.type t) (.type "int") = some (decide (t = "bool" ∨ t = "int")) := by
 intro t ht
 simp only [List.mem_cons, List.not_mem_nil, or_false] at ht
 rcases ht with rfl | rfl | rfl | rfl | rfl | rfl <;> kernel_rfl
theorem kit_bool (K : PySem.W.Frag) : ∀ t : String, t ∈ ["NoneType", "bool", "int", "str", "tuple", "list"] -> PySem.W.kitOne K (.type t) (.type "bool") = some (decide (t = "bool")) := by
 intro t ht
 simp only [List.mem_cons, List.not_mem_nil, or_false] at ht
 rcases ht with rfl | rfl | rfl | rfl | rfl | rfl <;> kernel_rfl
theorem kit_str (K : PySem.W.Frag) : ∀ t : String, t ∈ ["NoneType", "bool", "int", "str", "tuple", "list"] -> PySem.W.kitOne K (.type t) (.type "str") = some (decide (t = "str")) := by
 intro t ht
 simp only [List.mem_cons, List.not_mem_nil, or_false] at ht
 rcases ht with rfl | rfl | rfl | rfl | rfl | rfl <;> kernel_rfl
theorem kit_tuple (K : PySem.W.Frag) : ∀ t : String, t ∈ ["NoneType", "bool", "int", "str", "tuple", "list"] -> PySem.W.kitOne K (.type t) (.type "tuple") = some (decide (t = "tuple")) := by
 intro t ht
 simp only [List.mem_cons, List.not_mem_nil, or_false] at ht
 rcases ht with rfl | rfl | rfl | rfl | rfl | rfl <;> kernel_rfl
theorem kit_list (K : PySem.W.Frag) : ∀ t : String, t ∈ ["NoneType", "bool", "int", "str", "tuple", "list"] -> PySem.W.kitOne K (.type t) (.type "list") = some (decide (t = "list")) := by
 intro t ht
 simp only [List.mem_cons, List.not_mem_nil, or_false] at ht
 rcases ht with rfl | rfl | rfl | rfl | rfl | rfl <;> kernel_rfl
theorem tyD_mem {d : D} {t : String} (h : tyD d = some t) : t ∈ ["NoneType", "bool", "int", "str", "tuple", "list"] := by
 cases d <;> cases h <;> simp
def isTy (p : D -> Bool) (f : Ef) : Ef := fun ρ => (f ρ).bind fun d => match d with | .obj _ _ _ => none | .exc _ _ _ => none | d => some (.bl (p d))
def isInt : D -> Bool | .int _ => true | .bl _ => true | _ => false
def isBool : D -> Bool | .bl _ => true | _ => false
def isStr : D -> Bool | .str _ => true | _ => false
def isTup : D -> Bool | .tup _ => true | _ => false
def isLst : D -> Bool | .lst _ => true | _ => false
theorem pf_isi {T : Str} {TT : String} {q : D -> Bool} {p1 : Pos} (hT : bootBuiltins T = some (.type TT)) (hq : ∀ (K : PySem.W.Frag) d t, tyD d = some t -> PySem.W.kitOne K (.type t) (.type TT) = some (q d)) (hg : Gl X "isinstance") (hm : X.mg "isinstance" = none) (hgT : Gl X T) (hmT : X.mg T = none) (h : PF X a fa)
   (hn : T ≠ "__name__" := by decide) (hd : (T == ("__debug__" : Str)) = false := by decide) (hs : starEach [a, .Name T p1] X.env = [(false, eval a X.env), (false, eval (.Name T p1) X.env)] := by rfl) : PF X (.Call (.Name "isinstance" p) [a, .Name T p1] [] pos) (isTy q fa) := by
 have hcall : CallR X (.builtin "isinstance") (fun xs H Q => ∃ x G d, xs = [x, .ty TT] /\ Same G H /\ Rep X.K G d x /\ (tyD d).isSome = true /\ Q (.bl (q d)) H) := by
   intro pins s σ H xs us Q I r hh
   obtain ⟨x, G, d, rfl, sub, rx, ht, qq⟩ := hh
   obtain ⟨u, u', rfl, ru, ru'⟩ := vals2 r
   cases ru'
   obtain ⟨t, ht⟩ := Option.isSome_iff_exists.mp ht
   exact isi_D I ru sub rx ht (hq _ d t ht) fun tk => ⟨.bl (q d), H, I.tok tk, rfl, qq⟩
 refine PE.to (pe_callB hcall hg hm (by rfl) (pa_cons h (pa_cons (pe_bltn (v := .ty TT) hgT hmT hT rfl hn hd) pa_nil) (by rw [hs]; rfl)) (by decide) (by decide) (by rw [hs]; rfl) (by rfl)) ?_
 rintro σ H Q ⟨G0, H0, G, ρ, d, good, hf, k⟩
 unfold isTy at hf
 obtain ⟨x, h1, hf⟩ := Option.bind_eq_some_iff.mp hf
 refine ⟨G0, H0, G, ρ, _, good, h1, fun v H1 G1 s1 r1 => ?_⟩
 have hx : (tyD x).isSome = true /\ d = .bl (q x) := by
   cases x <;> first
     | (cases hf; exact ⟨rfl, rfl⟩)
     | cases hf
 obtain ⟨hx, rfl⟩ := hx
 exact ⟨v, G1, x, rfl, s1.sub, r1, hx, k _ _ G1 s1 (rep_bl.mpr rfl)⟩
theorem hq_int (K : PySem.W.Frag) (d : D) (t : String) (h : tyD d = some t) : PySem.W.kitOne K (.type t) (.type "int") = some (isInt d) := by
 rw [kit_int K t (tyD_mem h)]; cases d <;> cases h <;> simp [isInt, isBool, isStr, isTup, isLst]
theorem hq_bool (K : PySem.W.Frag) (d : D) (t : String) (h : tyD d = some t) : PySem.W.kitOne K (.type t) (.type "bool") = some (isBool d) := by
 rw [kit_bool K t (tyD_mem h)]; cases d <;> cases h <;> simp [isInt, isBool, isStr, isTup, isLst]
theorem hq_str (K : PySem.W.Frag) (d : D) (t : String) (h : tyD d = some t) : PySem.W.kitOne K (.type t) (.type "str") = some (isStr d) := by
 rw [kit_str K t (tyD_mem h)]; cases d <;> cases h <;> simp [isInt, isBool, isStr, isTup, isLst]
theorem hq_tup (K : PySem.W.Frag) (d : D) (t : String) (h : tyD d = some t) : PySem.W.kitOne K (.type t) (.type "tuple") = some (isTup d) := by
 rw [kit_tuple K t (tyD_mem h)]; cases d <;> cases h <;> simp [isInt, isBool, isStr, isTup, isLst]
theorem hq_lst (K : PySem.W.Frag) (d : D) (t : String) (h : tyD d = some t) : PySem.W.kitOne K (.type t) (.type "list") = some (isLst d) := by
 rw [kit_list K t (tyD_mem h)]; cases d <;> cases h <;> simp [isInt, isBool, isStr, isTup, isLst]
def blsD : List D -> Option (List Bool)
 | [] => some []
 | .bl k :: r => (blsD r).map fun ks => k :: ks
 | _ => none
def eAll (f : Ef) : Ef := fun ρ => (f ρ).bind fun d => match d with | .lst ds => (blsD ds).map fun ks => .bl (ks.all id) | _ => none
theorem call_allB (hc : X.calm = true) : CallR X (.builtin "all") (fun xs H Q => ∃ (p : Addr) (ks : List Bool), xs = [V.ref p] /\ SqL X.K H p (ks.map V.bl) /\ Q (.bl (ks.all id)) H) := by
 intro pins s σ H xs us Q I r h
 obtain ⟨p, ks, rfl, hq, q⟩ := h
 obtain ⟨u, rfl, ru⟩ := vals1 r
 cases ru
 obtain ⟨its, rv, pl, hz⟩ := I.list hq
 have hks : ∀ (i : Nat) (v : Value), its[i]? = some v -> ∃ k, ks[i]? = some k /\ v = Value.bool k := fun i v e => by
   have hi : i < ks.length := by have := rv.length; rw [List.length_map] at this; rw [this]; exact (List.getElem?_eq_some_iff.mp e).1
   obtain ⟨u, e1, r1⟩ := rv.get (i := i) (x := .bl ks[i]) (by rw [List.getElem?_map, List.getElem?_eq_getElem hi]; rfl)
   rw [e] at e1; cases e1
   exact ⟨ks[i], List.getElem?_eq_getElem hi, r1⟩
 have hlen : its.length = ks.length := by have := rv.length; rw [List.length_map] at this; exact this.symm
 refine call_all_walk (wpAny_pyIter_list pl.isList ?_)
 have hne : p ≠ s.heap.objs.size := by obtain ⟨o, _, e, _⟩ := pl; exact Nat.ne_of_lt (Heap.lt_size e)
 refine ⟨s.heap.objs.size, _, _, _, _, _, fun i => (ks[i]?).getD true, rfl, Walks.list (A := X.A.in1) (I.ok.hd hc) s.heap.objs.size p hne its.toArray, ⟨⟨_, Heap.get?_push_size _ rfl, rfl, rfl⟩, pl.isList.push _⟩, ?_, fun h' tk hk => ?_⟩
 · intro i v s' Q' E' hv hQ'
   obtain ⟨k, e1, rfl⟩ := hks i v (by simpa using hv)
   have hQ2 : Q' ((ks[i]?).getD true) s' := hQ'
   rw [e1] at hQ2
   exact wpAny_truthy_bool hQ2
 · have hI : Inv X pins σ H { s with heap := h', toks := tk } := I.kept fun b o e => hk b o (by simp; exact Nat.ne_of_lt (Heap.lt_size e)) (Heap.get?_push_of_some _ e)
   have e : ((List.range its.toArray.size).all fun i => (ks[i]?).getD true) = ks.all id := by
     rw [List.size_toArray, hlen]
     rw [Bool.eq_iff_iff]
     simp only [List.all_eq_true, List.mem_range, id]
     constructor
     · intro h x hx
       obtain ⟨i, hi, rfl⟩ := List.getElem_of_mem hx
       have := h i hi
       rw [List.getElem?_eq_getElem hi] at this
       exact this
     · intro h i hi
       rw [List.getElem?_eq_getElem hi]
       exact h _ (List.getElem_mem hi)
   rw [e]
   exact ⟨.bl (ks.all id), H, hI, rfl, q⟩
theorem reps_bls {K : PySem.W.Frag} {G : Hp} : ∀ {ds : List D} {vs : List V} {ks : List Bool}, blsD ds = some ks -> Reps K G ds vs -> vs = ks.map V.bl
 | [], _, _, h, r => by cases h; rw [reps_nil] at r; rw [r]; rfl
 | d :: t, _, _, h, r => by
   unfold blsD at h
   split at h
   · rename_i h'; cases h'
   · rename_i k t' h'
     cases h'
     obtain ⟨v, vr, rfl, r1, r2⟩ := reps_cons.mp r
     obtain ⟨ks, h1, rfl⟩ := Option.map_eq_some_iff.mp h
     rw [reps_bls h1 r2, rep_bl.mp r1]; rfl
   · cases h
theorem pf_all (hc : X.calm = true) (hg : Gl X "all") (hm : X.mg "all" = none) (h : PF X a fa) (hs : starEach [a] X.env = [(false, eval a X.env)] := by rfl) : PF X (.Call (.Name "all" p) [a] [] pos) (eAll fa) := by
 refine PE.to (pe_callB (call_allB hc) hg hm (by rfl) (pa_cons h pa_nil (by rw [hs]; rfl)) (by decide) (by decide) (by rw [hs]; rfl) (by rfl)) ?_
 rintro σ H Q ⟨G0, H0, G, ρ, d, good, hf, k⟩
 unfold eAll at hf
 obtain ⟨x, h1, hf⟩ := Option.bind_eq_some_iff.mp hf
 cases x with
 | lst ds =>
   dsimp only at hf
   obtain ⟨ks, h2, rfl⟩ := Option.map_eq_some_iff.mp hf
   refine ⟨G0, H0, G, ρ, _, good, h1, fun v H1 G1 s1 r1 => ?_⟩
   obtain ⟨p, vs, rfl, q, rs⟩ := rep_lst.mp r1
   have e := reps_bls h2 rs
   subst e
   exact ⟨p, ks, rfl, s1.sub.seq q, k _ _ G1 s1 (rep_bl.mpr rfl)⟩
 | _ => cases hf
end
end L2
namespace L2
open PySem PySem.Spec PyProof.Rows
theorem Inv.turnedNew {X : Cx} {pins : List (Addr × Obj)} {σ : St} {H : Hp} {s : Shared} {h' : Heap} {t' : Nat} {fp : List Addr} {T : Addr} {o : HO} (I : Inv X pins σ H s) (k : ∀ b u, b ∉ fp -> s.heap.get? b = some u -> h'.get? b = some u)
   (hf : ∀ b ∈ fp, FpOk X pins H b) (hT : s.heap.objs.size <= T) (new : ObjOk X.prog X.w (upd H T o) h' T o) : Inv X pins σ (upd H T o) { s with heap := h', toks := t' } := by
 have fr : H T = none := I.hok.fresh hT
 have neT : ∀ b u, s.heap.get? b = some u -> b ≠ T := fun b u e => Nat.ne_of_lt (Nat.lt_of_lt_of_le (Heap.lt_size e) hT)
 have nfp : ∀ b u, H b = some u -> b ∉ fp := fun b u e z => by have := (hf b z).1; rw [e] at this; cases this
 refine I.step (g' := s.gens) (d' := s.drawn) (ch := fp) (fun b hb => ⟨(hf b hb).2.2.2.1, (hf b hb).2.1, (hf b hb).2.2.2.2.1, (hf b hb).2.2.2.2.2⟩) (fun b u _ _ hc e _ => k b u hc e)
   (fun b u _ _ hc e _ => ⟨u.slots, k b u hc e⟩) (fun b u _ e n => by rw [upd_ne (neT b u e)]; exact n) (fun b u hc e => ⟨u, k b u hc e⟩)
   (fun b xs e => by rw [upd_ne (ne_of_none e fr)]; exact e) (fun b u x e => by rw [upd_ne (ne_of_none e fr)]; exact e) (fun b ps e => ⟨#[], by rw [upd_ne (ne_of_none e fr), e]; simp⟩) (fun m hm => ?_) (fun b u e => ?_) I.bare
 · obtain ⟨ob, es, ep, ho, r⟩ := hm
   exact ⟨ob, es, ep, k _ ob (fun z => (hf _ z).2.1 rfl) ho, r⟩
 · by_cases hb : b = T
   · subst hb; rw [upd_same] at e; cases e; exact new
   · rw [upd_ne hb] at e
     refine (I.hok b u e).stay (fun c v hc q => k c v ?_ q) (fun c q => by rw [upd_ne (ne_of_none q fr)]; exact q) fun c xs q => by rw [upd_ne (ne_of_none q fr)]; exact q
     rcases hc with z | z
     · rw [z]; exact nfp b u e
     · exact nfp c _ z
theorem Inv.turnedL {X : Cx} {pins : List (Addr × Obj)} {σ : St} {H : Hp} {s : Shared} {h' : Heap} {t' : Nat} {fp : List Addr} (I : Inv X pins σ H s) (k : ∀ b u, b ∉ fp -> s.heap.get? b = some u -> h'.get? b = some u)
   (hf : ∀ b ∈ fp, FpOk X pins H b) : Inv X pins σ H { s with heap := h', toks := t' } := by
 have nfp : ∀ b u, H b = some u -> b ∉ fp := fun b u e z => by have := (hf b z).1; rw [e] at this; cases this
 refine I.step (g' := s.gens) (d' := s.drawn) (ch := fp) (fun b hb => ⟨(hf b hb).2.2.2.1, (hf b hb).2.1, (hf b hb).2.2.2.2.1, (hf b hb).2.2.2.2.2⟩) (fun b u _ _ hc e _ => k b u hc e)
   (fun b u _ _ hc e _ => ⟨u.slots, k b u hc e⟩) (fun b u _ e n => n) (fun b u hc e => ⟨u, k b u hc e⟩) (fun b xs e => e) (fun b u x e => e) (fun b ps e => ⟨#[], by rw [e]; simp⟩) (fun m hm => ?_) (fun b u e => ?_) I.bare
 · obtain ⟨ob, es, ep, ho, r⟩ := hm
   exact ⟨ob, es, ep, k _ ob (fun z => (hf _ z).2.1 rfl) ho, r⟩
 · refine (I.hok b u e).stay (fun c v hc q => k c v ?_ q) (fun c q => q) fun c xs q => q
   rcases hc with z | z
   · rw [z]; exact nfp b u e
   · exact nfp c _ z
section
variable {X : Cx} {a b c e tg elt iter : Expr} {es ifs : List Expr} {fa fb fc : Ef} {ga gb gi : Lf} {ta tc : Tf} {pos p : Pos} {st : Stmt}
def tSrc (K : PySem.W.Frag) (f : Lf) : TE := fun σ H Q => ∃ G0 H0 G ρ ds, Good K G0 H0 G H σ ρ /\ f ρ = some ds /\ ∀ a vs H' G', Step G H G' H' -> SqL K G' a vs -> Reps K G' ds vs -> Q (.ref a) H'
def PSrc (X : Cx) (e : Expr) (f : Lf) : Prop := PE X e (tSrc X.K f)
theorem src_r (h : PFr X e ga) : PSrc X e ga := fun pins s σ H Q I q => h pins s σ H Q I (by
 obtain ⟨G0, H0, G, ρ, ds, good, hf, k⟩ := q
 exact ⟨G0, H0, G, ρ, ds, good, hf, fun p vs H' G' s hn hp gp rs => k p vs H' (upd G' p (.lst vs)) (s.frz hn hp gp) (.of upd_same) (rs.mono (Same.new gp))⟩)
theorem src_l (h : PF X e fa) : PSrc X e (iL fa) := fun pins s σ H Q I q => h pins s σ H Q I (by
 obtain ⟨G0, H0, G, ρ, ds, good, hf, k⟩ := q
 unfold iL at hf
 obtain ⟨d, h1, hf⟩ := Option.bind_eq_some_iff.mp hf
 cases d with
 | lst es =>
   cases hf
   refine ⟨G0, H0, G, ρ, _, good, h1, fun x H1 G1 s1 r1 => ?_⟩
   obtain ⟨p, vs, rfl, q, rs⟩ := rep_lst.mp r1
   exact k p vs H1 G1 s1 q rs
 | _ => cases hf)
def lCat (f g : Lf) : Lf := fun ρ => (f ρ).bind fun xs => (g ρ).bind fun ys => okL (xs ++ ys)
theorem pl_cat (ha : PFr X a ga) (hb : PFr X b gb) : PFr X (.BinOp a .Add b pos) (lCat ga gb) := by
 refine PE.toR (pe_op op_cat ha hb) ?_
 rintro σ H Q ⟨G0, H0, G, ρ, d, good, hf, k⟩
 unfold lCat at hf
 obtain ⟨xs, h1, hf⟩ := Option.bind_eq_some_iff.mp hf
 obtain ⟨ys, h2, hf⟩ := Option.bind_eq_some_iff.mp hf
 obtain ⟨rfl, h3⟩ := okL_inv hf
 refine ⟨G0, H0, G, ρ, _, good, h1, fun p vs H1 G1 s1 hn hp gp rs => ⟨G0, H0, G1, ρ, _, good.step s1, h2, fun q us H2 G2 s2 hn2 hq gq rs2 => ?_⟩⟩
 refine ⟨p, q, vs, us, rfl, rfl, s2.hh _ _ hp, hq, ?_, fun l hl => ?_⟩
 · rw [← rs.length, ← rs2.length, ← List.length_append]; exact Nat.le_of_lt (lim_ok h3)
 · have s3 := Step.own (o := .lst (vs ++ us)) s2.sub hl
   exact k l _ _ G2 ((s1.trans s2).trans s3) ((s1.trans s2).hh.free hl) upd_same (s2.sub.free hl) ((rs.mono s2.gg).append rs2)
abbrev Of := List B -> Option (Option Int)
def tFO (K : PySem.W.Frag) (f : Of) : TO := fun σ H Q => ∃ G0 H0 G ρ o, Good K G0 H0 G H σ ρ /\ f ρ = some o /\ ∀ H' G', Step G H G' H' -> Q o H'
def PFO (X : Cx) (e : Option Expr) (f : Of) : Prop := PO X e (tFO X.K f)
def oNo : Of := fun _ => some none
def oSome (f : Ef) : Of := fun ρ => (f ρ).bind fun d => match d with | .int i => some (some i) | _ => none
theorem po_no : PFO X none oNo := fun pins s σ H Q I h => po_none pins s σ H Q I (by
 obtain ⟨G0, H0, G, ρ, o, good, hf, k⟩ := h
 cases hf
 exact k H G (.refl good.sub))
theorem po_sm (h : PF X e fa) : PFO X (some e) (oSome fa) := fun pins s σ H Q I q => po_some h pins s σ H Q I (by
 obtain ⟨G0, H0, G, ρ, o, good, hf, k⟩ := q
 unfold oSome at hf
 obtain ⟨d, h1, hf⟩ := Option.bind_eq_some_iff.mp hf
 cases d with
 | int i => cases hf; exact ⟨G0, H0, G, ρ, _, good, h1, fun v H' G' s r => ⟨i, rep_int.mp r, k H' G' s⟩⟩
 | _ => cases hf)
def cutD (xs : List D) (lo hi : Option Int) : List D := (xs.drop (HT.sIx xs.length 0 lo)).take (HT.sIx xs.length xs.length hi - HT.sIx xs.length 0 lo)
def lSlice (f : Ef) (lo hi : Of) : Lf := fun ρ => (f ρ).bind fun d => (lo ρ).bind fun l => (hi ρ).bind fun u => match d with | .lst ds => some (cutD ds l u) | _ => none
theorem pl_slice {lo hi : Option Expr} {fl fh : Of} {p2 : Pos} (ha : PF X a fa) (hl : PFO X lo fl) (hh : PFO X hi fh) : PFr X (.Subscript a (.Slice lo hi none p2) pos) (lSlice fa fl fh) := by
 refine PE.toR (pe_slice sl_list ha hl hh) ?_
 rintro σ H Q ⟨G0, H0, G, ρ, d, good, hf, k⟩
 unfold lSlice at hf
 obtain ⟨x, h1, hf⟩ := Option.bind_eq_some_iff.mp hf
 obtain ⟨l, h2, hf⟩ := Option.bind_eq_some_iff.mp hf
 obtain ⟨u, h3, hf⟩ := Option.bind_eq_some_iff.mp hf
 cases x with
 | lst ds =>
   cases hf
   refine ⟨G0, H0, G, ρ, _, good, h1, fun v H1 G1 s1 r1 => ⟨G0, H0, G1, ρ, _, good.step s1, h2, fun H2 G2 s2 => ⟨G0, H0, G2, ρ, _, (good.step s1).step s2, h3, fun H3 G3 s3 => ?_⟩⟩⟩
   obtain ⟨q, vs, rfl, hq, rs⟩ := rep_lst.mp r1
   have s23 := s2.trans s3
   refine ⟨q, vs, rfl, s23.hh |> fun z => (s1.sub.trans z).seq hq, fun p hp => ?_⟩
   have s4 := Step.own (o := .lst (cutV vs l u)) s23.sub hp
   refine k p _ _ G3 ((s1.trans s23).trans s4) ((s1.trans s23).hh.free hp) upd_same (s23.sub.free hp) ?_
   unfold cutV cutD
   rw [← rs.length]
   exact ((rs.mono s23.gg).drop _).take _
 | _ => cases hf
end
end L2
namespace L2
open PySem PySem.Spec PyProof.Rows
section
variable {prog : Program} {w : World} {A : Around} {E : Value -> Shared -> Prop} {s : Shared}
theorem nextT_item {it t : Addr} {i : Nat} {items : Array Value} {x : Value} {Q : Value -> Shared -> Prop} (hit : s.heap.IsTupleIter it t i) (ht : s.heap.IsTuple t items) (hx : items[i]? = some x)
   (hQ : ∀ h', h'.IsTupleIter it t (i + 1) -> Heap.SameBut it s.heap h' -> Q x { s with heap := h' }) : wpAny (model prog w) A (Builtin.SmallTypes.nextOf (.ref it)) Q E s := by
 obtain ⟨o, h1, h2, h3⟩ := id hit
 obtain ⟨ot, t1, _, n, t2⟩ := ht
 unfold Builtin.SmallTypes.nextOf
 refine wpAny_bind (wpAny_callSpecial?_slot (name := Str.ofString "__next__") hit.typeIs F.slot_tuple_iterator_next (wpAny_call_entry F.slot_tuple_iterator_next hit.typeIs F.entry_tuple_iterator_next ?_ (F.args_tuple_iterator_next_1 _)))
 change wpAny _ _ (field (.ref it) 0 >>= _) _ _ s
 refine wpAny_bind (wpAny_field h1 h3 (x := .ref t) rfl ?_)
 change wpAny _ _ (if (Value.ref t == Value.none) = true then _ else _) _ _ s
 rw [if_neg (by exact Bool.false_ne_true)]
 change wpAny _ _ (field (.ref it) 1 >>= _) _ _ s
 refine wpAny_bind (wpAny_field h1 h3 (x := .int i 0) rfl ?_)
 change wpAny _ _ (seqItems? (.ref t) >>= _) _ _ s
 refine wpAny_bind (wpAny_seqItems t1 t2 ?_)
 simp only [Int.toNat_natCast, hx]
 refine wpAny_bind (wpAny_setField h1 h3 (by simp) (wpAny_pure ⟨x, rfl, wpAny_pure (hQ _ ⟨_, Heap.get?_update_self _ h1 (Obj.isFreed_of_fields (Obj.data_mapFields h3 _)), (Obj.cls_mapFields ..).trans h2, ?_⟩ (Heap.SameBut.update ..))⟩))
 rw [Obj.data_mapFields h3]
 simp [rawInt]
theorem nextT_end {it t : Addr} {i : Nat} {items : Array Value} {Q : Value -> Shared -> Prop} (hh : A.handled = none) (hit : s.heap.IsTupleIter it t i) (ht : s.heap.IsTuple t items) (hx : items[i]? = none)
   (hE : ∀ h' e, Heap.ExtBut it s.heap h' -> (∃ o, h'.get? e = some o /\ o.cls = .type "StopIteration") -> E (.ref e) { s with heap := h' }) : wpAny (model prog w) A (Builtin.SmallTypes.nextOf (.ref it)) Q E s := by
 obtain ⟨o, h1, h2, h3⟩ := id hit
 obtain ⟨ot, t1, _, n, t2⟩ := ht
 unfold Builtin.SmallTypes.nextOf
 refine wpAny_bind (wpAny_callSpecial?_slot (name := Str.ofString "__next__") hit.typeIs F.slot_tuple_iterator_next (wpAny_call_entry F.slot_tuple_iterator_next hit.typeIs F.entry_tuple_iterator_next ?_ (F.args_tuple_iterator_next_1 _)))
 change wpAny _ _ (field (.ref it) 0 >>= _) _ _ s
 refine wpAny_bind (wpAny_field h1 h3 (x := .ref t) rfl ?_)
 change wpAny _ _ (if (Value.ref t == Value.none) = true then _ else _) _ _ s
 rw [if_neg (by exact Bool.false_ne_true)]
 change wpAny _ _ (field (.ref it) 1 >>= _) _ _ s
 refine wpAny_bind (wpAny_field h1 h3 (x := .int i 0) rfl ?_)
 change wpAny _ _ (seqItems? (.ref t) >>= _) _ _ s
 refine wpAny_bind (wpAny_seqItems t1 t2 ?_)
 simp only [Int.toNat_natCast, hx]
 refine wpAny_bind (wpAny_rule (wpAny_bind (wpAny_setField h1 h3 (by simp) ?_)))
 change wpAny _ _ (newExc (.type "StopIteration") [] >>= _) _ _ _
 refine wpAny_bind ?_
 simp only [newExc, newTuple]
 refine wpAny_bind (wpAny_newObj_type ?_ (by size_fits))
 refine wpAny_bind (m := firstArgMember _ _) (wpAny_of_eq (a := Value.none) (by first | rfl | (simp only [firstArgMember]; rfl)) ?_)
 refine wpAny_newObj_type ?_ (by size_fits)
 simp only [raiseNew]
 refine wpAny_bind (wpAny_handled ?_)
 first | rw [show A.in1.handled = none from hh] | rw [hh]
 refine wpAny_bind (wpAny_pure (wpAny_throw ?_))
 exact hE _ _ (((Heap.SameBut.update ..).extBut.push _).push _) ⟨_, Heap.get?_push_size _ rfl, rfl⟩
structure ZApart (z TI TO i1 i2 l1 l2 : Addr) : Prop where
 a1 : TI ≠ z
 a2 : TO ≠ z
 a3 : i1 ≠ z
 a4 : i2 ≠ z
 a5 : TI ≠ TO
 a6 : TI ≠ i1
 a7 : TI ≠ i2
 a8 : TO ≠ i1
 a9 : TO ≠ i2
 b1 : i1 ≠ i2
 b2 : l1 ≠ z
 b3 : l1 ≠ TO
 b4 : l1 ≠ i1
 b5 : l1 ≠ i2
 b6 : l2 ≠ z
 b7 : l2 ≠ TO
 b8 : l2 ≠ i1
 b9 : l2 ≠ i2
theorem zipT_item {z TI TO i1 i2 l1 l2 : Addr} {k : Nat} {xs ys : Array Value} {x y a b : Value} {Q : Value -> Shared -> Prop} (D : ZApart z TI TO i1 i2 l1 l2) (hz : IsZip s.heap z TI TO .none) (hTI : IsPair s.heap TI (.ref i1) (.ref i2)) (hTO : IsPair s.heap TO a b)
   (h1 : s.heap.IsTupleIter i1 l1 k) (h2 : s.heap.IsTupleIter i2 l2 k) (hl1 : s.heap.IsTuple l1 xs) (hl2 : s.heap.IsTuple l2 ys) (hx : xs[k]? = some x) (hy : ys[k]? = some y)
   (hQ : ∀ h', IsZip h' z TI TO (rawInt s.heap.objs.size) -> IsPair h' TO x y -> h'.IsTupleIter i1 l1 (k + 1) -> h'.IsTupleIter i2 l2 (k + 1) -> IsPair h' s.heap.objs.size x y ->
     (∀ c o, c ≠ z -> c ≠ TO -> c ≠ i1 -> c ≠ i2 -> s.heap.get? c = some o -> h'.get? c = some o) -> Q (.ref s.heap.objs.size) { s with heap := h' }) :
   wpAny (model prog w) A (Builtin.«zip.__next__» ⟨[.ref z], []⟩) (fun fin s' => ∃ v, fin = .done (.ret v) /\ Q v s') E s := by
 change wpAny _ _ (field (.ref z) 2 >>= _) _ _ _
 refine wpAny_bind (wpAny_field hz rfl (x := .bool false) rfl ?_)
 change wpAny _ _ (field (.ref z) 3 >>= _) _ _ _
 refine wpAny_bind (wpAny_field hz rfl (x := .ref TI) rfl (wpAny_bind (wpAny_seqItems hTI rfl ?_)))
 change wpAny _ _ (Builtin.SmallTypes.ownedTupleIsFree (.ref z) >>= _) _ _ _
 refine wpAny_bind ?_
 unfold Builtin.SmallTypes.ownedTupleIsFree
 refine wpAny_bind (wpAny_field hz rfl (x := .none) rfl (wpAny_pure ?_))
 simp only [if_true]
 refine wpAny_bind (wpAny_rule (wpAny_bind (wpAny_field hz rfl (x := .ref TO) rfl (wpAny_bind (wpAny_setField_rec hz (by simp) fun g1 z1 t1 => ?_)))))
 have z1 : IsZip g1 z TI TO .ellipsis := z1
 refine wpAny_bind ?_
 simp only [List.zipIdx_cons, List.zipIdx_nil, List.forIn_cons, List.forIn_nil]
 refine wpAny_bind (wpAny_bind (wpAny_onRaise ?_))
 change wpAny _ _ (Builtin.SmallTypes.nextOf (.ref i1) >>= _) _ _ _
 refine wpAny_bind (nextT_item (h1.extBut t1.extBut D.a3) (hl1.extBut t1.extBut D.b2) hx fun g2 u1 t2 => wpAny_pure ?_)
 have o2 : IsPair g2 TO a b := t2.extBut _ _ D.a8 (t1.extBut _ _ D.a2 hTO)
 refine wpAny_bind (wpAny_seqItems o2 rfl (wpAny_bind (wpAny_updateSeq_pair o2 fun g3 o3 t3 => ?_)))
 have o3 : IsPair g3 TO x b := o3
 refine wpAny_bind (wpAny_letGo (wpAny_pure (wpAny_bind (wpAny_bind (wpAny_onRaise ?_)))))
 change wpAny _ _ (Builtin.SmallTypes.nextOf (.ref i2) >>= _) _ _ _
 refine wpAny_bind (nextT_item (((h2.extBut t1.extBut D.a4).extBut t2.extBut D.b1.symm).extBut t3.extBut D.a9.symm) (((hl2.extBut t1.extBut D.b6).extBut t2.extBut D.b8).extBut t3.extBut D.b7) hy fun g4 u2 t4 => wpAny_pure ?_)
 have o4 : IsPair g4 TO x b := t4.extBut _ _ D.a9 o3
 refine wpAny_bind (wpAny_seqItems o4 rfl (wpAny_bind (wpAny_updateSeq_pair o4 fun g5 o5 t5 => ?_)))
 have o5 : IsPair g5 TO x y := o5
 refine wpAny_bind (wpAny_letGo (wpAny_pure (wpAny_pure (wpAny_bind (wpAny_seqItems o5 rfl (wpAny_bind (wpAny_newTuple ?_)))))))
 have esz : g5.objs.size = s.heap.objs.size := by rw [t5.1, t4.1, t3.1, t2.1, t1.1]
 have z5 : IsZip g5 z TI TO .ellipsis := t5.extBut _ _ D.a2.symm (t4.extBut _ _ D.a4.symm (t3.extBut _ _ D.a2.symm (t2.extBut _ _ D.a3.symm z1)))
 have k5 : ∀ c o, c ≠ z -> c ≠ TO -> c ≠ i1 -> c ≠ i2 -> s.heap.get? c = some o -> g5.get? c = some o := fun c o c1 c2 c3 c4 e => t5.extBut _ _ c2 (t4.extBut _ _ c4 (t3.extBut _ _ c2 (t2.extBut _ _ c3 (t1.extBut _ _ c1 e))))
 have p1 : g5.IsTupleIter i1 l1 (k + 1) := ((u1.extBut t3.extBut D.a8.symm).extBut t4.extBut D.b1).extBut t5.extBut D.a8.symm
 have p2 : g5.IsTupleIter i2 l2 (k + 1) := u2.extBut t5.extBut D.a9.symm
 have lz : z < g5.objs.size := Heap.lt_size z5
 change wpAny _ _ (Builtin.SmallTypes.ownedTupleHandOut (.ref z) (.ref g5.objs.size) >>= _) _ _ _
 refine wpAny_bind ?_
 unfold Builtin.SmallTypes.ownedTupleHandOut
 have z6 : IsZip (g5.push { cls := .type "tuple", data := .seq #[x, y] }) z TI TO .ellipsis := Heap.get?_push_of_some _ z5
 refine wpAny_bind (wpAny_setField_rec z6 (by simp) fun g7 z7 t7 => ?_)
 have z7 : IsZip g7 z TI TO (rawInt g5.objs.size) := z7
 refine wpAny_setField_rec z7 (by simp) fun g8 z8 t8 => ?_
 have z8 : IsZip g8 z TI TO (rawInt g5.objs.size) := z8
 have up : ∀ c o, c ≠ z -> g5.get? c = some o -> g8.get? c = some o := fun c o c1 e => t8.extBut _ _ c1 (t7.extBut _ _ c1 (Heap.get?_push_of_some _ e))
 have n8 : IsPair g8 g5.objs.size x y := t8.extBut _ _ (Nat.ne_of_gt lz) (t7.extBut _ _ (Nat.ne_of_gt lz) (Heap.get?_push_size _ rfl))
 rw [esz] at z8 n8
 refine wpAny_pure ⟨_, rfl, ?_⟩
 change Q (.ref g5.objs.size) _
 rw [esz]
 obtain ⟨q1, r1, w1⟩ := p1
 obtain ⟨q2, r2, w2⟩ := p2
 exact hQ g8 z8 (up _ _ D.a2 o5) ⟨q1, up _ _ D.a3 r1, w1⟩ ⟨q2, up _ _ D.a4 r2, w2⟩ n8 fun c o c1 c2 c3 c4 e => up c o c1 (k5 c o c1 c2 c3 c4 e)
theorem zipT_end {z TI TO i1 i2 l1 l2 : Addr} {k : Nat} {xs ys : Array Value} {a b : Value} {Q : Fin -> Shared -> Prop} (hh : A.handled = none) (D : ZApart z TI TO i1 i2 l1 l2) (hz : IsZip s.heap z TI TO .none) (hTI : IsPair s.heap TI (.ref i1) (.ref i2)) (hTO : IsPair s.heap TO a b)
   (h1 : s.heap.IsTupleIter i1 l1 k) (h2 : s.heap.IsTupleIter i2 l2 k) (hl1 : s.heap.IsTuple l1 xs) (hl2 : s.heap.IsTuple l2 ys) (hend : xs[k]? = none ∨ ys[k]? = none)
   (hE : ∀ h' e, (∀ c o, c ≠ z -> c ≠ TO -> c ≠ i1 -> c ≠ i2 -> s.heap.get? c = some o -> h'.get? c = some o) -> (∃ o, h'.get? e = some o /\ o.cls = .type "StopIteration") -> E (.ref e) { s with heap := h' }) :
   wpAny (model prog w) A (Builtin.«zip.__next__» ⟨[.ref z], []⟩) Q E s := by
 change wpAny _ _ (field (.ref z) 2 >>= _) _ _ _
 refine wpAny_bind (wpAny_field hz rfl (x := .bool false) rfl ?_)
 change wpAny _ _ (field (.ref z) 3 >>= _) _ _ _
 refine wpAny_bind (wpAny_field hz rfl (x := .ref TI) rfl (wpAny_bind (wpAny_seqItems hTI rfl ?_)))
 change wpAny _ _ (Builtin.SmallTypes.ownedTupleIsFree (.ref z) >>= _) _ _ _
 refine wpAny_bind ?_
 unfold Builtin.SmallTypes.ownedTupleIsFree
 refine wpAny_bind (wpAny_field hz rfl (x := .none) rfl (wpAny_pure ?_))
 simp only [if_true]
 refine wpAny_bind (wpAny_rule (wpAny_bind (wpAny_field hz rfl (x := .ref TO) rfl (wpAny_bind (wpAny_setField_rec hz (by simp) fun g1 z1 t1 => ?_)))))
 have z1 : IsZip g1 z TI TO .ellipsis := z1
 refine wpAny_bind ?_
 simp only [List.zipIdx_cons, List.zipIdx_nil, List.forIn_cons, List.forIn_nil]
 refine wpAny_bind (wpAny_bind (wpAny_onRaise ?_))
 change wpAny _ _ (Builtin.SmallTypes.nextOf (.ref i1) >>= _) _ _ _
 cases hx : xs[k]? with
 | none =>
   refine wpAny_bind (nextT_end hh (h1.extBut t1.extBut D.a3) (hl1.extBut t1.extBut D.b2) hx fun g2 e t2 he => ?_)
   obtain ⟨oe, he1, he2⟩ := he
   have z2 : IsZip g2 z TI TO .ellipsis := t2 _ _ D.a3.symm z1
   have ne : e ≠ z := fun q => by subst q; rw [z2] at he1; cases he1; simp at he2
   exact wpAny_setField_rec z2 (by simp) fun g3 _ t3 => hE g3 e (fun c o c1 _ c3 _ q => t3.extBut _ _ c1 (t2 _ _ c3 (t1.extBut _ _ c1 q))) ⟨oe, t3.extBut _ _ ne he1, he2⟩
 | some x =>
   have hy : ys[k]? = none := by
     rcases hend with q | q
     · rw [hx] at q; cases q
     · exact q
   refine wpAny_bind (nextT_item (h1.extBut t1.extBut D.a3) (hl1.extBut t1.extBut D.b2) hx fun g2 u1 t2 => wpAny_pure ?_)
   have o2 : IsPair g2 TO a b := t2.extBut _ _ D.a8 (t1.extBut _ _ D.a2 hTO)
   refine wpAny_bind (wpAny_seqItems o2 rfl (wpAny_bind (wpAny_updateSeq_pair o2 fun g3 o3 t3 => ?_)))
   refine wpAny_bind (wpAny_letGo (wpAny_pure (wpAny_bind (wpAny_bind (wpAny_onRaise ?_)))))
   change wpAny _ _ (Builtin.SmallTypes.nextOf (.ref i2) >>= _) _ _ _
   refine wpAny_bind (nextT_end hh (((h2.extBut t1.extBut D.a4).extBut t2.extBut D.b1.symm).extBut t3.extBut D.a9.symm) (((hl2.extBut t1.extBut D.b6).extBut t2.extBut D.b8).extBut t3.extBut D.b7) hy fun g4 e t4 he => ?_)
   obtain ⟨oe, he1, he2⟩ := he
   have z4 : IsZip g4 z TI TO .ellipsis := t4 _ _ D.a4.symm (t3.extBut _ _ D.a2.symm (t2.extBut _ _ D.a3.symm z1))
   have ne : e ≠ z := fun q => by subst q; rw [z4] at he1; cases he1; simp at he2
   exact wpAny_setField_rec z4 (by simp) fun g5 _ t5 => hE g5 e (fun c o c1 c2 c3 c4 q => t5.extBut _ _ c1 (t4 _ _ c4 (t3.extBut _ _ c2 (t2.extBut _ _ c3 (t1.extBut _ _ c1 q))))) ⟨oe, t5.extBut _ _ ne he1, he2⟩
end
abbrev zT1 (h : Heap) (l1 : Addr) : Heap := h.push { cls := .type "tuple_iterator", data := .fields #[.ref l1, .int 0 0] }
abbrev zT2 (h : Heap) (l1 l2 : Addr) : Heap := (zT1 h l1).push { cls := .type "tuple_iterator", data := .fields #[.ref l2, .int 0 0] }
abbrev zT3 (h : Heap) (l1 l2 : Addr) : Heap := (zT2 h l1 l2).push { cls := .type "tuple", data := .seq #[.ref h.objs.size, .ref (zT1 h l1).objs.size] }
abbrev zT4 (h : Heap) (l1 l2 : Addr) : Heap := (zT3 h l1 l2).push { cls := .type "tuple", data := .seq #[.none, .none] }
abbrev zT5 (h : Heap) (l1 l2 : Addr) : Heap := (zT4 h l1 l2).push { cls := .type "zip", data := .fields #[.none, .bool false, .bool false, .ref (zT2 h l1 l2).objs.size, .ref (zT3 h l1 l2).objs.size] }
theorem zipT_new (l1 l2 : Addr) (xs ys : Array Value) :
   Meets (Builtin.«zip.__new__» ⟨[.type "zip", .ref l1, .ref l2], []⟩) (fun _ R s => s.heap.IsTuple l1 xs /\ s.heap.IsTuple l2 ys /\ R (.ok (.ret (.ref (zT4 s.heap l1 l2).objs.size))) { s with heap := zT5 s.heap l1 l2 }) :=
 .of_wp fun prog w A R s h => by
   obtain ⟨hp, g, d, tk, os⟩ := s; obtain ⟨q1, q2, h⟩ := h
   have hsub := sub_zip
   have L1 : Heap.IsTuple (Shared.heap ⟨hp, g, d, tk, os⟩) l1 xs := q1
   have L2 : Heap.IsTuple (Shared.heap ⟨hp.push { cls := .type "tuple_iterator", data := .fields #[.ref l1, .int 0 0] }, g, d, tk, os⟩) l2 ys := Heap.IsTuple.push q2 _
   wp_walk using wpAny_pyIter_tuple L1, wpAny_pyIter_tuple L2
   exact ⟨_, rfl, h⟩
section
variable {prog : Program} {w : World} {A : Around} {E : Value -> Shared -> Prop} {s : Shared}
theorem call_zipT {l1 l2 : Addr} {xs ys : Array Value} {Q : Value -> Shared -> Prop} (q1 : s.heap.IsTuple l1 xs) (q2 : s.heap.IsTuple l2 ys)
   (h : ∀ h', IsZip h' (s.heap.objs.size + 4) (s.heap.objs.size + 2) (s.heap.objs.size + 3) .none -> IsPair h' (s.heap.objs.size + 2) (.ref s.heap.objs.size) (.ref (s.heap.objs.size + 1)) -> IsPair h' (s.heap.objs.size + 3) .none .none ->
     h'.IsTupleIter s.heap.objs.size l1 0 -> h'.IsTupleIter (s.heap.objs.size + 1) l2 0 -> (∀ c o, s.heap.get? c = some o -> h'.get? c = some o) -> Q (.ref (s.heap.objs.size + 4)) { s with heap := h' }) : wpAny (model prog w) A (call (.type "zip") [.ref l1, .ref l2]) Q E s := by
 refine callType_new F.called_zip (by decide) (F.typeCall_zip_2 _ _) (F.newCall_zip_2 _ _) (fun obj => F.args_object_init_3 obj _ _) F.entry_zip_new (zipT_new l1 l2 xs ys) ⟨q1, q2, ?_⟩
 have y1 : (zT1 s.heap l1).objs.size = s.heap.objs.size + 1 := Heap.size_push ..
 have y2 : (zT2 s.heap l1 l2).objs.size = s.heap.objs.size + 2 := by rw [Heap.size_push, y1]
 have y3 : (zT3 s.heap l1 l2).objs.size = s.heap.objs.size + 3 := by rw [Heap.size_push, y2]
 have y4 : (zT4 s.heap l1 l2).objs.size = s.heap.objs.size + 4 := by rw [Heap.size_push, y3]
 have f5 : (zT5 s.heap l1 l2).get? (zT4 s.heap l1 l2).objs.size = some _ := Heap.get?_push_size _ rfl
 have f4 : (zT5 s.heap l1 l2).get? (zT3 s.heap l1 l2).objs.size = some _ := Heap.get?_push_of_some _ (Heap.get?_push_size _ rfl)
 have f3 : (zT5 s.heap l1 l2).get? (zT2 s.heap l1 l2).objs.size = some _ := Heap.get?_push_of_some _ (Heap.get?_push_of_some _ (Heap.get?_push_size _ rfl))
 have f2 : (zT5 s.heap l1 l2).get? (zT1 s.heap l1).objs.size = some _ := Heap.get?_push_of_some _ (Heap.get?_push_of_some _ (Heap.get?_push_of_some _ (Heap.get?_push_size _ rfl)))
 have f1 : (zT5 s.heap l1 l2).get? s.heap.objs.size = some _ := Heap.get?_push_of_some _ (Heap.get?_push_of_some _ (Heap.get?_push_of_some _ (Heap.get?_push_of_some _ (Heap.get?_push_size _ rfl))))
 change _ /\ _
 rw [y2, y3, y4] at f5
 rw [y1, y2] at f3
 rw [y3] at f4
 rw [y1] at f2
 rw [y4]
 exact ⟨⟨_, f5, rfl⟩, h _ f5 f3 f4 ⟨_, f1, rfl, rfl⟩ ⟨_, f2, rfl, rfl⟩ fun c o x => Heap.get?_push_of_some _ (Heap.get?_push_of_some _ (Heap.get?_push_of_some _ (Heap.get?_push_of_some _ (Heap.get?_push_of_some _ x))))⟩
end
def Itz (K : PySem.W.Frag) (a b : Addr) : It :=
 ⟨fun i H => ∃ xs ys x y, SqT K H a xs /\ SqT K H b ys /\ xs[i]? = some x /\ ys[i]? = some y, fun i H x H' => ∃ p v u, H p = none /\ x = .ref p /\ H' = upd H p (.tup [v, u]) /\ (∀ xs, SqT K H a xs -> xs[i]? = some v) /\ ∀ ys, SqT K H b ys -> ys[i]? = some u,
   fun i H => ∃ xs ys, SqT K H a xs /\ SqT K H b ys /\ (xs.length <= i ∨ ys.length <= i)⟩
theorem zT_pyNext_item {prog : Program} {w : World} {A : Around} {E : Value -> Shared -> Prop} {s : Shared} {z TI TO i1 i2 l1 l2 : Addr} {k : Nat} {xs ys : Array Value} {x y a b : Value} {Q : Option Value -> Shared -> Prop} (D : ZApart z TI TO i1 i2 l1 l2) (hz : IsZip s.heap z TI TO .none) (hTI : IsPair s.heap TI (.ref i1) (.ref i2)) (hTO : IsPair s.heap TO a b)
   (h1 : s.heap.IsTupleIter i1 l1 k) (h2 : s.heap.IsTupleIter i2 l2 k) (hl1 : s.heap.IsTuple l1 xs) (hl2 : s.heap.IsTuple l2 ys) (hx : xs[k]? = some x) (hy : ys[k]? = some y)
   (hQ : ∀ h', IsZip h' z TI TO (rawInt s.heap.objs.size) -> IsPair h' TO x y -> h'.IsTupleIter i1 l1 (k + 1) -> h'.IsTupleIter i2 l2 (k + 1) -> IsPair h' s.heap.objs.size x y ->
     (∀ c o, c ≠ z -> c ≠ TO -> c ≠ i1 -> c ≠ i2 -> s.heap.get? c = some o -> h'.get? c = some o) -> Q (some (.ref s.heap.objs.size)) { s with heap := h' }) : wpAny (model prog w) A (pyNext (.ref z)) Q E s := by
 have hT : s.TypeIs (.ref z) "zip" := ⟨_, hz, rfl⟩
 unfold pyNext
 exact wpAny_bind (wpAny_attempt (wpAny_callSpecial?_slot (name := Str.ofString "__next__") hT F.slot_zip_next (wpAny_call_entry F.slot_zip_next hT F.entry_zip_next (zipT_item D hz hTI hTO h1 h2 hl1 hl2 hx hy fun h' a1 a2 a3 a4 a5 a6 => wpAny_pure (hQ h' a1 a2 a3 a4 a5 a6)) (F.args_zip_next_1 _))))
theorem zT_pyNext_end {prog : Program} {w : World} {A : Around} {E : Value -> Shared -> Prop} {s : Shared} {z TI TO i1 i2 l1 l2 : Addr} {k : Nat} {xs ys : Array Value} {a b : Value} {Q : Option Value -> Shared -> Prop} (hh : A.handled = none) (D : ZApart z TI TO i1 i2 l1 l2) (hz : IsZip s.heap z TI TO .none) (hTI : IsPair s.heap TI (.ref i1) (.ref i2)) (hTO : IsPair s.heap TO a b)
   (h1 : s.heap.IsTupleIter i1 l1 k) (h2 : s.heap.IsTupleIter i2 l2 k) (hl1 : s.heap.IsTuple l1 xs) (hl2 : s.heap.IsTuple l2 ys) (hend : xs[k]? = none ∨ ys[k]? = none)
   (hQ : ∀ h', (∀ c o, c ≠ z -> c ≠ TO -> c ≠ i1 -> c ≠ i2 -> s.heap.get? c = some o -> h'.get? c = some o) -> Q none { s with heap := h' }) : wpAny (model prog w) A (pyNext (.ref z)) Q E s := by
 have hT : s.TypeIs (.ref z) "zip" := ⟨_, hz, rfl⟩
 unfold pyNext
 refine wpAny_bind (wpAny_attempt (wpAny_callSpecial?_slot (name := Str.ofString "__next__") hT F.slot_zip_next (wpAny_call_entry F.slot_zip_next hT F.entry_zip_next (zipT_end hh D hz hTI hTO h1 h2 hl1 hl2 hend fun h' e hk he => ?_) (F.args_zip_next_1 _))))
 obtain ⟨o, q1, q2⟩ := he
 exact wpAny_bind (wpAny_isInstance (T := "StopIteration") (b := true) ⟨o, q1, q2⟩ isSubtype_stop (wpAny_pure (hQ _ hk)))
theorem zne {n : Nat} (i j : Nat) (h : i ≠ j) : n + i ≠ n + j := fun z => h (Nat.add_left_cancel z)
theorem turn_zip {P : Program} {w : World} {K : PySem.W.Frag} {elts : List Expr} {k : Nat} {pos : Pos} (a b n : Addr) : Turn P w K (.Tuple elts k pos) (Itz K a b) [n + 4, n + 2, n + 3, n, n + 1] (n + 4)
   (fun i h => IsZip h (n + 4) (n + 2) (n + 3) .none /\ IsPair h (n + 2) (.ref n) (.ref (n + 1)) /\ (∃ p q, IsPair h (n + 3) p q) /\ h.IsTupleIter n a i /\ h.IsTupleIter (n + 1) b i) where
 mem := by simp
 obj := fun i h st c hc => by
   obtain ⟨h1, h2, ⟨p, q, h3⟩, ⟨o1, e1, _, d1⟩, ⟨o2, e2, _, d2⟩⟩ := st
   simp only [List.mem_cons, List.not_mem_nil, or_false] at hc
   rcases hc with z | z | z | z | z
   · subst z; exact ⟨_, h1, fun v q => nomatch q⟩
   · subst z; exact ⟨_, h2, fun v q => nomatch q⟩
   · subst z; exact ⟨_, h3, fun v q => nomatch q⟩
   · subst z; exact ⟨o1, e1, fun v q => by rw [d1] at q; cases q⟩
   · subst z; exact ⟨o2, e2, fun v q => by rw [d2] at q; cases q⟩
 keep := fun i h h' st kk => by
   obtain ⟨h1, h2, ⟨p, q, h3⟩, ⟨o1, e1, r1⟩, ⟨o2, e2, r2⟩⟩ := st
   exact ⟨kk _ (by simp) _ h1, kk _ (by simp) _ h2, ⟨p, q, kk _ (by simp) _ h3⟩, ⟨o1, kk _ (by simp) _ e1, r1⟩, ⟨o2, kk _ (by simp) _ e2, r2⟩⟩
 item := by
   intro X hP hw hK hc i pins s σ H E I hf st hg
   subst hP hw hK
   obtain ⟨xs, ys, x, y, hq, hq', hx, hy⟩ := hg
   obtain ⟨its, rv, p1, hz⟩ := I.tuple hq
   obtain ⟨jts, rv', p2, hz'⟩ := I.tuple hq'
   obtain ⟨u, hu, ru⟩ := rv.get hx
   obtain ⟨u', hu', ru'⟩ := rv'.get hy
   obtain ⟨h1, h2, ⟨p, q, h3⟩, h4, h5⟩ := st
   have apart : ∀ c ∈ [n + 4, n + 2, n + 3, n, n + 1], ∀ v : List V, ∀ d : Addr, SqT X.K H d v -> d ≠ c := fun c hc v d hd z => by
     have e := (hf c hc).1
     obtain ⟨its, _, ⟨o, e1, e2, _⟩, _⟩ := I.tuple hd
     rcases hd with (hd | ⟨ob, hd⟩) | hd
     · rw [z, e] at hd; cases hd
     · rw [z, e] at hd; cases hd
     · obtain ⟨ob, _, _, hk, _⟩ := hd
       have e3 := I.ok.mod.kin d ob hk
       obtain ⟨_, q1, _, q3, _⟩ := hf c hc
       rcases q3 with q3 | q3
       · exact I.ok.noex d ob e3 (z ▸ q3)
       · exact absurd (Nat.lt_of_lt_of_le (Heap.lt_size (I.ok.bs d ob e3).1) (z ▸ q3)) (Nat.lt_irrefl _)
   have D : ZApart (n + 4) (n + 2) (n + 3) n (n + 1) a b := ⟨zne 2 4 (by decide), zne 3 4 (by decide), zne 0 4 (by decide), zne 1 4 (by decide), zne 2 3 (by decide), zne 2 0 (by decide), zne 2 1 (by decide), zne 3 0 (by decide), zne 3 1 (by decide), zne 0 1 (by decide), apart _ (by simp) xs a hq, apart _ (by simp) xs a hq, apart _ (by simp) xs a hq, apart _ (by simp) xs a hq, apart _ (by simp) ys b hq', apart _ (by simp) ys b hq', apart _ (by simp) ys b hq', apart _ (by simp) ys b hq'⟩
   refine zT_pyNext_item D h1 h2 h3 h4 h5 (show s.heap.IsTuple a its.toArray from p1) (show s.heap.IsTuple b jts.toArray from p2) (x := u) (y := u') (by simpa using hu) (by simpa using hu') fun g g1 g2 g3 g4 g5 hk => ?_
   have hk' : ∀ c o, c ∉ [n + 4, n + 2, n + 3, n, n + 1] -> s.heap.get? c = some o -> g.get? c = some o := fun c o hc e => hk c o (fun z => hc (by simp [z])) (fun z => hc (by simp [z])) (fun z => hc (by simp [z])) (fun z => hc (by simp [z])) e
   have I1 : Inv X pins σ (upd H s.heap.objs.size (.tup [x, y])) { s with heap := g } := I.turnedNew (t' := s.toks) hk' hf (Nat.le_refl _) ⟨by show 2 <= sizeLine; exact Nat.le_of_lt (lim_ok (by decide)), [u, u'], .cons ru (.cons ru' .nil), ⟨_, g5, rfl, _, rfl⟩⟩
   refine ⟨_, rfl, wpAny_letOwnedTupleGo_zip g1 fun g' z' t' => ?_⟩
   have t' : Heap.SameBut (n + 4) g g' := t'
   have neT : ∀ c ∈ [n + 4, n + 2, n + 3, n, n + 1], c ≠ s.heap.objs.size := fun c hc z => by
     have lt : c < s.heap.objs.size := by
       obtain ⟨o1, e1, _⟩ := h4
       obtain ⟨o2, e2, _⟩ := h5
       simp only [List.mem_cons, List.not_mem_nil, or_false] at hc
       rcases hc with q | q | q | q | q
       · rw [q]; exact Heap.lt_size h1
       · rw [q]; exact Heap.lt_size h2
       · rw [q]; exact Heap.lt_size h3
       · rw [q]; exact Heap.lt_size e1
       · rw [q]; exact Heap.lt_size e2
     rw [z] at lt
     exact Nat.lt_irrefl _ lt
   have hf1 : ∀ c ∈ [n + 4, n + 2, n + 3, n, n + 1], FpOk X pins (upd H s.heap.objs.size (.tup [x, y])) c := fun c hc => ⟨by rw [upd_ne (neT c hc)]; exact (hf c hc).1, (hf c hc).2⟩
   have I2 := I1.turnedL (h' := g') (t' := s.toks) (fp := [n + 4, n + 2, n + 3, n, n + 1]) (fun c o hc e => (t'.2 c (fun z => hc (by simp [z]))).trans e) hf1
   have g2' : IsPair g (n + 2) (.ref n) (.ref (n + 1)) := hk _ _ D.a1 D.a5 D.a6 D.a7 h2
   obtain ⟨o3, e3, r3⟩ := g3
   obtain ⟨o4, e4, r4⟩ := g4
   exact ⟨.ref s.heap.objs.size, _, I2, rfl, ⟨s.heap.objs.size, x, y, I.fresh, rfl, rfl, fun zs hs => by rw [I.tuple_inj hs hq]; exact hx, fun zs hs => by rw [I.tuple_inj hs hq']; exact hy⟩,
     ⟨z', (t'.2 _ D.a1).trans g2', ⟨_, _, (t'.2 _ D.a2).trans g2⟩, ⟨o3, (t'.2 _ D.a3).trans e3, r3⟩, ⟨o4, (t'.2 _ D.a4).trans e4, r4⟩⟩, fun c hc => (hf1 c hc).1⟩
 done := by
   intro X hP hw hK hc i pins s σ H E I hf st hg
   subst hP hw hK
   obtain ⟨xs, ys, hq, hq', hx⟩ := hg
   obtain ⟨its, rv, p1, hz⟩ := I.tuple hq
   obtain ⟨jts, rv', p2, hz'⟩ := I.tuple hq'
   obtain ⟨h1, h2, ⟨p, q, h3⟩, h4, h5⟩ := st
   have apart : ∀ c ∈ [n + 4, n + 2, n + 3, n, n + 1], ∀ v : List V, ∀ d : Addr, SqT X.K H d v -> d ≠ c := fun c hc v d hd z => by
     have e := (hf c hc).1
     rcases hd with (hd | ⟨ob, hd⟩) | hd
     · rw [z, e] at hd; cases hd
     · rw [z, e] at hd; cases hd
     · obtain ⟨ob, _, _, hk, _⟩ := hd
       have e3 := I.ok.mod.kin d ob hk
       obtain ⟨_, q1, _, q3, _⟩ := hf c hc
       rcases q3 with q3 | q3
       · exact I.ok.noex d ob e3 (z ▸ q3)
       · exact absurd (Nat.lt_of_lt_of_le (Heap.lt_size (I.ok.bs d ob e3).1) (z ▸ q3)) (Nat.lt_irrefl _)
   have D : ZApart (n + 4) (n + 2) (n + 3) n (n + 1) a b := ⟨zne 2 4 (by decide), zne 3 4 (by decide), zne 0 4 (by decide), zne 1 4 (by decide), zne 2 3 (by decide), zne 2 0 (by decide), zne 2 1 (by decide), zne 3 0 (by decide), zne 3 1 (by decide), zne 0 1 (by decide), apart _ (by simp) xs a hq, apart _ (by simp) xs a hq, apart _ (by simp) xs a hq, apart _ (by simp) xs a hq, apart _ (by simp) ys b hq', apart _ (by simp) ys b hq', apart _ (by simp) ys b hq', apart _ (by simp) ys b hq'⟩
   have l1 := rv.length
   have l2 := rv'.length
   refine zT_pyNext_end (I.ok.hd hc) D h1 h2 h3 h4 h5 (show s.heap.IsTuple a its.toArray from p1) (show s.heap.IsTuple b jts.toArray from p2) ?_ fun g hk => ⟨rfl, I.turnedL (t' := s.toks) (fp := [n + 4, n + 2, n + 3, n, n + 1]) (fun c o hc e => hk c o (fun z => hc (by simp [z])) (fun z => hc (by simp [z])) (fun z => hc (by simp [z])) (fun z => hc (by simp [z])) e) hf⟩
   rcases hx with q | q
   · exact .inl (by simp; omega)
   · exact .inr (by simp; omega)
 self := fun _ _ _ _ _ st h => wpAny_pyIter_zip st.1 h
def zipD : List D -> List D -> List D
 | x :: xs, y :: ys => .tup [x, y] :: zipD xs ys
 | _, _ => []
theorem zipD_get : ∀ {xs ys : List D} {i : Nat} {d : D}, (zipD xs ys)[i]? = some d -> ∃ x y, xs[i]? = some x /\ ys[i]? = some y /\ d = .tup [x, y]
 | [], _, _, _, h => by simp [zipD] at h
 | _ :: _, [], _, _, h => by simp [zipD] at h
 | x :: xs, y :: ys, 0, d, h => by simp [zipD] at h; exact ⟨x, y, rfl, rfl, h.symm⟩
 | x :: xs, y :: ys, i + 1, d, h => by
   simp only [zipD, List.getElem?_cons_succ] at h
   obtain ⟨a, b, h1, h2, h3⟩ := zipD_get h
   exact ⟨a, b, by simpa using h1, by simpa using h2, h3⟩
theorem zipD_len : ∀ (xs ys : List D), (zipD xs ys).length = min xs.length ys.length
 | [], _ => by simp [zipD]
 | _ :: _, [] => by simp [zipD]
 | x :: xs, y :: ys => by rw [zipD, List.length_cons, zipD_len xs ys, List.length_cons, List.length_cons]; omega
theorem yields_zip {K : PySem.W.Frag} {G : Hp} {a b : Addr} {vs us : List V} {ds es : List D} (h : SqT K G a vs) (r : Reps K G ds vs) (h' : SqT K G b us) (r' : Reps K G es us) : Yields K (Itz K a b) G (zipD ds es) := by
 intro i G2 H2 s1 s2
 have q : SqT K H2 a vs := (s1.trans s2).tup h
 have q' : SqT K H2 b us := (s1.trans s2).tup h'
 refine ⟨fun d hd => ?_, fun hi => ⟨vs, us, q, q', ?_⟩⟩
 · obtain ⟨x, y, h1, h2, rfl⟩ := zipD_get hd
   obtain ⟨v, e1, rv⟩ := r.get h1
   obtain ⟨u, e2, ru⟩ := r'.get h2
   refine ⟨⟨vs, us, v, u, q, q', e1, e2⟩, fun x' H3 yy => ?_⟩
   obtain ⟨p, v', u', hp, rfl, rfl, y1, y2⟩ := yy
   have f1 := y1 vs q
   rw [e1] at f1; cases f1
   have f2 := y2 us q'
   rw [e2] at f2; cases f2
   have s3 := Step.laid (o := .tup [v, u]) s2 hp
   exact ⟨_, s3, rep_tup.mpr ⟨p, _, rfl, .of upd_same, reps_cons.mpr ⟨_, _, rfl, (rv.mono s1).mono s3.gg, reps_cons.mpr ⟨_, _, rfl, (ru.mono s1).mono s3.gg, reps_nil.mpr rfl⟩⟩⟩⟩
 · rw [zipD_len] at hi
   rw [← r.length, ← r'.length]
   omega
section
variable {X : Cx} {a b c e tg elt iter : Expr} {fa fb : Ef} {pos p : Pos}
def iZip (f g : Ef) : Lf := fun ρ => (f ρ).bind fun x => (g ρ).bind fun y => match x, y with | .tup xs, .tup ys => some (zipD xs ys) | _, _ => none
theorem pi_zip {elts : List Expr} {k : Nat} {pos' : Pos} (hg : Gl X "zip") (hm : X.mg "zip" = none) (ha : PF X a fa) (hb : PF X b fb) (hs : starEach [a, b] X.env = [(false, eval a X.env), (false, eval b X.env)] := by rfl) (hs2 : starEach [b] X.env = [(false, eval b X.env)] := by rfl) :
   PFI X (.Tuple elts k pos') (.Call (.Name "zip" p) [a, b] [] pos) (iZip fa fb) := by
 intro pins s σ H R I q
 obtain ⟨G0, H0, G, ρ, ds, good, hf, kk⟩ := q
 unfold iZip at hf
 obtain ⟨x, h1, hf⟩ := Option.bind_eq_some_iff.mp hf
 obtain ⟨y, h2, hf⟩ := Option.bind_eq_some_iff.mp hf
 cases x with
 | tup xs =>
   cases y with
   | tup ys =>
     cases hf
     have hA := pa_cons ha (pa_cons hb pa_nil (by rw [hs2]; rfl)) (by rw [hs, hs2]) pos pins s σ H (fun vs H' => ∃ a b us ws G', vs = [.ref a, .ref b] /\ Step G H G' H' /\ SqT X.K G' a us /\ Reps X.K G' xs us /\ SqT X.K G' b ws /\ Reps X.K G' ys ws) I
       ⟨G0, H0, G, ρ, _, good, h1, fun v H1 G1 s1 r1 => ⟨G0, H0, G1, ρ, _, good.step s1, h2, fun u H2 G2 s2 r2 => by
         obtain ⟨a, us, rfl, q1, q2⟩ := rep_tup.mp (r1.mono s2.gg)
         obtain ⟨b, ws, rfl, q3, q4⟩ := rep_tup.mp r2
         exact ⟨a, b, us, ws, G2, rfl, s1.trans s2, q1, q2, q3, q4⟩⟩⟩
     refine Call_ (ld_blt I hg hm (by rfl) (PyProof.Rows.callWith_type1 (thn hA fun us s1 ⟨vs, H1, I1, r1, l1, l2, ws, zs, G1, e1, st1, q1, q2, q3, q4⟩ => ?_) (by rw [hs, hs2]) (by rw [hs2]; rfl)))
     subst e1
     obtain ⟨u, u', rfl, ru, ru'⟩ := vals2 r1
     cases ru
     cases ru'
     obtain ⟨its, rv, p1, _⟩ := I1.tuple (st1.sub.tup q1)
     obtain ⟨jts, rv', p2, _⟩ := I1.tuple (st1.sub.tup q3)
     refine call_zipT (show s1.heap.IsTuple l1 its.toArray from p1) (show s1.heap.IsTuple l2 jts.toArray from p2) fun h' z1 z2 z3 z4 z5 hk => ?_
     have I2 : Inv X pins σ H1 { s1 with heap := h' } := I1.kept (t' := s1.toks) hk
     refine wpAny_pyIter_zip z1 ?_
     refine ⟨_, [s1.heap.objs.size + 4, s1.heap.objs.size + 2, s1.heap.objs.size + 3, s1.heap.objs.size, s1.heap.objs.size + 1], _, _, H1, rfl, I2, turn_zip l1 l2 s1.heap.objs.size, ⟨z1, z2, ⟨_, _, z3⟩, z4, z5⟩, fun b hb => ?_, kk _ H1 G1 st1 (yields_zip q1 q2 q3 q4)⟩
     have hb' : s1.heap.objs.size <= b := by
       simp only [List.mem_cons, List.not_mem_nil, or_false] at hb
       rcases hb with z | z | z | z | z <;> (rw [z]; first | exact Nat.le_refl _ | exact Nat.le_add_right _ _)
     exact I1.fpOk hb' (I1.hok.fresh hb')
   | _ => cases hf
 | _ => cases hf
end
end L2
set_option maxHeartbeats 4000000
namespace L2
open PySem PySem.Spec PyProof.Rows
def eqDs (f : D -> D -> Option Bool) : List D -> List D -> Option Bool
 | x :: xs, y :: ys => (f x y).bind fun a => (eqDs f xs ys).map fun b => a && b
 | _, _ => some true
def eqD : Nat -> D -> D -> Option Bool
 | _ + 1, .int i, .int j => some (i == j)
 | _ + 1, .bl i, .bl j => some (i == j)
 | _ + 1, .str i, .str j => some (i == j)
 | _ + 1, .non, .non => some true
 | n + 1, .tup xs, .tup ys => (eqDs (eqD n) xs ys).map fun b => b && xs.length == ys.length
 | n + 1, .lst xs, .lst ys => if xs.length = ys.length then eqDs (eqD n) xs ys else some false
 | _, _, _ => none
def pairAt (f : D -> D -> Option Bool) (xs ys : List D) (j : Nat) : Bool := match xs[j]?, ys[j]? with | some a, some c => (f a c).getD true | _, _ => true
theorem eqDs_all {f : D -> D -> Option Bool} : ∀ {xs ys : List D} {b : Bool}, eqDs f xs ys = some b -> b = (List.range (min xs.length ys.length)).all (pairAt f xs ys) /\ ∀ (j : Nat) (a c : D), xs[j]? = some a -> ys[j]? = some c -> f a c = some (pairAt f xs ys j)
 | [], _, _, h => by cases h; exact ⟨by simp, fun j a c e => by simp at e⟩
 | _ :: _, [], _, h => by cases h; exact ⟨by simp, fun j a c _ e => by simp at e⟩
 | x :: xs, y :: ys, b, h => by
   unfold eqDs at h
   obtain ⟨a, h1, h⟩ := Option.bind_eq_some_iff.mp h
   obtain ⟨b', h2, rfl⟩ := Option.map_eq_some_iff.mp h
   obtain ⟨e1, e2⟩ := eqDs_all h2
   constructor
   · rw [List.length_cons, List.length_cons, Nat.succ_min_succ, List.range_succ_eq_map, List.all_cons, List.all_map, e1]
     congr 1
     simp [pairAt, h1]
   · intro j p q hp hq
     cases j with
     | zero =>
       simp at hp hq
       subst hp; subst hq
       simp [pairAt, h1]
     | succ j =>
       have := e2 j p q (by simpa using hp) (by simpa using hq)
       simpa [pairAt] using this
section
variable {X : Cx} {pins : List (Addr × Obj)} {σ : St} {H G : Hp} {s : Shared}
theorem eqD_same (I : Inv X pins σ H s) (sub : Same G H) : ∀ (n : Nat) (d d' : D) (x : V) (k : Bool), eqD n d d' = some k -> Rep X.K G d x -> Rep X.K G d' x -> k = true := by
 intro n
 induction n with
 | zero => intro d d' x k h; cases d <;> cases d' <;> cases h
 | succ n ih =>
   have many : ∀ (ds es : List D) (vs : List V) (b : Bool), eqDs (eqD n) ds es = some b -> Reps X.K G ds vs -> Reps X.K G es vs -> b = true := by
     intro ds
     induction ds with
     | nil => intro es vs b h _ _; cases h; rfl
     | cons d r ihr =>
       intro es vs b h r1 r2
       cases es with
       | nil => cases h; rfl
       | cons e t =>
         unfold eqDs at h
         obtain ⟨a, h1, h⟩ := Option.bind_eq_some_iff.mp h
         obtain ⟨b', h2, rfl⟩ := Option.map_eq_some_iff.mp h
         obtain ⟨v, vr, rfl, q1, q2⟩ := reps_cons.mp r1
         obtain ⟨v', vr', e', q3, q4⟩ := reps_cons.mp r2
         cases e'
         rw [ih d e v a h1 q1 q3, ihr t vr b' h2 q2 q4]; rfl
   intro d d' x k h r1 r2
   cases d with
   | int i =>
     cases d' with
     | int j => cases h; rw [rep_int] at r1 r2; rw [r1] at r2; cases r2; simp
     | _ => cases h
   | bl i =>
     cases d' with
     | bl j => cases h; rw [rep_bl] at r1 r2; rw [r1] at r2; cases r2; simp
     | _ => cases h
   | str i =>
     cases d' with
     | str j => cases h; rw [rep_str] at r1 r2; rw [r1] at r2; cases r2; simp
     | _ => cases h
   | non =>
     cases d' with
     | non => cases h; rfl
     | _ => cases h
   | tup ds =>
     cases d' with
     | tup es =>
       unfold eqD at h
       obtain ⟨b, h1, rfl⟩ := Option.map_eq_some_iff.mp h
       obtain ⟨p, vs, e1, q1, q2⟩ := rep_tup.mp r1
       obtain ⟨p', vs', e2, q3, q4⟩ := rep_tup.mp r2
       rw [e1] at e2; cases e2
       have ev := I.tuple_inj (sub.tup q1) (sub.tup q3)
       subst ev
       rw [many ds es vs b h1 q2 q4, q2.length, q4.length]; simp
     | _ => cases h
   | lst ds =>
     cases d' with
     | lst es =>
       unfold eqD at h
       obtain ⟨p, vs, e1, q1, q2⟩ := rep_lst.mp r1
       obtain ⟨p', vs', e2, q3, q4⟩ := rep_lst.mp r2
       rw [e1] at e2; cases e2
       have ev := I.list_inj (sub.seq q1) (sub.seq q3)
       subst ev
       rw [if_pos (by rw [q2.length, q4.length])] at h
       exact many ds es vs k h q2 q4
     | _ => cases h
   | obj C ns ds => cases d' <;> cases h
   | exc C ns ds => cases d' <;> cases h
theorem at_D (I : Inv X pins σ H s) (sub : Same G H) : ∀ (n : Nat) (A : Around) (d d' : D) (x y : V) (u v : Value) (k : Bool), A.units + n < cLine -> eqD n d d' = some k -> Rep X.K G d x -> Rep X.K G d' y -> RelV x u -> RelV y v ->
   SeqAt.RcAt A s u v k /\ SeqAt.RcNeAt A s u v (!k) /\ SeqAt.EqAt A s u v k := by
 intro n
 induction n with
 | zero => intro A d d' x y u v k _ h; cases d <;> cases d' <;> cases h
 | succ n ih =>
   intro A d d' x y u v k hu h r1 r2 ru rv
   have hu1 : A.units < cLine := by omega
   have hin : A.in1.units + n < cLine := by show A.units + 1 + n < cLine; omega
   cases d with
   | int i =>
     cases d' with
     | int j => cases h; rw [rep_int] at r1 r2; subst r1; subst r2; obtain ⟨t, rfl⟩ := ru; obtain ⟨t', rfl⟩ := rv; exact ⟨SeqAt.RcAt.int_int _ _ _ _, SeqAt.RcNeAt.int_int _ _ _ _, SeqAt.EqAt.int_int _ _ _ _⟩
     | _ => cases h
   | bl i =>
     cases d' with
     | bl j => cases h; rw [rep_bl] at r1 r2; subst r1; subst r2; cases ru; cases rv; exact ⟨SeqAt.RcAt.bool_bool _ _, SeqAt.RcNeAt.bool_bool _ _, SeqAt.EqAt.bool_bool _ _⟩
     | _ => cases h
   | str i =>
     cases d' with
     | str j => cases h; rw [rep_str] at r1 r2; subst r1; subst r2; obtain ⟨t, rfl⟩ := ru; obtain ⟨t', rfl⟩ := rv; exact ⟨SeqAt.RcAt.str_str _ _ _ _, SeqAt.RcNeAt.str_str _ _ _ _, SeqAt.EqAt.str_str _ _ _ _⟩
     | _ => cases h
   | non =>
     cases d' with
     | non => cases h; rw [rep_non] at r1 r2; subst r1; subst r2; cases ru; cases rv; exact ⟨SeqAt.RcAt.none_none, SeqAt.RcNeAt.none_none, SeqAt.EqAt.same _⟩
     | _ => cases h
   | tup ds =>
     cases d' with
     | tup es =>
       have h0 := h
       unfold eqD at h
       obtain ⟨b, h1, rfl⟩ := Option.map_eq_some_iff.mp h
       obtain ⟨p, vs, rfl, q1, q2⟩ := rep_tup.mp r1
       obtain ⟨p', vs', rfl, q3, q4⟩ := rep_tup.mp r2
       cases ru; cases rv
       obtain ⟨its, w1, t1, _⟩ := I.tuple (sub.tup q1)
       obtain ⟨jts, w2, t2, _⟩ := I.tuple (sub.tup q3)
       obtain ⟨e1, e2⟩ := eqDs_all h1
       have l1 : ds.length = its.length := q2.length.trans w1.length
       have l2 : es.length = jts.length := q4.length.trans w2.length
       have he : ∀ j (a1 : j < its.toArray.size) (a2 : j < jts.toArray.size), SeqAt.EqAt A.in1 s its.toArray[j] jts.toArray[j] (pairAt (eqD n) ds es j) := fun j a1 a2 => by
         have b1 : j < ds.length := by rw [l1]; simpa using a1
         have b2 : j < es.length := by rw [l2]; simpa using a2
         obtain ⟨v1, f1, g1⟩ := q2.get (List.getElem?_eq_getElem b1)
         obtain ⟨v2, f2, g2⟩ := q4.get (List.getElem?_eq_getElem b2)
         obtain ⟨u1, f3, g3⟩ := w1.get f1
         obtain ⟨u2, f4, g4⟩ := w2.get f2
         have x1 : its.toArray[j] = u1 := by
           have := (List.getElem?_eq_some_iff.mp f3).2
           simpa using this
         have x2 : jts.toArray[j] = u2 := by
           have := (List.getElem?_eq_some_iff.mp f4).2
           simpa using this
         rw [x1, x2]
         exact (ih A.in1 _ _ v1 v2 u1 u2 _ hin (e2 j _ _ (List.getElem?_eq_getElem b1) (List.getElem?_eq_getElem b2)) g1 g2 g3 g4).2.2
       have ek : ((List.range (min its.toArray.size jts.toArray.size)).all (pairAt (eqD n) ds es) && its.toArray.size == jts.toArray.size) = (b && ds.length == es.length) := by
         rw [List.size_toArray, List.size_toArray, ← l1, ← l2, e1]
       have R1 := SeqAt.RcAt.tuples t1 t2 hu1 he
       have R2 := SeqAt.RcNeAt.tuples t1 t2 hu1 he
       rw [ek] at R1 R2
       refine ⟨R1, R2, ?_⟩
       by_cases hp : p = p'
       · subst hp
         have hk := eqD_same I sub (n + 1) (.tup ds) (.tup es) (.ref p) _ h0 r1 r2
         rw [hk]
         exact SeqAt.EqAt.same _
       · exact .of_refs hp R1
     | _ => cases h
   | lst ds =>
     cases d' with
     | lst es =>
       have h0 := h
       unfold eqD at h
       obtain ⟨p, vs, rfl, q1, q2⟩ := rep_lst.mp r1
       obtain ⟨p', vs', rfl, q3, q4⟩ := rep_lst.mp r2
       cases ru; cases rv
       obtain ⟨its, w1, t1, _⟩ := I.list (sub.seq q1)
       obtain ⟨jts, w2, t2, _⟩ := I.list (sub.seq q3)
       have l1 : ds.length = its.length := q2.length.trans w1.length
       have l2 : es.length = jts.length := q4.length.trans w2.length
       have fin : SeqAt.RcAt A s (.ref p) (.ref p') k /\ SeqAt.RcNeAt A s (.ref p) (.ref p') (!k) := by
         split at h
         · rename_i hl
           obtain ⟨e1, e2⟩ := eqDs_all h
           have he : ∀ j (a1 : j < its.toArray.size) (a2 : j < jts.toArray.size), SeqAt.EqAt A.in1 s its.toArray[j] jts.toArray[j] (pairAt (eqD n) ds es j) := fun j a1 a2 => by
             have b1 : j < ds.length := by rw [l1]; simpa using a1
             have b2 : j < es.length := by rw [l2]; simpa using a2
             obtain ⟨v1, f1, g1⟩ := q2.get (List.getElem?_eq_getElem b1)
             obtain ⟨v2, f2, g2⟩ := q4.get (List.getElem?_eq_getElem b2)
             obtain ⟨u1, f3, g3⟩ := w1.get f1
             obtain ⟨u2, f4, g4⟩ := w2.get f2
             have x1 : its.toArray[j] = u1 := by
               have := (List.getElem?_eq_some_iff.mp f3).2
               simpa using this
             have x2 : jts.toArray[j] = u2 := by
               have := (List.getElem?_eq_some_iff.mp f4).2
               simpa using this
             rw [x1, x2]
             exact (ih A.in1 _ _ v1 v2 u1 u2 _ hin (e2 j _ _ (List.getElem?_eq_getElem b1) (List.getElem?_eq_getElem b2)) g1 g2 g3 g4).2.2
           have hsz : its.toArray.size = jts.toArray.size := by rw [List.size_toArray, List.size_toArray, ← l1, ← l2, hl]
           have ek : (List.range its.toArray.size).all (pairAt (eqD n) ds es) = k := by
             rw [e1, List.size_toArray, ← l1, ← hl, Nat.min_self]
           have R1 := SeqAt.RcAt.lists t1.isList t2.isList hsz hu1 he
           have R2 := SeqAt.RcNeAt.lists t1.isList t2.isList hsz hu1 he
           rw [ek] at R1 R2
           exact ⟨R1, R2⟩
         · rename_i hl
           cases h
           have hsz : (its.toArray.size != jts.toArray.size) = true := by
             rw [List.size_toArray, List.size_toArray, ← l1, ← l2]
             simpa using hl
           exact ⟨SeqAt.RcAt.lists_lengths t1.isList t2.isList hsz hu1, SeqAt.RcNeAt.lists_lengths t1.isList t2.isList hsz hu1⟩
       refine ⟨fin.1, fin.2, ?_⟩
       by_cases hp : p = p'
       · subst hp
         have hk := eqD_same I sub (n + 1) (.lst ds) (.lst es) (.ref p) _ h0 r1 r2
         rw [hk]
         exact SeqAt.EqAt.same _
       · exact .of_refs hp fin.1
     | _ => cases h
   | obj C ns ds => cases d' <;> cases h
   | exc C ns ds => cases d' <;> cases h
end
section
variable {X : Cx} {a b c e : Expr} {fa fb : Ef} {ga gb : Lf} {pos p : Pos} {k : Nat}
end
end L2
namespace L2
open PySem PySem.Spec PyProof.Rows
section
variable {X : Cx} {a b c e tg elt iter : Expr} {es ifs : List Expr} {fa fb fc : Ef} {ga gb gi : Lf} {ta tc : Tf} {pos p : Pos} {st : Stmt}
def eB3 (g g' : D -> D -> Option Bool) (fa fb fc : Ef) : Tf := fun ρ => (fa ρ).bind fun x => (fb ρ).bind fun y => (g x y).bind fun k => if k = true then (fc ρ).bind fun z => g' y z else some false
theorem pf_chain {op op' : CmpOp} {g g' : D -> D -> Option Bool} (hc1 : CmR X op g) (hc2 : CmR X op' g') (ha : PF X a fa) (hb : PF X b fb) (hc : PF X c fc) (hm : lastMarks [op, op'] [b, c] = false := by with_unfolding_all rfl) : PF X (.Compare a [op, op'] [b, c] pos) (eOfT (eB3 g g' fa fb fc)) := by
 obtain ⟨r, ho, hr⟩ := hc1
 obtain ⟨r', ho', hr'⟩ := hc2
 refine PE.to (pe_chain ho ho' ha hb hc hm) ?_
 rintro σ H Q ⟨G0, H0, G, ρ, d, good, hf, k⟩
 obtain ⟨b', hf2, rfl⟩ := eOfT_inv hf
 unfold eB3 at hf2
 obtain ⟨x, h1, hf2⟩ := Option.bind_eq_some_iff.mp hf2
 obtain ⟨y, h2, hf2⟩ := Option.bind_eq_some_iff.mp hf2
 obtain ⟨kk, h3, hf2⟩ := Option.bind_eq_some_iff.mp hf2
 refine ⟨G0, H0, G, ρ, _, good, h1, fun u H1 G1 s1 r1 => ⟨G0, H0, G1, ρ, _, good.step s1, h2, fun v H2 G2 s2 r2 => ?_⟩⟩
 refine hr x y kk G2 H2 u v _ h3 s2.sub (r1.mono s2.gg) r2 fun H3 G3 s3 => ⟨kk, rfl, ?_⟩
 split at hf2
 · rename_i hk
   rw [if_pos hk]
   obtain ⟨z, h4, hf3⟩ := Option.bind_eq_some_iff.mp hf2
   refine ⟨G0, H0, G3, ρ, _, ((good.step s1).step s2).step s3, h4, fun w' H4 G4 s4 r4 => ?_⟩
   exact hr' y z b' G4 H4 v w' Q hf3 s4.sub ((r2.mono s3.gg).mono s4.gg) r4 fun H5 G5 s5 => k _ _ G5 ((((s1.trans s2).trans s3).trans s4).trans s5) (rep_bl.mpr rfl)
 · rename_i hk
   rw [if_neg hk]; cases hf2
   exact k _ _ G3 ((s1.trans s2).trans s3) (rep_bl.mpr rfl)
end
end L2
namespace L2
open PySem PySem.Spec PyProof.Rows
section
variable {X : Cx} {a b c e tg elt iter : Expr} {es ifs : List Expr} {fa fb fc : Ef} {ga gb gi : Lf} {ta tc : Tf} {pos p : Pos} {st : Stmt}
theorem call_intS : CallR X (.type "int") (fun xs H Q => ∃ x n, xs = [.str x] /\ x.length <= 640 /\ PySem.intText? x = some n /\ Q (.int n) H) := by
 intro pins s σ H xs us Q I r h
 obtain ⟨x, n, rfl, hl, hn, q⟩ := h
 obtain ⟨u, rfl, t, rfl⟩ := vals1 r
 exact PySem.W.KIN.call_text hn hl ⟨.int n, H, I.tok _, ⟨_, rfl⟩, q⟩
def intD : D -> Option D
 | .int i => some (.int i)
 | .bl k => some (.int (if k then 1 else 0))
 | .str x => if x.length <= 640 then (PySem.intText? x).map .int else none
 | _ => none
def eIntOf (f : Ef) : Ef := fun ρ => (f ρ).bind intD
theorem pf_intOf (hg : Gl X "int") (hm : X.mg "int" = none) (h : PF X a fa) (hs : starEach [a] X.env = [(false, eval a X.env)] := by rfl) : PF X (.Call (.Name "int" p) [a] [] pos) (eIntOf fa) := by
 refine PE.to (pe_callTy (call_int1.or call_intS) hg hm (by rfl) (pa_cons h pa_nil (by rw [hs]; rfl)) (by decide) (by decide) (by rw [hs]; rfl) (by rfl)) ?_
 rintro σ H Q ⟨G0, H0, G, ρ, d, good, hf, k⟩
 unfold eIntOf at hf
 obtain ⟨x, h1, hf⟩ := Option.bind_eq_some_iff.mp hf
 refine ⟨G0, H0, G, ρ, _, good, h1, fun v H1 G1 s1 r1 => ?_⟩
 unfold intD at hf
 split at hf
 · cases hf; exact .inl (.inl ⟨_, by rw [rep_int.mp r1], k _ _ G1 s1 (rep_int.mpr rfl)⟩)
 · cases hf; exact .inl (.inr ⟨_, by rw [rep_bl.mp r1], k _ _ G1 s1 (rep_int.mpr rfl)⟩)
 · split at hf
   · rename_i hz
     obtain ⟨n, h2, rfl⟩ := Option.map_eq_some_iff.mp hf
     exact .inr ⟨_, n, by rw [rep_str.mp r1], hz, h2, k _ _ G1 s1 (rep_int.mpr rfl)⟩
   · cases hf
 · cases hf
theorem op_mulB : OpR X (binaryOp .Mult) (rI IntMulOk fun i j => .int (i * j)) := opI fun _ _ _ _ _ _ _ hc q => mul_int q hc
theorem op_catS : OpR X (binaryOp .Add) (fun x y H Q => ∃ l b xs zs, x = .ref l /\ y = .ref b /\ SqL X.K H l xs /\ SqL X.K H b zs /\ xs.length + zs.length <= sizeLine /\ ∀ p, H p = none -> Q (.ref p) (upd H p (.lst (xs ++ zs)))) := by
 intro pins s σ H x y v u Q I rx ry h
 obtain ⟨l, b, xs, zs, rfl, rfl, hH, hB, hz, q⟩ := h
 cases rx
 cases ry
 obtain ⟨its, r, pl, _⟩ := I.list hH
 obtain ⟨its2, r2, pl2, _⟩ := I.list hB
 obtain ⟨⟨cls, dd, data, sl⟩, ho, hc, n, hd⟩ := pl.isList
 obtain ⟨⟨cls2, dd2, data2, sl2⟩, ho2, hc2, n2, hd2⟩ := pl2.isList
 simp only at hc hd hc2 hd2
 subst hc hd hc2 hd2
 have hl := r.length
 have hl2 := r2.length
 have e : its.toArray ++ its2.toArray = (its ++ its2).toArray := by simp
 refine concat_meets ⟨_, ho, rfl⟩ ⟨_, ho2, rfl⟩ noFill_list_add seq_list_add PySem.F.slot_list_add PySem.F.entry_list_add (PySem.F.args_list_add_2 _ _) (list_addW l b its.toArray its2.toArray n n2 dd dd2 sl sl2 (by rw [List.size_toArray, List.size_toArray]; omega)) ⟨ho, ho2, ?_⟩
 rw [e]
 exact ⟨.ref _, _, I.lnew (t' := s.toks) (r.append r2) (by rw [List.length_append]; omega), rfl, q _ I.fresh⟩
theorem pl_catS (ha : PSrc X a ga) (hb : PSrc X b gb) : PFr X (.BinOp a .Add b pos) (lCat ga gb) := by
 refine PE.toR (pe_op op_catS ha hb) ?_
 rintro σ H Q ⟨G0, H0, G, ρ, d, good, hf, k⟩
 unfold lCat at hf
 obtain ⟨xs, h1, hf⟩ := Option.bind_eq_some_iff.mp hf
 obtain ⟨ys, h2, hf⟩ := Option.bind_eq_some_iff.mp hf
 obtain ⟨rfl, h3⟩ := okL_inv hf
 refine ⟨G0, H0, G, ρ, _, good, h1, fun p vs H1 G1 s1 hq rs => ⟨G0, H0, G1, ρ, _, good.step s1, h2, fun q us H2 G2 s2 hq2 rs2 => ?_⟩⟩
 refine ⟨p, q, vs, us, rfl, rfl, (s1.sub.trans s2.hh).seq hq, s2.sub.seq hq2, ?_, fun l hl => ?_⟩
 · rw [← rs.length, ← rs2.length, ← List.length_append]; exact Nat.le_of_lt (lim_ok h3)
 · have s3 := Step.own (o := .lst (vs ++ us)) s2.sub hl
   exact k l _ _ G2 ((s1.trans s2).trans s3) ((s1.trans s2).hh.free hl) upd_same (s2.sub.free hl) ((rs.mono s2.gg).append rs2)
end
structure FunD (K : PySem.W.Frag) (x qual : Str) (st : Stmt) (f : Addr) (fd : FuncData) : Prop where
 ex : ∃ (oc : Value) (od : Option Addr) (dV kV doc pm : Value) (an : Option Addr) (cdv ct : Value) (osl : Array (Option Value)),
   fd = PySem.W.fnOf x qual (defArgs st) (defBody st) (defScope st) dV kV doc pm an cdv ct /\ K.lookup f = some ⟨oc, od, .func fd, osl⟩ /\ PySem.W.codeIn K cdv qual = true
 kp : PySem.W.keepIn K (.ref f) = true
section
variable {P : Program} {w : World} {K : PySem.W.Frag} {mg : Str -> Option Value} {base : Heap} {x qual : Str} {st : Stmt} {f : Addr} {fd : FuncData} {N ps : List Str} {k : Nat}
end
section
variable {X : Cx} {e : Expr} {es : List Expr} {ga : Lf} {pos p : Pos}
end
end L2
namespace L2
open PySem PySem.Spec PyProof.Rows
theorem lookup_rep {K : PySem.W.Frag} {G : Hp} {f : Str} {d : D} : ∀ {ns : List Str} {ds : List D} {vs : List V}, ns.length = ds.length -> Reps K G ds vs -> (ns.zip ds).lookup f = some d -> ∃ u, (ns.zip vs).lookup f = some u /\ Rep K G d u
 | [], _, _, _, _, h => by simp at h
 | n :: ns, [], _, hl, _, _ => by simp at hl
 | n :: ns, e :: ds, _, hl, r, h => by
   obtain ⟨v, vr, rfl, r1, r2⟩ := reps_cons.mp r
   rw [List.zip_cons_cons, List.lookup_cons] at h ⊢
   cases hq : f == n with
   | true => rw [hq] at h; cases h; exact ⟨v, rfl, r1⟩
   | false => rw [hq] at h; exact lookup_rep (by simpa using hl) r2 h
section
variable {X : Cx} {a b c e tg elt iter : Expr} {es ifs : List Expr} {fa fb fc : Ef} {ga gb gi : Lf} {ta tc : Tf} {pos p : Pos} {st : Stmt}
def eFld (c f : Str) (fa : Ef) : Ef := fun ρ => (fa ρ).bind fun d => match d with | .obj c' ns ds => if c' = c then (ns.zip ds).lookup f else none | _ => none
theorem pf_fld {C : Addr} {c f : Str} (hC : ClsAt X.K c C) (hcl : Cls X.K C) (hn : NoAttr X.K C f) (ha : PF X a fa) (hb : attributeBase a f X.env (eval a X.env) = eval a X.env := by rfl) : PF X (.Attribute a f pos) (eFld c f fa) := by
 refine PE.to (pe_fld ha hb) ?_
 rintro σ H Q ⟨G0, H0, G, ρ, d, good, hf, k⟩
 unfold eFld at hf
 obtain ⟨x, h1, hf2⟩ := Option.bind_eq_some_iff.mp hf
 cases x with
 | obj c' ns ds =>
   dsimp only at hf2
   by_cases hc : c' = c
   · rw [if_pos hc] at hf2
     subst hc
     refine ⟨G0, H0, G, ρ, _, good, h1, fun v H1 G1 s1 r1 => ?_⟩
     obtain ⟨C', q, dx, vs, e0, rfl, e1, e2, e3⟩ := rep_obj.mp r1
     have ec := hC.one e0
     subst ec
     obtain ⟨u, e4, e5⟩ := lookup_rep e2 e3 hf2
     exact ⟨q, _, dx, ns.zip vs, u, rfl, s1.sub _ _ e1, hcl, hn, e4, k _ _ G1 s1 e5⟩
   · rw [if_neg hc] at hf2; cases hf2
 | _ => cases hf2
theorem putF_new {f : Str} {y : V} : ∀ {ns : List Str} {vs : List V}, ns.length = vs.length -> f ∉ ns -> putF f y (ns.zip vs) = (ns ++ [f]).zip (vs ++ [y])
 | [], [], _, _ => rfl
 | [], _ :: _, h, _ => by simp at h
 | _ :: _, [], h, _ => by simp at h
 | n :: ns, v :: vs, h, hf => by
   show (if n = f then _ else (n, v) :: putF f y (ns.zip vs)) = _
   rw [if_neg (fun z => hf (by rw [z]; exact List.mem_cons_self)), putF_new (by simpa using h) (fun z => hf (List.mem_cons_of_mem _ z))]
   rfl
def tIni (K : PySem.W.Frag) (C : Addr) (ns : List Str) (g : Lf) : TS := fun DD σ H => ∃ (G0 H0 G : Hp) (ρ : List B) (p dx : Addr) (pre : List Str) (us : List V) (xs ds : List D),
 Good K G0 H0 G H σ ρ /\ NoOw ρ /\ σ[0]? = some (some (.ref p)) /\ H p = some (.ins C dx (pre.zip us)) /\ G p = none /\ H0 p = none /\ pre.length = us.length /\ (pre ++ ns).Nodup /\ (pre ++ ns).length <= 900 /\ Reps K G xs us /\ g ρ = some ds /\
 ∀ H' G' vs, Step G0 H0 G' H' -> H' p = some (.ins C dx ((pre ++ ns).zip vs)) -> G' p = none -> Reps K G' (xs ++ ds) vs -> DD.nx σ H'
theorem ini_nil {C : Addr} : PSs X [] (tIni X.K C [] aNil) := by
 intro pins s σ H D I h
 refine pss_nil pins s σ H D I ?_
 obtain ⟨G0, H0, G, ρ, p, dx, pre, us, xs, ds, good, now, hs, hp, gp, h0, hl, nd, hz, rs, hg, k⟩ := h
 cases hg
 rw [List.append_nil] at k
 exact k H G us good.st (by rw [List.append_nil] at *; exact hp) gp (by rw [List.append_nil]; exact rs)
theorem ini_cons {C : Addr} {f x : Str} {ns : List Str} {g : Lf} {rest : List Stmt} {pos' p1 : Pos} (hcl : Cls X.K C) (hn : NoAttr X.K C f) (hself : X.N[0]? = some x) (hvis : Vis X.env.scope x) (he : PF X e fa) (hr : PSs X rest (tIni X.K C ns g)) (hd : (x == ("__debug__" : Str)) = false := by decide) (hcd : (x == ("__classdict__" : Str)) = false := by decide)
   (hs : swapsWith e (some (.Attribute (.Name x p1) f pos')) pos.line X.env = pure false := by rfl) : PSs X (.Assign [.Attribute (.Name x p1) f pos'] e pos :: rest) (tIni X.K C (f :: ns) (aCons fa g)) := by
 intro pins s σ H D I h
 refine pss_cons (ps_fld (pe_var hself hvis hd hcd) he hs) hr pins s σ H D I ?_
 obtain ⟨G0, H0, G, ρ, p, dx, pre, us, xs, ds, good, now, hself, hp, gp, h0, hl, nd, hz, rs, hg, k⟩ := h
 obtain ⟨d, dr, h1, h2, rfl⟩ := aCons_inv hg
 have hlp : pre.length < 1000 := by rw [List.length_append] at hz; omega
 have hnp : f ∉ pre := fun z => (List.nodup_append.mp nd).2.2 f z f List.mem_cons_self rfl
 have e1 : pre ++ f :: ns = (pre ++ [f]) ++ ns := by simp
 refine ⟨G0, H0, G, ρ, d, good, h1, fun v H1 G1 s1 r1 => ⟨.ref p, hself, p, C, dx, pre.zip us, rfl, s1.hh _ _ hp, hcl, hn, ?_, ?_⟩⟩
 · rw [List.length_zip]; omega
 · have hne : H p ≠ none := by rw [hp]; exact fun z => nomatch z
   have gp1 : G1 p = none := (s1.new p hne).trans gp
   refine ⟨G0, H0, G1, ρ, p, dx, pre ++ [f], us ++ [v], xs ++ [d], dr, (good.step s1).wrX now gp1 h0, now, hself, ?_, gp1, h0, by rw [List.length_append, List.length_append, hl]; rfl, by rw [← e1]; exact nd, by rw [← e1]; exact hz, (rs.mono s1.gg).snoc r1, h2, fun H' G' vs st q1 q2 q3 => ?_⟩
   · rw [upd_same, putF_new hl hnp]
   · refine k H' G' vs st (by rw [e1]; exact q1) q2 ?_
     rw [show xs ++ d :: dr = (xs ++ [d]) ++ dr by simp]
     exact q3
end
def spI (K : PySem.W.Frag) (C : Addr) (ns : List Str) (n : Nat) (f : List D -> Option (List D)) : Sp := fun vs H Q _ => ∃ (p dx : Addr) (rest : List V) (G H0 : Hp) (ds xs : List D), vs = .ref p :: rest /\ H = upd (upd H0 dx (.own p)) p (.ins C dx []) /\ H0 p = none /\ H0 dx = none /\ dx ≠ p /\ Same G H0 /\ Reps K G ds rest /\ ds.length = n /\ f ds = some xs /\
 ∀ H' G' us, Step G H0 G' H' -> H' p = some (.ins C dx (ns.zip us)) -> G' p = none -> Reps K G' xs us -> Q .non H'
theorem paired_fz {K : PySem.W.Frag} {G H0 H : Hp} (m : Nat) : ∀ {ds : List D} {vs : List V}, Reps K G ds vs -> Paired (RB K H0 G H) (vs.map some ++ List.replicate m none) (ds.map .fz ++ List.replicate m .no)
 | [], _, h => by
   rw [reps_nil] at h; subst h
   show Paired _ (List.replicate m none) (List.replicate m B.no)
   induction m with
   | zero => exact .nil
   | succ n ih => rw [List.replicate_succ, List.replicate_succ]; exact .cons .no ih
 | d :: r, _, h => by
   obtain ⟨v, vr, rfl, h1, h2⟩ := reps_cons.mp h
   exact .cons (.fz h1) (paired_fz m h2)
theorem noow_fz (m : Nat) (ds : List D) : NoOw (.no :: (ds.map B.fz ++ List.replicate m B.no)) := by
 constructor
 all_goals
   intro j es h
   cases j with
   | zero => cases h
   | succ j =>
     rw [List.getElem?_cons_succ] at h
     by_cases hi : j < ds.length
     · rw [List.getElem?_append_left (by simpa using hi), List.getElem?_map] at h
       obtain ⟨k, _, h⟩ := Option.map_eq_some_iff.mp h
       cases h
     · rw [List.getElem?_append_right (by simpa using hi), List.getElem?_replicate] at h
       split at h <;> cases h
def startI (N : Nat) (ds : List D) : List B := .no :: (ds.map .fz ++ List.replicate (N - (ds.length + 1)) .no)
section
variable {P : Program} {w : World} {K : PySem.W.Frag} {mg : Str -> Option Value} {base : Heap} {x qual : Str} {st : Stmt} {f C : Addr} {fd : FuncData} {N ps ns : List Str} {k : Nat} {sf : Str}
theorem ok_init {g : Lf} (F : Fun K x qual st f fd) (S : FnScope N (sf :: ps) (defScope st)) (hnd : ns.Nodup) (hlen : ns.length <= 900)
   (hb : ∀ (cdv : Value) (A : Around) (outer : List Env) (s : Shared) (H : Hp) (E : XK), Room k (A.deeper (envOfC qual (defScope st) s.heap.objs.size f cdv)) -> PSs (cxOf CX0 P w K mg base N qual (defScope st) f cdv A outer s H E).nox (defBody st) (tIni K C ns g)) :
   FnOk P w K mg base CX0 (k + 1) f fd (sf :: ps) (spI K C ns ps.length fun ds => g (startI N.length ds)) := by
 refine F.ok S (fun vs H Q E h => ?_) (fun cdv A outer s H vs Q E hr h => ⟨_, hb cdv A outer s H E hr, ?_⟩)
 · obtain ⟨p, dx, rest, G, H0, ds, xs, rfl, _, _, _, _, _, rs, hl, _⟩ := h
   rw [List.length_cons, List.length_cons, ← rs.length, hl]
 · obtain ⟨p, dx, rest, G, H0, ds, xs, rfl, rfl, h1, h2, h3, sub, rs, hl, hf, k⟩ := h
   have hne : p ≠ dx := h3.symm
   have hp1 : (upd H0 dx (.own p)) p = none := by rw [upd_ne hne]; exact h1
   have st1 : Step G H0 G (upd H0 dx (.own p)) := Step.own sub h2
   have st2 : Step G H0 G (upd (upd H0 dx (.own p)) p (.ins C dx [])) := st1.trans (Step.own st1.sub hp1)
   have good : Good K G H0 G (upd (upd H0 dx (.own p)) p (.ins C dx [])) (start N (.ref p :: rest)) (startI N.length ds) := by
     refine ⟨st2, ?_, fun i j a es es' q1 => absurd q1 ((noow_fz _ ds).1 i es)⟩
     unfold start startI
     rw [List.map_cons, List.length_cons, List.cons_append, ← rs.length]
     exact .cons .no (paired_fz _ rs)
   refine ⟨G, H0, G, _, p, dx, [], [], [], xs, good, noow_fz _ ds, rfl, upd_same, sub.free h1, h1, rfl, hnd, hlen, reps_nil.mpr rfl, hf, fun H' G' us s' q1 q2 q3 => k H' G' us s' q1 q2 q3⟩
end
section
variable {X : Cx} {a b c e tg elt iter : Expr} {es ifs : List Expr} {fa fb fc : Ef} {ga gb gi : Lf} {ta tc : Tf} {pos p : Pos} {st : Stmt}
def eMake (c : Str) (ns : List Str) (n : Nat) (f : List D -> Option (List D)) (g : Lf) : Ef := fun ρ => (g ρ).bind fun ds => if ds.length = n then (f ds).bind fun xs => if ns.length = xs.length then some (.obj c ns xs) else none else none
theorem pf_make {k n : Nat} {C fI : Addr} {fd : FuncData} {ps ns : List Str} {c : Str} {f : List D -> Option (List D)} (hC : ClsAt X.K c C) (M : Mk X.K C fI) (F : FnOk X.prog X.w X.K X.mg X.base CX0 k fI fd ps (spI X.K C ns n f)) (hr : Room (k + 1) X.A) (hm : X.mg c = some (.ref C)) (hb : Binds X.K fd ps []) (hg : Gl X c)
   (ha : PFA X (e :: es) ga) (hdb : (c == ("__debug__" : Str)) = false := by decide) (he : starEach (e :: es) X.env = (false, eval e X.env) :: starEach es X.env := by rfl) (hpl : (backTo pos (starEach es X.env)).any (·.1) = false := by rfl) :
   PF X (.Call (.Name c p) (e :: es) [] pos) (eMake c ns n f ga) := by
 refine PE.to (pe_make (E := E0) M F hr hg hm hb .nil pass0 ha hdb he hpl) ?_
 rintro σ H Q ⟨G0, H0, G, ρ, d, good, hf, k⟩
 unfold eMake at hf
 obtain ⟨ds, h1, hf⟩ := Option.bind_eq_some_iff.mp hf
 split at hf
 · rename_i hl
   obtain ⟨xs, h2, hf⟩ := Option.bind_eq_some_iff.mp hf
   split at hf
   · rename_i hn
     cases hf
     refine ⟨G0, H0, G, ρ, _, good, h1, fun vs H1 G1 s1 r1 x dx hx hdx hne => ?_⟩
     refine ⟨x, dx, vs ++ [], G1, H1, ds, xs, rfl, rfl, hx, hdx, hne, s1.sub, by rw [List.append_nil]; exact r1, hl, h2, fun H' G' us s' q1 q2 q3 => ⟨rfl, ?_⟩⟩
     exact k _ _ _ (s1.trans (s'.frz hx q1 q2)) (rep_obj.mpr ⟨C, x, dx, us, hC, rfl, upd_same, hn, q3.mono (Same.new q2)⟩)
   · cases hf
 · cases hf
def gIsC : D -> D -> Option Bool
 | d, .non => some (isNon d)
 | .bl x, .bl y => some (x == y)
 | .non, .bl _ => some false
 | .int _, .bl _ => some false
 | .str _, .bl _ => some false
 | .tup _, .bl _ => some false
 | .lst _, .bl _ => some false
 | .obj _ _ _, .bl _ => some false
 | .exc _ _ _, .bl _ => some false
 | _, _ => none
theorem op_isB : OpR X (compareOp .Is) (fun x y H Q => ∃ k, y = .bl k /\ Q (.bl (decide (x = .bl k))) H) := by
 intro pins s σ H x y v u Q I rx ry h
 obtain ⟨k, rfl, q⟩ := h
 cases ry
 cases x with
 | bl z => cases rx; refine is_bool (fin_bl I q ?_); rw [dec_bl]
 | non => cases rx; refine wpAny_is_other (by rfl) (by intro z; cases z) (fin_bl I q (by simp))
 | int i => obtain ⟨t, rfl⟩ := rx; refine wpAny_is_other (by rfl) (by intro z; cases z) (fin_bl I q (by simp))
 | str i => obtain ⟨t, rfl⟩ := rx; refine wpAny_is_other (by rfl) (by intro z; cases z) (fin_bl I q (by simp))
 | byt i => obtain ⟨t, rfl⟩ := rx; refine wpAny_is_other (by rfl) (by intro z; cases z) (fin_bl I q (by simp))
 | flt i => obtain ⟨t, rfl⟩ := rx; refine wpAny_is_other (by rfl) (by intro z; cases z) (fin_bl I q (by simp))
 | ref i => cases rx; refine wpAny_is_other (by rfl) (by intro z; cases z) (fin_bl I q (by simp))
 | ty i => cases rx; refine wpAny_is_other (by rfl) (by intro z; cases z) (fin_bl I q (by simp))
theorem cm_isC : CmR X .Is gIsC := ⟨_, op_isN.or op_isB, fun d d' k G H x y Q h s rx ry q => by
 have fin : ∀ (z : Bool) (v : V), d' = .bl z -> x = v -> k = decide (v = .bl z) -> (fun x y H Q => y = V.non /\ Q (.bl (decide (x = .non))) H) x y H Q ∨ (∃ k, y = .bl k /\ Q (.bl (decide (x = .bl k))) H) := fun z v e1 e2 e3 => by
   subst e1; subst e2
   exact .inr ⟨z, rep_bl.mp ry, by rw [← e3]; exact q H G (.refl s)⟩
 cases d' with
 | non =>
   have hk : isNon d = k := by cases d <;> (cases h; rfl)
   refine .inl ⟨rep_non.mp ry, ?_⟩
   rw [rep_isNon rx, hk]; exact q H G (.refl s)
 | bl z =>
   cases d with
   | bl w => cases h; exact fin z _ rfl (rep_bl.mp rx) (by rw [dec_bl])
   | non => cases h; exact fin z _ rfl (rep_non.mp rx) (by simp)
   | int i => cases h; exact fin z _ rfl (rep_int.mp rx) (by simp)
   | str i => cases h; exact fin z _ rfl (rep_str.mp rx) (by simp)
   | tup ds => cases h; obtain ⟨p, _, e, _⟩ := rep_tup.mp rx; exact fin z _ rfl e (by simp)
   | lst ds => cases h; obtain ⟨p, _, e, _⟩ := rep_lst.mp rx; exact fin z _ rfl e (by simp)
   | obj _ _ ds => cases h; obtain ⟨_, p, _, _, _, e, _⟩ := rep_obj.mp rx; exact fin z _ rfl e (by simp)
   | exc _ _ ds => cases h; obtain ⟨_, p, _, _, _, e, _⟩ := rep_exc.mp rx; exact fin z _ rfl e (by simp)
 | _ => cases d <;> cases h⟩
def lRep (g : Lf) (f : Ef) : Lf := fun ρ => (g ρ).bind fun ds => (f ρ).bind fun n => match n with | .int k => if decide (0 <= k) && decide (k <= 1000) && decide (ds.length <= 90) then some (List.replicate k.toNat ds).flatten else none | _ => none
theorem reps_rep {K : PySem.W.Frag} {G : Hp} {ds : List D} {vs : List V} (h : Reps K G ds vs) : ∀ k : Nat, Reps K G (List.replicate k ds).flatten (List.replicate k vs).flatten
 | 0 => reps_nil.mpr rfl
 | k + 1 => by
   rw [List.replicate_succ, List.replicate_succ, List.flatten_cons, List.flatten_cons]
   exact h.append (reps_rep h k)
theorem pl_rep (ha : PFr X a ga) (hb : PF X b fb) : PFr X (.BinOp a .Mult b pos) (lRep ga fb) := by
 refine PE.toR (pe_op op_rep ha hb) ?_
 rintro σ H Q ⟨G0, H0, G, ρ, d, good, hf, k⟩
 unfold lRep at hf
 obtain ⟨xs, h1, hf⟩ := Option.bind_eq_some_iff.mp hf
 obtain ⟨n, h2, hf⟩ := Option.bind_eq_some_iff.mp hf
 cases n with
 | int m =>
   dsimp only at hf
   split at hf
   · rename_i hc
     cases hf
     simp only [Bool.and_eq_true, decide_eq_true_eq] at hc
     refine ⟨G0, H0, G, ρ, _, good, h1, fun p vs H1 G1 s1 hn hp gp rs => ⟨G0, H0, G1, ρ, _, good.step s1, h2, fun q H2 G2 s2 r2 => ?_⟩⟩
     have hne : H1 p ≠ none := by rw [hp]; exact fun z => nomatch z
     refine ⟨p, m, vs, rfl, rep_int.mp r2, s2.hh _ _ hp, by omega, by omega, ?_, fun l hl => ?_⟩
     · rw [← rs.length]
       have : xs.length * m.toNat <= 90 * 1000 := Nat.mul_le_mul hc.2 (by omega)
       exact Nat.le_trans this (by decide)
     · have s3 := Step.own (o := .lst (List.replicate m.toNat vs).flatten) s2.sub hl
       exact k l _ _ G2 ((s1.trans s2).trans s3) ((s1.trans s2).hh.free hl) upd_same (s2.sub.free hl) (reps_rep (rs.mono s2.gg) _)
   · cases hf
 | _ => cases hf
def tOwnNe (i : Nat) : Tf := fun ρ => match ρ[i]? with | some (.ow ds) => some (!ds.isEmpty) | _ => none
theorem op_neNil (hu : X.A.units < cLine) : OpR X (compareOp .NotEq) (fun x y H Q => ∃ l m xs, x = .ref l /\ y = .ref m /\ SqL X.K H l xs /\ SqL X.K H m [] /\ Q (.bl (!xs.isEmpty)) H) := by
 intro pins s σ H x y v u Q I rx ry h
 obtain ⟨l, m, xs, rfl, rfl, hl, hm, q⟩ := h
 cases rx
 cases ry
 obtain ⟨its, w1, t1, _⟩ := I.list hl
 obtain ⟨jts, w2, t2, _⟩ := I.list hm
 cases w2
 cases xs with
 | nil =>
   cases w1
   have R := SeqAt.RcNeAt.lists (A := X.A) (s := s) (e := fun _ => true) t1.isList t2.isList rfl hu (fun j h1 => absurd h1 (by simp))
   exact R X.prog X.w X.xe _ ⟨.bl false, H, I, rfl, q⟩
 | cons x r =>
   cases w1 with
   | cons r1 r2 =>
     have R := SeqAt.RcNeAt.lists_lengths (A := X.A) (s := s) t1.isList t2.isList (by simp) hu
     exact R X.prog X.w X.xe _ ⟨.bl true, H, I, rfl, q⟩
theorem pt_ownNe {k : Nat} (i : Nat) (hr : Room k X.A) {x : Str} {p1 p2 : Pos} (hN : X.N[i]? = some x := by rfl) (hv : Vis X.env.scope x := by first | exact Or.inl rfl | exact Or.inr (Or.inl rfl) | exact Or.inr (Or.inr rfl)) (hd : (x == ("__debug__" : Str)) = false := by decide) (hcd : (x == ("__classdict__" : Str)) = false := by decide) :
   PFT X (.Compare (.Name x p1) [.NotEq] [.List [] p2] pos) (tOwnNe i) := by
 refine PT.to (pt_cmpR (op_neNil hr.units0) (pe_var hN hv hd hcd) (pe_lst pa_nil) (nomark _)) ?_
 rintro σ H Q ⟨G0, H0, G, ρ, b, good, hf, k⟩
 unfold tOwnNe at hf
 split at hf
 · rename_i ds hi
   cases hf
   obtain ⟨q, vs, e1, e2, e3, e4, e5⟩ := good.addr hi
   refine ⟨.ref q, e1, Nat.zero_le _, fun z hz => ⟨q, z, vs, rfl, rfl, .of (by rw [upd_ne (ne_of_none e2 hz)]; exact e2), .of upd_same, _, rfl, ?_⟩⟩
   have e : (!vs.isEmpty) = !ds.isEmpty := by
     have hl := e5.length
     cases vs with
     | nil => cases ds with
       | nil => rfl
       | cons _ _ => simp at hl
     | cons _ _ => cases ds with
       | nil => simp at hl
       | cons _ _ => rfl
   rw [e]
   exact k _ G (Step.own good.sub hz)
 · cases hf
end
section
variable {l : Addr} {its : Array Value} {n : Nat} {dd : Option Addr} {sl : Array (Option Value)} {y : Value} {q : Nat -> Bool} {top : Int} {j : Nat}
theorem ix_loop (hj : j < its.size) (ht : (j : Int) < top) (hq : q j = true) : ∀ (k i : Nat), j - i = k -> i <= j -> (∀ m, i <= m -> m < j -> q m = false) -> Meets (Builtin.«list.index.loop» ⟨[.ref l, y, rawInt i, rawInt top], []⟩)
   (fun A R s => s.heap.get? l = some { cls := .type "list", dict := dd, data := .seq its n, slots := sl } /\ (∀ m (h : m < its.size), SeqAt.EqAt A.in1 s its[m] y (q m)) /\ R (.ok (.ret (.int j s.toks))) { s with toks := s.toks + 1 })
 | 0, i, hk, hi, _ => by
   have e : i = j := by omega
   subst e
   intro P w A R s hyp
   obtain ⟨hp, g, d, tk, os⟩ := s
   obtain ⟨at_, eqs, fin⟩ := hyp
   wp_walk using wpAny_loadPart' at_
   rw [show (if (i : Int) < top then its[((i : Nat) : Int).toNat]? else none) = some its[i] by simp [ht, hj]]
   refine wpAny_bind (eqs i hj P w _ _ ?_)
   rw [hq]
   wp_walk
   exact fin
 | k + 1, i, hk, hi, hno => by
   intro P w A R s hyp
   obtain ⟨hp, g, d, tk, os⟩ := s
   obtain ⟨at_, eqs, fin⟩ := hyp
   have lt : i < its.size := by omega
   have lt2 : (i : Int) < top := by omega
   wp_walk using wpAny_loadPart' at_
   rw [show (if (i : Int) < top then its[((i : Nat) : Int).toNat]? else none) = some its[i] by simp [lt2, lt]]
   refine wpAny_bind (eqs i lt P w _ _ ?_)
   rw [hno i (Nat.le_refl _) (by omega)]
   wp_walk
   rw [show ((i : Int) + 1) = ((i + 1 : Nat) : Int) by push_cast; rfl]
   exact ⟨plainId_quiet MeetsSeq.plain_index_loop _, codeAny_builtin MeetsSeq.entry_index_loop (by
     rw [Around.under_plainId MeetsSeq.plain_index_loop _]
     exact ix_loop hj ht hq k (i + 1) (by omega) (by omega) (fun m h1 h2 => hno m (by omega) h2) P w A R _ ⟨at_, eqs, fin⟩)⟩
theorem ix_meets (hj : j < its.size) (hs : (j : Int) < 2 ^ 63 - 1) (hq : q j = true) (hno : ∀ m, m < j -> q m = false) : Meets (Builtin.«list.index» ⟨[.ref l, y], []⟩)
   (fun A R s => s.heap.get? l = some { cls := .type "list", dict := dd, data := .seq its n, slots := sl } /\ (∀ m (h : m < its.size), SeqAt.EqAt A.in1 s its[m] y (q m)) /\ R (.ok (.ret (.int j s.toks))) { s with toks := s.toks + 1 }) := by
 intro P w A R s hyp
 obtain ⟨hp, g, d, tk, os⟩ := s
 obtain ⟨at_, eqs, fin⟩ := hyp
 wp_walk using wpAny_loadPart' at_
 rw [show ((fun i : Int => if i < 0 then max 0 (i + (its.size : Int)) else i) ((none : Option Int).getD 0)) = ((0 : Nat) : Int) by simp,
   show ((fun i : Int => if i < 0 then max 0 (i + (its.size : Int)) else i) ((none : Option Int).getD (2 ^ 63 - 1))) = 2 ^ 63 - 1 by simp]
 exact ⟨plainId_quiet MeetsSeq.plain_index_loop _, codeAny_builtin MeetsSeq.entry_index_loop (by
   rw [Around.under_plainId MeetsSeq.plain_index_loop _]
   exact ix_loop hj hs hq _ 0 rfl (Nat.zero_le _) (fun m _ h2 => hno m h2) P w A R _ ⟨at_, eqs, fin⟩)⟩
end
def ixD (d : D) : List D -> Option Nat
 | [] => none
 | x :: r => (eqD 8 x d).bind fun b => if b = true then (if (r.all fun z => (eqD 8 z d).isSome) then some 0 else none) else (ixD d r).map (· + 1)
theorem ixD_spec {d : D} : ∀ {ds : List D} {j : Nat}, ixD d ds = some j -> j < ds.length /\ (∀ (m : Nat) (x : D), ds[m]? = some x -> ∃ b, eqD 8 x d = some b /\ (m < j -> b = false) /\ (m = j -> b = true))
 | [], _, h => by cases h
 | x :: r, j, h => by
   unfold ixD at h
   obtain ⟨b, h1, h⟩ := Option.bind_eq_some_iff.mp h
   split at h
   · rename_i hb
     split at h
     · rename_i ha
       cases h
       refine ⟨by simp, fun m z hz => ?_⟩
       cases m with
       | zero => cases hz; exact ⟨b, h1, fun q => absurd q (Nat.lt_irrefl _), fun _ => hb⟩
       | succ m =>
         rw [List.getElem?_cons_succ] at hz
         have := List.all_eq_true.mp ha z (List.mem_of_getElem? hz)
         obtain ⟨b', hb'⟩ := Option.isSome_iff_exists.mp this
         exact ⟨b', hb', fun q => by omega, fun q => by omega⟩
     · cases h
   · rename_i hb
     obtain ⟨i, h2, rfl⟩ := Option.map_eq_some_iff.mp h
     obtain ⟨h3, h4⟩ := ixD_spec h2
     refine ⟨by rw [List.length_cons]; omega, fun m z hz => ?_⟩
     cases m with
     | zero => cases hz; exact ⟨b, h1, fun _ => by simpa using hb, fun q => by omega⟩
     | succ m =>
       rw [List.getElem?_cons_succ] at hz
       obtain ⟨b', q1, q2, q3⟩ := h4 m z hz
       exact ⟨b', q1, fun q => q2 (by omega), fun q => q3 (by omega)⟩
section
variable {X : Cx} {a b c e tg elt iter : Expr} {es ifs : List Expr} {fa fb fc : Ef} {ga gb gi : Lf} {ta tc : Tf} {pos p : Pos} {st : Stmt}
def rIndex (X : Cx) : V -> List V -> Hp -> VK -> Prop := fun x vs H Q => ∃ l y G ds ws d j, x = .ref l /\ vs = [y] /\ Same G H /\ SqL X.K H l ws /\ Reps X.K G ds ws /\ Rep X.K G d y /\ ixD d ds = some j /\ ds.length <= 100000 /\ Q (.int (j : Nat)) H
theorem mt_index {k : Nat} (hr : Room k X.A) : MtR X "list.index" (rIndex X) := by
 intro pins s σ H x xs v us Q I rx rv h
 obtain ⟨l, y, G, ds, ws, d, j, rfl, rfl, sub, hq, rs, rd, hj, hl, q⟩ := h
 cases rx
 obtain ⟨u, rfl, ru⟩ := rv.one
 obtain ⟨its, r, pl, _⟩ := I.list hq
 obtain ⟨⟨cls, dd, data, sl⟩, ho, hc, n, hd⟩ := pl.isList
 simp only at hc hd
 subst hc hd
 obtain ⟨h1, h2⟩ := ixD_spec hj
 have l1 := rs.length
 have l2 := r.length
 have hun := hr.units
 have bs : ∀ m, ∃ b : Bool, (m < j -> b = false) /\ (m = j -> b = true) /\ ∀ (h : m < its.toArray.size), SeqAt.EqAt X.A.in1 s its.toArray[m] u b := fun m => by
   by_cases hm : m < ds.length
   · obtain ⟨b, q1, q2, q3⟩ := h2 m _ (List.getElem?_eq_getElem hm)
     refine ⟨b, q2, q3, fun h => ?_⟩
     obtain ⟨v1, f1, g1⟩ := rs.get (List.getElem?_eq_getElem hm)
     obtain ⟨u1, f3, g3⟩ := r.get f1
     have x1 : its.toArray[m] = u1 := by
       have := (List.getElem?_eq_some_iff.mp f3).2
       simpa using this
     rw [x1]
     exact (at_D I sub 8 X.A.in1 _ _ v1 y u1 u _ (by show X.A.units + 1 + 8 < cLine; omega) q1 g1 rd g3 ru).2.2
   · exact ⟨decide (m = j), fun z => decide_eq_false (by omega), fun z => decide_eq_true z, fun h => absurd h (by rw [List.size_toArray, ← l2, ← l1]; exact hm)⟩
 have hjs : j < its.toArray.size := by rw [List.size_toArray, ← l2, ← l1]; exact h1
 refine call_meets F.slot_list_index ⟨_, ho, rfl⟩ F.entry_list_index (F.args_list_index_2 _ _) (ix_meets (l := l) (its := its.toArray) (n := n) (dd := dd) (sl := sl) (y := u) (q := fun m => (bs m).choose) (j := j) hjs (by omega) ((bs j).choose_spec.2.1 rfl) (fun m hm => (bs m).choose_spec.1 hm)) ⟨ho, fun m h => (bs m).choose_spec.2.2 h, ?_⟩
 exact ⟨.int (j : Nat), H, I.tok _, ⟨_, rfl⟩, q⟩
def eIndex (g : Lf) (f : Ef) : Ef := fun ρ => (g ρ).bind fun ds => (f ρ).bind fun d => if ds.length <= 100000 then (ixD d ds).map fun j => .int (j : Nat) else none
theorem pf_index {k : Nat} (hr : Room k X.A) (ht : PE X c (tBM X.K "list" (rIndex X) (tSrc X.K ga) (tCons (tF X.K fb) tNil))) : PF X c (eIndex ga fb) := by
 refine PE.to ht ?_
 rintro σ H Q ⟨G0, H0, G, ρ, d, good, hf, k⟩
 unfold eIndex at hf
 obtain ⟨ds, h1, hf⟩ := Option.bind_eq_some_iff.mp hf
 obtain ⟨y, h2, hf⟩ := Option.bind_eq_some_iff.mp hf
 split at hf
 · rename_i hl
   obtain ⟨j, h3, rfl⟩ := Option.map_eq_some_iff.mp hf
   refine ⟨G0, H0, G, ρ, _, good, h1, fun q vs H1 G1 s1 hq rs => ⟨.inl ⟨rfl, vs, s1.sub.seq hq⟩, G0, H0, G1, ρ, _, good.step s1, h2, fun v H2 G2 s2 r2 => ?_⟩⟩
   exact ⟨q, v, G2, ds, vs, y, j, rfl, rfl, s2.sub, (s1.sub.trans s2.hh).seq hq, rs.mono s2.gg, r2, h3, hl, k _ _ G2 (s1.trans s2) (rep_int.mpr rfl)⟩
 · cases hf
end
end L2
namespace L2
open PySem PySem.Spec PyProof.Rows
section
variable {prog : Program} {w : World} {A : Around} {E : Value -> Shared -> Prop} {s : Shared}
abbrev ZRec (h : Heap) (z TI TO T : Addr) (b : Bool) : Prop := h.get? z = some { cls := .type "zip", dict := none, data := .fields #[rawInt T, .bool b, .bool false, .ref TI, .ref TO], slots := #[] }
end
def ZSt (h : Heap) (n a b S : Addr) (i : Nat) : Prop :=
 ((IsZip h (n + 4) (n + 2) (n + 3) .none /\ ∃ p q, IsPair h (n + 3) p q) ∨ ∃ T f o, ZRec h (n + 4) (n + 2) (n + 3) T f /\ T ∉ [n + 4, n + 2, n + 3, n, n + 1] /\ T ≠ S /\ h.get? T = some o) /\ IsPair h (n + 2) (.ref n) (.ref (n + 1)) /\ h.IsListIter n a i /\ h.IsListIter (n + 1) b i
theorem ZSt.keep {h h' : Heap} {n a b S : Addr} {i : Nat} (z : ZSt h n a b S i) (k : ∀ c u, c ≠ S -> h.get? c = some u -> h'.get? c = some u) (hS : S ∉ [n + 4, n + 2, n + 3, n, n + 1]) (hS3 : (n + 3) ≠ S) : ZSt h' n a b S i := by
 have ne : ∀ c ∈ [n + 4, n + 2, n + 3, n, n + 1], c ≠ S := fun c hc z => hS (z ▸ hc)
 obtain ⟨z1, z2, z3, z4⟩ := z
 refine ⟨?_, k _ _ (ne _ (by simp)) z2, z3.at fun o e => k _ o (ne _ (by simp)) e, z4.at fun o e => k _ o (ne _ (by simp)) e⟩
 rcases z1 with ⟨q1, p, q, q2⟩ | ⟨T, f, o, q1, q2, q3, q4⟩
 · exact .inl ⟨k _ _ (ne _ (by simp)) q1, p, q, k _ _ hS3 q2⟩
 · exact .inr ⟨T, f, o, k _ _ (ne _ (by simp)) q1, q2, q3, k _ _ q3 q4⟩
section
variable {X : Cx} {a b c e tg elt iter : Expr} {es ifs : List Expr} {fa fb fc : Ef} {ga gb gi : Lf} {ta tc : Tf} {pos p p2 : Pos} {st : Stmt}
end
end L2
namespace L2
open PySem PySem.Spec PyProof.Rows
theorem ObjOk.got {P : Program} {w : World} {H : Hp} {h : Heap} {a : Addr} {o : HO} (x : ObjOk P w H h a o) : ∃ u, h.get? a = some u := by
 cases o with
 | lst xs => obtain ⟨_, _, _, _, e⟩ := x; exact ⟨_, e⟩
 | tup xs => obtain ⟨_, _, _, _, e, _⟩ := x; exact ⟨_, e⟩
 | dK kvs => obtain ⟨_, _, _, _, o, _, _, e, _⟩ := x; exact ⟨_, e⟩
 | dT kvs => obtain ⟨_, _, _, _, o, _, _, e, _⟩ := x; exact ⟨_, e⟩
 | set S n => obtain ⟨o, _, _, _, e, _⟩ := x; exact ⟨_, e⟩
 | ins C dx fs => obtain ⟨_, _, _, e, _⟩ := x; exact ⟨_, e⟩
 | own y => exact x
 | xd fs => obtain ⟨_, ⟨_, _, _, e, _⟩, _⟩ := x; exact ⟨_, e⟩
 | rng lo hi => obtain ⟨_, _, _, e⟩ := x; exact ⟨_, e⟩
 | frz ob u => obtain ⟨e, _⟩ := x; exact ⟨_, e⟩
 | tbl ps => exact ⟨_, x⟩
 | met f y => exact ⟨_, x⟩
 | ext φ => obtain ⟨_, q, _⟩ := x; exact q
abbrev mroV : List Value := [.type "ValueError", .type "Exception", .type "BaseException", .type "object"]
def XCls (K : PySem.W.Frag) (C : Addr) : Prop := ∃ bm N nm q bs hdct sn sub ab col dd k0 k1 k2 k3 k5, K.lookup C = some (excClassObj nm q C N bs bm hdct sn sub ab col dd k0 k1 k2 k3 k5 "ValueError.__new__") /\
 PySem.W.nsOkIn K N = true /\ PySem.W.nsIn K N "__init__" = some none /\ PySem.W.tailIn K mroV bm = true
section
variable {X : Cx}
end
open PySem.W
section
variable {prog : Program} {w : World} {A : Around} {E : Value -> Shared -> Prop} {h : Heap} {g : Array GenState} {d : Drawn} {t : Nat} {os : OsState} {a C : Addr} {o : Obj} {K : Frag}
theorem xc_get {R : Result -> Shared -> Prop} (X : K.In h) (hx : h.get? a = some o) (hc : o.cls = .ref C) (g3 : subIn K (.ref C) (.type "object") = some true) (hq : R (.ok (.ret (.ref C))) ⟨h, g, d, t, os⟩) :
   codeAny (model prog w) A (.call (.builtin "getset_descriptor.__get__") ⟨[.builtin "object.__class__", .ref a, .ref C], []⟩) R ⟨h, g, d, t, os⟩ := by
 have L3 := looks_subIn (M := model prog w) X g3
 have hT5 : (⟨h, g, d, t, os⟩ : Shared).TypeIs (.builtin "object.__class__") "getset_descriptor" := F.typeOf_object_class
 have e8 : (".".intercalate ("object.__class__".cutAt '.').dropLast) = "object" := F.owner_object_class
 refine codeAny_call_builtin F.slot_gs_get.plain F.entry_gs_get (F.slot_gs_get.check _ _ _ _ _ _ _ _ hT5 (F.args_gs_get _ _ _) ?_)
 repeat (any_goals (first | assumption | (with_reducible refine wpAny_loadPart_at hx ?_; rw [hc]) | wp_step))
 rw [e8]
 refine L3.at ?_
 repeat (any_goals (first | assumption | (with_reducible refine wpAny_loadPart_at hx ?_; rw [hc]) | wp_step))
 refine ⟨Code.quiet_builtin _ (by decide +kernel), codeAny_builtin F.entry_object_class ?_⟩
 repeat (any_goals (first | assumption | (with_reducible refine wpAny_loadPart_at hx ?_; rw [hc]) | wp_step))
theorem xc_entry {tk : Tok} {Q : Fin -> Shared -> Prop} (X : K.In h) (hx : h.get? a = some o) (hc : o.cls = .ref C) (g2 : findIn K (.ref C) "__class__" = some (some (.builtin "object.__class__"))) (g3 : subIn K (.ref C) (.type "object") = some true) (hq : Q (.done (.ret (.ref C))) ⟨h, g, d, t, os⟩) :
   wpAny (model prog w) A (Builtin.«object.__getattribute__» ⟨[.ref a, .str "__class__" tk], []⟩) Q E ⟨h, g, d, t, os⟩ := by
 have L2 := looks_findIn (M := model prog w) X g2
 have hT5 : (⟨h, g, d, t, os⟩ : Shared).TypeIs (.builtin "object.__class__") "getset_descriptor" := F.typeOf_object_class
 have f5 := F.typeOf_object_class
 have f6 := F.slot_gs_get.lookup
 have f7 := F.slot_gs_set.lookup
 repeat (any_goals (first | assumption | (with_reducible refine wpAny_loadPart_at hx ?_; rw [hc]) | with_reducible refine L2.at ?_ | wp_step))
 refine xc_get X hx hc g3 ?_
 repeat (any_goals (first | assumption | wp_step))
theorem xc_check {M : Model} {id : String} {rest : List Value} {Q : Unit -> Shared -> Prop} {n : String} (X : K.In h) (hx : h.get? a = some o) (hc : o.cls = .ref C) (hk : builtinKind id = some .slot) (hsp : splitId id = some ("BaseException", n)) (g4 : subIn K (.ref C) (.type "BaseException") = some true)
   (ha : argsOk id ⟨.ref a :: rest, []⟩) (hq : Q () ⟨h, g, d, t, os⟩) : wpAny M A (checkBuiltinCall id ⟨.ref a :: rest, []⟩) Q E ⟨h, g, d, t, os⟩ := by
 have L4 := looks_subIn (M := M) X g4
 simp only [checkBuiltinCall, hk, hsp]
 refine wpAny_bind ?_
 unfold isInstance
 repeat (first | (with_reducible refine wpAny_loadPart_at hx ?_; rw [hc]) | with_reducible refine L4.at ?_ | wp_step)
 cases hsig : Manifest.signature? id with
 | none => exact wpAny_pure hq
 | some sig =>
   simp only [argsOk, hsig] at ha
   show wpAny M A (Bind.checkArgs id sig ⟨.ref a :: rest, []⟩) Q E _
   rw [show Bind.checkArgs id sig ⟨.ref a :: rest, []⟩ = pure () from ha]
   exact wpAny_pure hq
theorem bga_kind : builtinKind "BaseException.__getattribute__" = some .slot := by decide +kernel
theorem bga_split : splitId "BaseException.__getattribute__" = some ("BaseException", "__getattribute__") := by decide +kernel
theorem xc_call {tk : Tok} {R : Result -> Shared -> Prop} (X : K.In h) (hx : h.get? a = some o) (hc : o.cls = .ref C) (g2 : findIn K (.ref C) "__class__" = some (some (.builtin "object.__class__"))) (g3 : subIn K (.ref C) (.type "object") = some true) (g4 : subIn K (.ref C) (.type "BaseException") = some true)
   (hq : R (.ok (.ret (.ref C))) ⟨h, g, d, t, os⟩) : codeAny (model prog w) A (.call (.builtin "BaseException.__getattribute__") ⟨[.ref a, .str "__class__" tk], []⟩) R ⟨h, g, d, t, os⟩ := by
 have ha := F.args_bexc_ga (.ref a) (.str "__class__" tk)
 refine codeAny_call_builtin F.excAttr_ValueError.ga.plain F.entry_bexc_ga ?_
 refine xc_check (id := "BaseException.__getattribute__") (rest := [.str "__class__" tk]) X hx hc bga_kind bga_split g4 ha ?_
 exact xc_entry X hx hc g2 g3 hq
theorem xc_by {tk : Tok} {Q : Value -> Shared -> Prop} (X : K.In h) (hx : h.get? a = some o) (hc : o.cls = .ref C) (g1 : findIn K (.ref C) "__getattribute__" = some (some (.builtin "BaseException.__getattribute__"))) (g5 : findIn K (.ref C) "__getattr__" = some none) (g2 : findIn K (.ref C) "__class__" = some (some (.builtin "object.__class__"))) (g3 : subIn K (.ref C) (.type "object") = some true) (g4 : subIn K (.ref C) (.type "BaseException") = some true)
   (hq : Q (.ref C) ⟨h, g, d, t, os⟩) : wpAny (model prog w) A (getAttrBy (.ref a) (.str "__class__" tk) false) Q E ⟨h, g, d, t, os⟩ := by
 have L1 := looks_findIn (M := model prog w) X g1
 have L5 := looks_findIn (M := model prog w) X g5
 have f3 := F.excAttr_ValueError.ga.bind (.ref a)
 repeat (any_goals (first | assumption | (with_reducible refine wpAny_loadPart_at hx ?_; rw [hc]) | with_reducible refine L1.at ?_ | with_reducible refine L5.at ?_ | wp_step))
 refine xc_call X hx hc g2 g3 g4 ?_
 repeat (any_goals (first | assumption | wp_step))
theorem xc_attr {Q : Option Value -> Shared -> Prop} (X : K.In h) (hx : h.get? a = some o) (hc : o.cls = .ref C) (g1 : findIn K (.ref C) "__getattribute__" = some (some (.builtin "BaseException.__getattribute__"))) (g5 : findIn K (.ref C) "__getattr__" = some none) (g2 : findIn K (.ref C) "__class__" = some (some (.builtin "object.__class__"))) (g3 : subIn K (.ref C) (.type "object") = some true) (g4 : subIn K (.ref C) (.type "BaseException") = some true)
   (hq : Q (some (.ref C)) ⟨h, g, d, t + 1, os⟩) : wpAny (model prog w) A (getAttr? (.ref a) "__class__") Q E ⟨h, g, d, t, os⟩ := by
 unfold getAttr? getAttrBy?
 repeat (any_goals (first | assumption | with_reducible apply xc_by X hx hc g1 g5 g2 g3 g4 | wp_step))
theorem kitx_exc (hcl : (clsIn K C).isSome = true) (g1 : findIn K (.ref C) "__getattribute__" = some (some (.builtin "BaseException.__getattribute__"))) (g5 : findIn K (.ref C) "__getattr__" = some none) (g2 : findIn K (.ref C) "__class__" = some (some (.builtin "object.__class__"))) (g3 : subIn K (.ref C) (.type "object") = some true) (g4 : subIn K (.ref C) (.type "BaseException") = some true) :
   KitX K (.ref a) (.ref C) (fun h => ∃ o, h.get? a = some o /\ o.cls = .ref C) where
 ty := fun M h X ⟨o, e1, e2⟩ => by
   intro A' Q' E' s' k q
   unfold typeOf
   obtain ⟨h', g', d', t', os'⟩ := s'
   repeat (first | (with_reducible refine wpAny_loadPart_at (k _ _ e1) ?_; rw [e2]) | wp_step)
   exact q
 it := fun M h X _ => by
   unfold clsIn at hcl
   split at hcl
   · rename_i c' d' cd' sl' ho
     intro A' Q' E' s' k q
     unfold isType loadHead
     exact wpAny_bind (wpAny_loadPart (k _ _ (X _ _ ho)) (wpAny_pure q))
   · cases hcl
 ne := fun h tp dd its n sl X htp => by
   refine Bool.eq_false_iff.mpr fun q => ?_
   have e : C = tp := Value.ref.inj (beq_iff_eq.mp q)
   subst e
   unfold clsIn at hcl
   split at hcl
   · rename_i c' d' cd' sl' ho
     have z := (X _ _ ho).symm.trans htp
     cases z
   · cases hcl
 ca := fun {prog w A E Q s} X p k => by
   obtain ⟨o, e1, e2⟩ := p
   obtain ⟨h', g', d', t', os'⟩ := s
   exact xc_attr X e1 e2 g1 g5 g2 g3 g4 k
end
end L2
namespace L2
open PySem PySem.Spec PySem.W
section
variable {prog : Program} {w : World} {A : Around} {E : Value -> Shared -> Prop} {h : Heap} {g : Array GenState} {d : Drawn} {t : Nat} {os : OsState} {K : Frag}
variable {nm q : Str} {C N : Addr} {bs bm : List Value} {hdct : Bool} {sn : List Str} {sub : List Value} {ab : Bool} {col : Option Bool} {dd : Option Addr} {k0 k1 k2 k3 k5 : Option Value}
end
end L2
namespace L2
open PySem PySem.Spec PySem.W
open Builtin Builtin.ObjectAttr
def refsThen : List Value -> Bool
 | [] => false
 | v :: r => (v :: r) == [.type "ValueError", .type "Exception", .type "BaseException", .type "object"] || match v with | .ref _ => refsThen r | _ => false
section
variable {prog : Program} {w : World} {A : Around} {E : Value -> Shared -> Prop} {h : Heap} {g : Array GenState} {d : Drawn} {t : Nat} {os : OsState} {K : Frag}
variable {nm q : Str} {C N x : Addr} {bs bm : List Value} {sn : List Str} {sub : List Value} {ab : Bool} {col : Option Bool} {dd : Option Addr} {k0 k1 k2 k3 k5 : Option Value} {newId : String} {name : Str} {v : Value} {o : Obj}
end
section
variable {prog : Program} {w : World} {A : Around} {E : Value -> Shared -> Prop} {h : Heap} {g : Array GenState} {d : Drawn} {t : Nat} {os : OsState} {K : Frag} {a C dx : Addr} {o : Obj} {name : Str} {v : Value} {mA : Str -> Option Value}
variable {nm q : Str} {N : Addr} {bs bm : List Value} {sn : List Str} {sub : List Value} {ab : Bool} {col : Option Bool} {dd : Option Addr} {k0 k1 k2 k3 k5 : Option Value} {newId : String}
end
end L2
namespace L2
open PySem PySem.Spec PyProof.Rows
structure XKit (K : PySem.W.Frag) (C : Addr) : Prop where
 cl : (PySem.W.clsIn K C).isSome = true
 ga : PySem.W.findIn K (.ref C) "__getattribute__" = some (some (.builtin "BaseException.__getattribute__"))
 gt : PySem.W.findIn K (.ref C) "__getattr__" = some none
 gc : PySem.W.findIn K (.ref C) "__class__" = some (some (.builtin "object.__class__"))
 so : PySem.W.subIn K (.ref C) (.type "object") = some true
 sb : PySem.W.subIn K (.ref C) (.type "BaseException") = some true
def XObj (K : PySem.W.Frag) (C : Addr) : Prop := ∃ nm q N bs bm sn sub ab col dd k0 k1 k2 k3 k5, K.lookup C = some (excClassObj nm q C N bs bm true sn sub ab col dd k0 k1 k2 k3 k5 "ValueError.__new__") /\ refsThen bm = true
def xkitIn (K : PySem.W.Frag) (C : Addr) : Bool := PySem.W.isClsIn K C && (PySem.W.findIn K (.ref C) "__getattribute__" == some (some (.builtin "BaseException.__getattribute__"))) && (PySem.W.findIn K (.ref C) "__getattr__" == some none) &&
 (PySem.W.findIn K (.ref C) "__class__" == some (some (.builtin "object.__class__"))) && (PySem.W.subIn K (.ref C) (.type "object") == some true) && (PySem.W.subIn K (.ref C) (.type "BaseException") == some true)
theorem xkit_of {K : PySem.W.Frag} {C : Addr} (h : xkitIn K C = true) : XKit K C := by
 unfold xkitIn at h
 simp only [Bool.and_eq_true, beq_iff_eq] at h
 obtain ⟨⟨⟨⟨⟨h1, h2⟩, h3⟩, h4⟩, h5⟩, h6⟩ := h
 exact ⟨h1, h2, h3, h4, h5, h6⟩
theorem xcls_of {K : PySem.W.Frag} {C : Addr} (q : PySem.W.excIn K C mroV "ValueError.__new__" = true) : XCls K C := by
 unfold PySem.W.excIn at q
 split at q
 · rename_i dd cd sl ho
   split at q
   · rename_i C' bm k0 k1 k2 k3 n k5 hm hs
     simp only [Bool.and_eq_true, beq_iff_eq, Bool.not_eq_true'] at q
     obtain ⟨⟨⟨⟨⟨rfl, rfl⟩, hdel⟩, ht⟩, hok⟩, hni⟩ := q
     obtain ⟨nm, bs, mro, ns, qn, hd, sn, sub, ab, col, del⟩ := cd
     dsimp only at hm hdel hok hni
     subst hm hdel
     have hsl : sl = #[k0, k1, k2, k3, some (.builtin "ValueError.__new__"), k5] := by
       obtain ⟨l⟩ := sl
       simp only at hs
       rw [hs]
     subst hsl
     exact ⟨bm, ns, nm, qn, bs, hd, sn, sub, ab, col, dd, k0, k1, k2, k3, k5, ho, hok, hni, ht⟩
   · cases q
 · cases q
def IsxOk (K : PySem.W.Frag) (v : Value) : List (Str × Bool) -> Prop
 | [] => True
 | (c, b) :: r => (∃ C, ClsAt K c C /\ XKit K C /\ PySem.W.kitOne K (.ref C) v = some b) /\ IsxOk K v r
theorem IsxOk.at {K : PySem.W.Frag} {v : Value} : ∀ {tb : List (Str × Bool)} {c : Str} {b : Bool}, IsxOk K v tb -> tb.lookup c = some b -> ∃ C, ClsAt K c C /\ XKit K C /\ PySem.W.kitOne K (.ref C) v = some b
 | [], _, _, _, h => by cases h
 | (n, x) :: r, c, b, ⟨h1, h2⟩, h => by
   rw [List.lookup_cons] at h
   cases hq : c == n with
   | true =>
     rw [hq] at h; cases h
     have e := beq_iff_eq.mp hq
     subst e
     exact h1
   | false => rw [hq] at h; exact h2.at h
def isxIn (K : PySem.W.Frag) (v : Value) (l : List (Addr × Bool)) : Bool := l.all fun x => PySem.W.kitOne K (.ref x.1) v == some x.2
theorem isx_nil {K : PySem.W.Frag} {v : Value} : IsxOk K v [] := True.intro
theorem isx_cons {K : PySem.W.Frag} {v : Value} {C : Addr} {c : Str} {b : Bool} {r : List (Addr × Bool)} {tb : List (Str × Bool)} (ca : ClsAt K c C) (k : XKit K C) (h : isxIn K v ((C, b) :: r) = true) (rest : isxIn K v r = true -> IsxOk K v tb) : IsxOk K v ((c, b) :: tb) := by
 unfold isxIn at h
 rw [List.all_cons, Bool.and_eq_true] at h
 exact ⟨⟨C, ca, k, beq_iff_eq.mp h.1⟩, rest h.2⟩
section
variable {X : Cx} {a b c e tg elt iter : Expr} {es ifs : List Expr} {fa fb fc : Ef} {ga gb gi : Lf} {ta tc : Tf} {pos p : Pos} {st : Stmt}
theorem call_isx {v : Value} {vv : V} (hv : ∀ u, RelV vv u -> u = v) {tb : List (Str × Bool)} (h : IsxOk X.K v tb) : CallR X (.builtin "isinstance") (fun xs H Q => ∃ x G c ns ds b, xs = [x, vv] /\ Same G H /\ Rep X.K G (.exc c ns ds) x /\ tb.lookup c = some b /\ Q (.bl b) H) := by
 intro pins s σ H xs us Q I r hh
 obtain ⟨x, G, c, ns, ds, b, rfl, sub, rx, ht, q⟩ := hh
 obtain ⟨u, u', rfl, ru, ru'⟩ := vals2 r
 have e := hv _ ru'
 subst e
 obtain ⟨C, hC, hk, ho⟩ := h.at ht
 obtain ⟨C', a, od, vs, h0, rfl, h1, _⟩ := rep_exc.mp rx
 have ec := hC.one h0
 subst ec
 cases ru
 obtain ⟨⟨fs, h2⟩, _⟩ := (show ObjOk X.prog X.w H s.heap a (.ext _) from I.hok a _ (sub _ _ h1))
 exact PySem.W.kia_one (kitx_exc hk.cl hk.ga hk.gt hk.gc hk.so hk.sb) I.kIn ⟨_, h2, rfl⟩ ho (fun z => nomatch z) fun tk => ⟨.bl b, H, I.tok tk, rfl, q⟩
def eIsX (tb : List (Str × Bool)) (fa : Ef) : Ef := fun ρ => (fa ρ).bind fun d => match d with | .exc c _ _ => (tb.lookup c).map .bl | _ => none
theorem isx_to {e : Expr} {v : Value} {vv : V} {tb : List (Str × Bool)} (h : PE X e (tCB (fun xs H Q => ∃ x G c ns ds b, xs = [x, vv] /\ Same G H /\ Rep X.K G (.exc c ns ds) x /\ tb.lookup c = some b /\ Q (.bl b) H) (tCons (tF X.K fa) (tCons (tC vv) tNil)))) : PF X e (eIsX tb fa) := by
 refine PE.to h ?_
 rintro σ H Q ⟨G0, H0, G, ρ, d, good, hf, k⟩
 unfold eIsX at hf
 obtain ⟨x, h1, hf⟩ := Option.bind_eq_some_iff.mp hf
 cases x with
 | exc c ns ds =>
   obtain ⟨b, h2, rfl⟩ := Option.map_eq_some_iff.mp hf
   exact ⟨G0, H0, G, ρ, _, good, h1, fun v H1 G1 s1 r1 => ⟨v, G1, c, ns, ds, b, rfl, s1.sub, r1, h2, k _ _ G1 s1 (rep_bl.mpr rfl)⟩⟩
 | _ => cases hf
theorem pf_isx {DN : Str} {DA : Addr} {tb : List (Str × Bool)} {p1 : Pos} (hok : IsxOk X.K (.ref DA) tb) (hmD : X.mg DN = some (.ref DA)) (hgD : Gl X DN) (hg : Gl X "isinstance") (hm : X.mg "isinstance" = none) (h : PF X a fa)
   (hd : (DN == ("__debug__" : Str)) = false := by decide) (hs : starEach [a, .Name DN p1] X.env = [(false, eval a X.env), (false, eval (.Name DN p1) X.env)] := by rfl) : PF X (.Call (.Name "isinstance" p) [a, .Name DN p1] [] pos) (eIsX tb fa) :=
 isx_to (v := .ref DA) (vv := .ref DA) (pe_callB (call_isx (vv := .ref DA) (fun _ z => z) hok) hg hm (by rfl) (pa_cons h (pa_cons (pe_glob (v := .ref DA) hgD hmD rfl hd) pa_nil) (by rw [hs]; rfl)) (by decide) (by decide) (by rw [hs]; rfl) (by rfl))
theorem pf_isxB {T : Str} {TT : String} {tb : List (Str × Bool)} {p1 : Pos} (hT : bootBuiltins T = some (.type TT)) (hok : IsxOk X.K (.type TT) tb) (hmT : X.mg T = none) (hgT : Gl X T) (hg : Gl X "isinstance") (hm : X.mg "isinstance" = none) (h : PF X a fa)
   (hn : T ≠ "__name__" := by decide) (hd : (T == ("__debug__" : Str)) = false := by decide) (hs : starEach [a, .Name T p1] X.env = [(false, eval a X.env), (false, eval (.Name T p1) X.env)] := by rfl) : PF X (.Call (.Name "isinstance" p) [a, .Name T p1] [] pos) (eIsX tb fa) :=
 isx_to (v := .type TT) (vv := .ty TT) (pe_callB (call_isx (vv := .ty TT) (fun _ z => z) hok) hg hm (by rfl) (pa_cons h (pa_cons (pe_bltn (v := .ty TT) hgT hmT hT rfl hn hd) pa_nil) (by rw [hs]; rfl)) (by decide) (by decide) (by rw [hs]; rfl) (by rfl))
def XfOk (K : PySem.W.Frag) (f : Str) : List Str -> Prop
 | [] => True
 | c :: r => (∃ C, ClsAt K c C /\ XKit K C /\ XObj K C /\ NoAttr K C f) /\ XfOk K f r
theorem XfOk.at {K : PySem.W.Frag} {f : Str} : ∀ {cs : List Str} {c : Str}, XfOk K f cs -> c ∈ cs -> ∃ C, ClsAt K c C /\ XKit K C /\ XObj K C /\ NoAttr K C f
 | [], _, _, h => by cases h
 | n :: r, c, ⟨h1, h2⟩, h => by
   rcases List.mem_cons.mp h with e | e
   · subst e; exact h1
   · exact h2.at e
theorem Xd.mono {dx : Addr} {fs : List (Str × V)} (h1 h2 : Heap) (x : Xd dx fs h1) (k : ∀ o, h1.get? dx = some o -> h2.get? dx = some o) : Xd dx fs h2 := by
 obtain ⟨mA, n, r⟩ := x
 exact ⟨mA, n.at k, r⟩
theorem Xe.mono {C a : Addr} {od : Option Addr} (h1 h2 : Heap) (x : Xe C a od h1) (k : ∀ o, h1.get? a = some o -> h2.get? a = some o) : Xe C a od h2 := by
 obtain ⟨f, e⟩ := x
 exact ⟨f, k _ e⟩
structure XSt (K : PySem.W.Frag) (C : Addr) : Prop where
 kit : XKit K C
 ob : XObj K C
 sa : PySem.W.findIn K (.ref C) "__setattr__" = some (some (.builtin "object.__setattr__"))
end
section
variable {P : Program} {w : World} {K : PySem.W.Frag} {mg : Str -> Option Value} {base : Heap} {x qual : Str} {st : Stmt} {f C : Addr} {fd : FuncData} {N ps ns : List Str} {k : Nat} {sf : Str}
end
structure XMk (K : PySem.W.Frag) (C f : Addr) : Prop where
 ob : XObj K C
 init : PySem.W.findIn K (.ref C) "__init__" = some (some (.ref f))
 fn : PySem.W.isFn K (.ref f) = true
 kp : PySem.W.keepIn K (.ref C) = true
section
variable {X : Cx} {a b c e tg elt iter : Expr} {es ifs : List Expr} {fa fb fc : Ef} {ga gb gi : Lf} {ta tc : Tf} {pos p : Pos} {st : Stmt}
end
end L2
namespace L2
open PySem PySem.Spec PyProof.Rows
section
variable {X : Cx} {pos p : Pos}
end
end L2
namespace L2
open PySem PySem.Spec PyProof.Rows
def HeadOk (h : Heap) (e : Addr) (v : Value) : Prop := v = .none ∨ ∃ T oT ts, v = .ref T /\ T ≠ e /\ h.get? T = some oT /\ oT.data = .fields ts /\ ts[3]? = some .none
structure Flew (fs : List Addr) (e : Addr) (c : Value) (od : Option Addr) (vs : Array Value) (sl : Array (Option Value)) (h h' : Heap) : Prop where
 obj : h'.get? e = some { cls := c, dict := od, data := .fields (vs.setIfInBounds 1 (.ref h.objs.size)), slots := sl }
 ne : h.objs.size ≠ e
 head : ∃ oT ts, h'.get? h.objs.size = some oT /\ oT.data = .fields ts /\ ts[3]? = some .none
 keep : ∀ b o, h.get? b = some o -> b ≠ e -> b ∉ fs -> some (Value.ref b) ≠ vs[1]? -> h'.get? b = some o
 slot : ∀ b o, h.get? b = some o -> b ≠ e -> b ∈ fs -> some (Value.ref b) ≠ vs[1]? -> ∃ z, h'.get? b = some { o with slots := z }
section
variable {M : Model} {A : Around} {E : Value -> Shared -> Prop} {s : Shared}
theorem put_field {a : Addr} {c x : Value} {od : Option Addr} {vs : Array Value} {sl : Array (Option Value)} {k : Nat} {Q : Unit -> Shared -> Prop} (ho : s.heap.get? a = some { cls := c, dict := od, data := .fields vs, slots := sl }) (hk : k < vs.size)
   (h : ∀ h', h'.get? a = some { cls := c, dict := od, data := .fields (vs.setIfInBounds k x), slots := sl } -> Heap.SameBut a s.heap h' -> Q () { s with heap := h' }) : wpAny M A (setField (.ref a) k x) Q E s :=
 wpAny_setField ho rfl hk (h _ (Heap.get?_update_self _ ho rfl) (Heap.SameBut.update ..))
theorem entry_put {base : Heap} {env : Env} {outer : List Env} {L e : Addr} {c : Value} {od : Option Addr} {vs : Array Value} {sl : Array (Option Value)} {hd : Value} {nx : Bool} {Q : Unit -> Shared -> Prop}
   (hfr : A.frames = some (env :: outer)) (hl : s.heap.FunFrames base (env :: outer)) (hf : env.frame = some L)
   (he : s.heap.get? e = some { cls := c, dict := od, data := .fields vs, slots := sl }) (hsz : 1 < vs.size)
   (h : ∀ h', (h'.get? e = some { cls := c, dict := od, data := .fields (vs.setIfInBounds 1 (.ref s.heap.objs.size)), slots := sl } /\ s.heap.objs.size ≠ e /\ ∃ oT ts, h'.get? s.heap.objs.size = some oT /\ oT.data = .fields ts /\ ts[3]? = some .none) ->
     (∀ b o, s.heap.get? b = some o -> b ≠ e -> b ∉ frs (env :: outer) -> h'.get? b = some o) -> (∀ b o, s.heap.get? b = some o -> b ≠ e -> b ∈ frs (env :: outer) -> ∃ z, h'.get? b = some { o with slots := z }) -> Q () { s with heap := h' }) :
   wpAny M A (do let a ← frameOf env; let pl ← entryPlaceOf L nx; let b ← EntryCells.newEntry hd a .none (rawInt L) .none pl; setField (.ref e) 1 b) (fun _ s' => wpAny M A (setFlight (.ref e) none) Q E s') E s := by
 have ne : e ∉ frs (env :: outer) := fun z => by
   obtain ⟨_, o, q, n⟩ := hl.mem z
   rw [he] at q
   cases q
   exact n vs rfl
 refine wpAny_bind (wpAny_frameOf_fun hfr hl hf fun g1 k1 => wpAny_bind (wpAny_entryPlaceOf fun pl hp => ?_))
 unfold EntryCells.newEntry newFields
 refine wpAny_bind (wpAny_newObj_type ?_ (hp.sizeOk5 _ _ _ _ _))
 have e1 : g1.get? e = some { cls := c, dict := od, data := .fields vs, slots := sl } := (k1.2.1 e ne).trans he
 have ln : g1.objs.size ≠ e := fun z => Nat.lt_irrefl _ (z ▸ Heap.lt_size e1)
 have hsz3 : 3 < ([hd, .ref L, .none, rawInt L, .none] ++ (if pl.isEmpty then List.replicate 6 Value.none else pl)).toArray.size := by
   rw [List.size_toArray, List.length_append]; show 3 < 5 + _; omega
 generalize hts : ([hd, .ref L, .none, rawInt L, .none] ++ (if pl.isEmpty then List.replicate 6 Value.none else pl)).toArray = ts at hsz3
 have e2 : (g1.push { cls := .type "traceback", data := .fields ts }).get? e = some { cls := c, dict := od, data := .fields vs, slots := sl } := Heap.get?_push_of_some _ e1
 have t2 : (g1.push { cls := .type "traceback", data := .fields ts }).get? g1.objs.size = some { cls := .type "traceback", dict := none, data := .fields ts, slots := #[] } := Heap.get?_push_size _ rfl
 refine put_field e2 hsz fun g3 e3 k3 => ?_
 have t3 : g3.get? g1.objs.size = some { cls := .type "traceback", dict := none, data := .fields ts, slots := #[] } := k3.extBut _ _ ln t2
 unfold setFlight
 refine wpAny_bind (wpAny_field e3 rfl (x := .ref g1.objs.size) (by simp [hsz]) ?_)
 rw [if_pos (by simp)]
 refine put_field t3 hsz3 fun g4 t4 k4 => h g4 (by rw [← k1.1]; exact ⟨k4.extBut _ _ (fun z => ln z.symm) e3, ln, _, _, t4, rfl, by simp [hsz3]⟩) (fun b o q n1 n2 => ?_) fun b o q n1 n2 => ?_
 · have q1 : g1.get? b = some o := (k1.2.1 b n2).trans q
   exact k4.extBut _ _ (Nat.ne_of_lt (Heap.lt_size q1)) (k3.extBut _ _ n1 (Heap.get?_push_of_some _ q1))
 · obtain ⟨w, q1⟩ := k1.2.2 b o q
   exact ⟨w, k4.extBut _ _ (Nat.ne_of_lt (Heap.lt_size q1)) (k3.extBut _ _ n1 (Heap.get?_push_of_some _ q1))⟩
theorem leave_note {base : Heap} {env : Env} {outer : List Env} {L e : Addr} {c v : Value} {od : Option Addr} {vs : Array Value} {sl : Array (Option Value)} {Q : Unit -> Shared -> Prop}
   (hfr : A.frames = some (env :: outer)) (hl : s.heap.FunFrames base (env :: outer)) (hf : env.frame = some L)
   (he : s.heap.get? e = some { cls := c, dict := od, data := .fields vs, slots := sl }) (hv : vs[1]? = some v) (hh : HeadOk s.heap e v)
   (h : ∀ h', Flew (frs (env :: outer)) e c od vs sl s.heap h' -> Q () { s with heap := h' }) : wpAny M A (noteFrame (.ref e) env) (fun _ s' => wpAny M A (setFlight (.ref e) none) Q E s') E s := by
 have hsz : 1 < vs.size := (Array.getElem?_eq_some_iff.mp hv).1
 unfold noteFrame
 simp only [hf]
 refine wpAny_bind (wpAny_field he rfl hv ?_)
 rcases hh with rfl | ⟨T, oT, ts, rfl, ne, hT, hdT, h3⟩
 · rw [if_neg (by decide)]
   exact entry_put hfr hl hf he hsz fun h' a1 a2 a3 => h h' ⟨a1.1, a1.2.1, a1.2.2, fun b o q n1 n2 _ => a2 b o q n1 n2, fun b o q n1 n2 _ => a3 b o q n1 n2⟩
 · rw [if_pos (by simp)]
   refine wpAny_bind (wpAny_field hT hdT h3 ?_)
   rw [if_neg (show ¬ ((Value.none == rawInt L) = true) by simp [rawInt])]
   obtain ⟨cT, dT, daT, slT⟩ := oT
   dsimp only at hdT
   subst hdT
   refine wpAny_bind (put_field hT (Array.getElem?_eq_some_iff.mp h3).1 fun g1 t1 k1 => ?_)
   have up : ∀ b o, b ≠ T -> s.heap.get? b = some o -> g1.get? b = some o := fun b o z q => k1.extBut _ _ z q
   have nT : ∀ b o, s.heap.get? b = some o -> (∀ vs, o.data ≠ .fields vs) -> b ≠ T := fun b o q n z => by
     rw [z, hT] at q
     cases q
     exact n ts rfl
   refine entry_put hfr (hl.of_keeps fun b o q n => ⟨o, up b o (nT b o q n) q, rfl⟩) hf (up _ _ (fun z => ne z.symm) he) hsz fun h' a1 a2 a3 => ?_
   have es : g1.objs.size = s.heap.objs.size := k1.1
   dsimp only at a1
   rw [es] at a1
   exact h h' ⟨a1.1, a1.2.1, a1.2.2, fun b o q n1 n2 n3 => a2 b o (up b o (fun z => n3 (by rw [hv, z])) q) n1 n2, fun b o q n1 n2 n3 => a3 b o (up b o (fun z => n3 (by rw [hv, z])) q) n1 n2⟩
theorem leave_frame {base : Heap} {env : Env} {outer : List Env} {L e : Addr} {c v : Value} {od : Option Addr} {vs : Array Value} {sl : Array (Option Value)} {Q : Unit -> Shared -> Prop}
   (hfr : A.frames = some (env :: outer)) (hl : s.heap.FunFrames base (env :: outer)) (hf : env.frame = some L)
   (he : s.heap.get? e = some { cls := c, dict := od, data := .fields vs, slots := sl }) (hv : vs[1]? = some v) (hh : HeadOk s.heap e v)
   (h : ∀ h', Flew (frs (env :: outer)) e c od vs sl s.heap h' -> Q () { s with heap := h' }) : wpAny M A (leaving env (.ref e)) Q E s := wpAny_bind (leave_note hfr hl hf he hv hh h)
theorem flight_none {a T : Addr} {o oT : Obj} {vs ts : Array Value} {Q : Unit -> Shared -> Prop} (ho : s.heap.get? a = some o) (hd : o.data = .fields vs) (hv : vs[1]? = some (.ref T)) (hT : s.heap.get? T = some oT) (hdT : oT.data = .fields ts) (h3 : ts[3]? = some .none)
   (h : ∀ h', (∀ b u, s.heap.get? b = some u -> h'.get? b = some u) -> Q () { s with heap := h' }) : wpAny M A (setFlight (.ref a) none) Q E s := by
 unfold setFlight
 refine wpAny_bind (wpAny_field ho hd hv ?_)
 rw [if_pos (by simp)]
 obtain ⟨cT, dT, daT, slT⟩ := oT
 dsimp only at hdT
 subst hdT
 refine put_field hT (Array.getElem?_eq_some_iff.mp h3).1 fun g q1 q2 => h g fun b u q => ?_
 by_cases hb : b = T
 · subst hb
   rw [hT] at q
   cases q
   rw [q1]
   have : ts.setIfInBounds 3 ((none : Option Addr).elim Value.none fun f => rawInt f) = ts := by
     apply Array.ext_getElem?
     intro k
     rw [Array.getElem?_setIfInBounds]
     split
     · rename_i z
       subst z
       split
       · exact h3.symm
       · rename_i z; rw [Array.getElem?_eq_none (by omega)]
     · rfl
   rw [this]
 · exact q2.extBut _ _ hb q
end
structure Fly (h : Heap) (H : Hp) (h0 : Heap) (C a : Addr) : Prop where
 ob : ∃ vs v, h.get? a = some { cls := .ref C, dict := none, data := .fields vs, slots := #[] } /\ vs[1]? = some v /\ HeadOk h a v /\ ∀ T, v = .ref T -> H T = none /\ h0.get? T = none
 free : H a = none
 new : h0.get? a = none
def CXq (P : Program) (w : World) : CXT := fun outer H s E e s' => ∃ C a H', e = .ref a /\ s'.os = s.os /\ AllBare s'.gens /\ Un (frs outer) [] H H' s.heap s'.heap /\ HOk P w H' s'.heap /\ Fly s'.heap H' s.heap C a /\ E (.ref C) none H'
section
variable {P : Program} {w : World} {K : PySem.W.Frag} {mg : Str -> Option Value} {base : Heap} {N : List Str} {qual : Str} {scope : Scope} {f : Addr} {cd : Value} {A : Around} {outer : List Env} {s₀ s : Shared} {H₀ H : Hp} {E : XK} {pins : List (Addr × Obj)} {σ : St} {C a : Addr}
theorem xe_of (I : Inv (cxOf (CXq P w) P w K mg base N qual scope f cd A outer s₀ H₀ E) pins σ H s) (fl : Fly s.heap H s₀.heap C a) (hE : E (.ref C) none H) :
   (cxOf (CXq P w) P w K mg base N qual scope f cd A outer s₀ H₀ E).xe (.ref a) s := by
 obtain ⟨vs, v, ho, hv, hh, hT⟩ := fl.ob
 have hfr := I.ok.frames
 have hst := I.stack
 have hfree := I.stkFree
 show wpAny (model P w) (A.deeper (envOfC qual scope s₀.heap.objs.size f cd)) (leaving (envOfC qual scope s₀.heap.objs.size f cd) (.ref a)) _ _ s
 refine leave_frame (base := base) hfr hst rfl ho hv hh fun h' fw => ?_
 have old : ∀ b o, s₀.heap.get? b = some o -> b ≠ a /\ some (Value.ref b) ≠ vs[1]? /\ b ≠ s₀.heap.objs.size := fun b o q => by
   refine ⟨fun z => ?_, fun z => ?_, fun z => Nat.lt_irrefl _ (z ▸ Heap.lt_size q)⟩
   · rw [z, fl.new] at q; cases q
   · rw [hv] at z
     have := (hT b (Option.some.inj z).symm).2
     rw [this] at q; cases q
 have inF : ∀ b, b ∈ frs (envOfC qual scope s₀.heap.objs.size f cd :: outer) ↔ b = s₀.heap.objs.size ∨ b ∈ frs outer := fun b => by
   show b ∈ List.filterMap (·.frame) (_ :: outer) ↔ _
   rw [List.filterMap_cons]
   show b ∈ s₀.heap.objs.size :: frs outer ↔ _
   exact List.mem_cons
 have U := I.base
 refine ⟨C, a, H, rfl, I.os, I.bare, ⟨fun b o q n hb hx => ?_, fun b o q n hb hx => ?_, fun b o q n hx => U.free b o q n hx, fun b o q hx => ?_, U.tups, U.frzs, U.tbls⟩, fun b o q => ?_, ⟨⟨_, _, fw.obj, by rw [Array.getElem?_setIfInBounds_self_of_lt (Array.getElem?_eq_some_iff.mp hv).1], .inr ?_, fun T z => ?_⟩, fl.free, fl.new⟩, hE⟩
 · obtain ⟨n1, n2, n3⟩ := old b o q
   exact fw.keep b o (U.keep b o q n hb hx) n1 (fun z => ((inF b).mp z).elim n3 hb) n2
 · obtain ⟨n1, n2, n3⟩ := old b o q
   obtain ⟨z, q1⟩ := U.slot b o q n hb hx
   obtain ⟨z', q2⟩ := fw.slot b _ q1 n1 ((inF b).mpr (.inr hb)) n2
   exact ⟨z', q2⟩
 · obtain ⟨n1, n2, n3⟩ := old b o q
   obtain ⟨o1, q1⟩ := U.there b o q hx
   by_cases hb : b ∈ frs (envOfC qual scope s₀.heap.objs.size f cd :: outer)
   · obtain ⟨z, q2⟩ := fw.slot b o1 q1 n1 hb n2
     exact ⟨_, q2⟩
   · exact ⟨o1, fw.keep b o1 q1 n1 hb n2⟩
 · refine (I.hok b o q).stay (fun b' u hb' q' => ?_) (fun _ z => z) (fun _ _ z => z)
   have tr : H b' ≠ none := by
     rcases hb' with z | z
     · rw [z, q]; exact fun y => nomatch y
     · rw [z]; exact fun y => nomatch y
   refine fw.keep b' u q' (fun z => tr (by rw [z]; exact fl.free)) (fun z => tr (hfree b' z)) fun z => ?_
   rw [hv] at z
   exact tr (hT b' (Option.some.inj z).symm).1
 · obtain ⟨oT, ts, h1, h2, h3⟩ := fw.head
   exact ⟨_, oT, ts, rfl, fw.ne, h1, h2, h3⟩
 · cases z
   refine ⟨I.fresh, ?_⟩
   cases y : s₀.heap.get? s.heap.objs.size with
   | none => rfl
   | some o => exact absurd (Heap.lt_size y) (Nat.not_lt.mpr I.sz)
theorem passQ {E' : XK} (h : ∀ (C : Addr) (H : Hp), E' (.ref C) none H -> E (.ref C) none H) : Passes (CXq P w) (cxOf (CXq P w) P w K mg base N qual scope f cd A outer s₀ H₀ E) E' := by
 intro pins σ H s e s' I hx
 obtain ⟨C, a, H', rfl, os, bare, un, hok, fl, he⟩ := hx
 have I' : Inv (cxOf (CXq P w) P w K mg base N qual scope f cd A outer s₀ H₀ E) pins σ H' s' := I.call' (ch := []) os un hok bare (fun b z => absurd z (by simp))
 obtain ⟨vs, v, ho, hv, hh, hT⟩ := fl.ob
 have back : ∀ b, s.heap.get? b = none -> s₀.heap.get? b = none := fun b z => by
   cases y : s₀.heap.get? b with
   | none => rfl
   | some o =>
     obtain ⟨o', q⟩ := I.base.there b o y (fun z => nomatch (show b ∈ ([] : List Addr) from z))
     rw [z] at q; cases q
 exact xe_of I' ⟨⟨vs, v, ho, hv, hh, fun T z => ⟨(hT T z).1, back T (hT T z).2⟩⟩, fl.free, back a fl.new⟩ (h C H' he)
end
def Throws (X : Cx) (E : XK) : Prop := ∀ (pins : List (Addr × Obj)) (σ : St) (H : Hp) (s : Shared) (C a : Addr), Inv X pins σ H s -> Fly s.heap H X.s₀.heap C a -> E (.ref C) none H -> X.xe (.ref a) s
section
variable {X : Cx} {E : XK} {C : Addr} {c : Str} {p cpos pos : Pos} {e : Expr} {es : List Expr} {t : TA}
theorem new_exc (M : XCls X.K C) {pins : List (Addr × Obj)} {σ : St} {H : Hp} {s : Shared} {us : List Value} {Q : Value -> Shared -> Prop} (I : Inv X pins σ H s) (hl : us.length <= 1000)
   (h : ∀ h' a t, Inv X pins σ H { s with heap := h' } -> s.heap.get? a = none -> h'.get? a = some { cls := .ref C, data := .fields #[.ref t, .none, .none, .none, .bool false, .none] } -> Q (.ref a) { s with heap := h' }) :
   wpAny (model X.prog X.w) X.A (call (.ref C) us) Q X.xe s := by
 obtain ⟨bm, N, nm, qn, bs, hdct, sn, sub, ab, col, dd, k0, k1, k2, k3, k5, hk, x1, x2, x3⟩ := M
 have hsl : 1001 <= sizeLine := Nat.le_of_lt (lim_ok (by decide))
 obtain ⟨hp, g, d, tk, os⟩ := s
 refine wpAny_call_exc_subU (Bn := "ValueError") F.excBase_ValueError (by decide) F.excBase_ValueError (PySem.W.tail_of_in I.kIn x3) (I.kIn _ _ hk) (.of_isNs (PySem.W.isNs_of_in I.kIn x1)) (PySem.W.nsMap_none_of_in I.kIn x1 x2) (fun h' a m => ?_) (by omega)
 obtain ⟨t, et, _, _⟩ := m.there
 exact h h' a t (I.kept (t' := tk) m.keeps) m.new et
def tRaise (C : Addr) (E : XK) (t : TA) : TS := fun _ σ H => t σ H fun vs H1 => vs.length <= 1000 /\ E (.ref C) none H1
theorem ps_raise (M : XCls X.K C) (hx : X.ex = []) (hm : X.mg c = some (.ref C)) (kp : PySem.W.keepIn X.K (.ref C) = true) (hg : Gl X c) (hc : X.calm = true) (th : Throws X E) (ha : PA X (e :: es) t) (hdb : (c == ("__debug__" : Str)) = false := by decide)
   (he : starEach (e :: es) X.env = (false, eval e X.env) :: starEach es X.env := by rfl) (hpl : (backTo cpos (starEach es X.env)).any (·.1) = false := by rfl) : PS X (.Raise (some (.Call (.Name c p) (e :: es) [] cpos)) none pos) (tRaise C E t) := by
 intro pins s σ H D I h
 obtain ⟨bm, N, nm, qn, bs, hdct, sn, sub, ab, col, dd, k0, k1, k2, k3, k5, hk, x1, x2, x3⟩ := id M
 rw [arm_exec_Raise]
 refine wpAny_bind (wpAny_standAt (wpAny_raiseStmt_made_sub (C := C) (nm := nm) (q := qn) (N := N) (bs := bs) (bm := bm) (hdct := hdct) (sn := sn) (sub := sub) (ab := ab) (col := col) (dd := dd) (k0 := k0) (k1 := k1) (k2 := k2) (k3 := k3) (k5 := k5) (newId := "ValueError.__new__") ((PySem.W.tail_of_in I.kIn x3).hasType (by decide)) (I.ok.hd hc) ?_))
 refine wpAny_bind (thn ?_ fun v s1 q => wpAny_bind (wpAny_standAt (wpAny_pure q)))
 refine wpAny_Call_Name_kw (ld_glob I hg hm ?_ hdb)
 refine PySem.W.callWith_K (h₀ := X.base) I.ok.mod.kin kp (thn (ha cpos pins s σ H _ I h) fun us s1 ⟨vs, H1, I1, r, q1, q2⟩ => ⟨I1.kIn, ?_⟩) he hpl
 refine new_exc M I1 (by rw [List.nil_append, ← r.length]; exact q1) fun h' a t I2 new ob => ⟨a, t, rfl, I2.kIn _ _ hk, ob, th pins σ H1 _ C a I2 ⟨⟨_, _, ob, rfl, .inl rfl, fun T z => nomatch z⟩, ?_, ?_⟩ q2⟩
 · cases z : H1 a with
   | none => rfl
   | some o => obtain ⟨u, y⟩ := (I1.hok a o z).got; rw [new] at y; cases y
 · cases z : X.s₀.heap.get? a with
   | none => rfl
   | some o =>
     obtain ⟨u, y⟩ := I1.base.there a o z (by rw [hx]; simp)
     rw [new] at y; cases y
end
end L2
namespace L2
open PySem PySem.Spec PyProof.Rows
theorem find_erase {α : Type} (p : α -> Bool) : ∀ (l : List α) (i : Nat), (∀ x, l[i]? = some x -> p x = false) -> (l.eraseIdx i).find? p = l.find? p
 | [], _, _ => rfl
 | x :: r, 0, h => by
   have q := h x rfl
   rw [List.eraseIdx_cons_zero, List.find?_cons, q]
 | x :: r, i + 1, h => by
   rw [List.eraseIdx_cons_succ, List.find?_cons, List.find?_cons, find_erase p r i fun y e => h y (by simpa using e)]
theorem isStr_ne {k : Value} {x y : Str} (h : k.isStr x = true) (ne : y ≠ x) : k.isStr y = false := by
 cases k <;> simp_all [Value.isStr]
 rename_i z t
 intro q
 exact ne q.symm
section
variable {M : Model} {A : Around} {E : Value -> Shared -> Prop} {s : Shared}
theorem ns_del {a : Addr} {m : Str -> Option Value} {n : Str} {Q : Bool -> Shared -> Prop} (hn : s.heap.Ns a m)
   (hQ : ∀ h' m', h'.Ns a m' -> (∀ x, x ≠ n -> m' x = m x) -> Heap.SameBut a s.heap h' -> Q (m n).isSome { s with heap := h' }) : wpAny M A (nsDel a n) Q E s := by
 obtain ⟨⟨c, d, dt, sl⟩, es, ep, ho, hd, hk, hm⟩ := id hn
 dsimp only at hd
 subst hd
 have noref : es.any (·.refKey) = false := Array.any_eq_false'.mpr fun e he => by
   obtain ⟨w, t, q⟩ := hk e he
   simp [DictEntry.refKey, q]
 have hh : nsHas n ⟨c, d, .dict es ep, sl⟩ = pure (es.any (·.key.isStr n)) := by
   rw [nsHas_eq]
   unfold nsHasByArray
   show (if (es.any fun x => x.key.isStr n) = true then _ else _) = _
   cases es.any fun x => x.key.isStr n <;> simp [noref]
 have hs : (m n).isSome = es.any (·.key.isStr n) := by
   rw [← hm n]
   unfold nsFind findBy
   rw [Option.isSome_map, Bool.eq_iff_iff, Array.find?_isSome, Array.any_eq_true']
 unfold nsDel
 refine wpAny_bind (wpAny_loadPart ho ?_)
 rw [hh]
 refine wpAny_bind (wpAny_pure ?_)
 rw [← hs]
 cases hb : (m n).isSome with
 | false =>
   have := hQ s.heap m hn (fun _ _ => rfl) (.refl ..)
   rw [hb] at this
   exact wpAny_pure this
 | true =>
   refine wpAny_bind (wpAny_updatePart ho (wpAny_pure ?_))
   rw [hb] at hs
   obtain ⟨k, hk1, hk2⟩ := Array.any_eq_true'.mp hs.symm
   cases hi : es.findIdx? (·.key.isStr n) with
   | none =>
     have := Array.findIdx?_eq_none_iff.mp hi k hk1
     rw [this] at hk2; cases hk2
   | some i =>
     have hd' : Obj.dropName n ⟨c, d, .dict es ep, sl⟩ = ⟨c, d, .dict (es.eraseIdxIfInBounds i) (ep + 1), sl⟩ := by
       rw [Obj.dropName_eq]; unfold Obj.dropNameByArray; dsimp only; rw [hi]
     have hg := Heap.get?_update_self (Obj.dropName n) ho (by rw [hd']; rfl)
     rw [hd'] at hg
     have := hQ _ (nsFind (es.eraseIdxIfInBounds i)) ⟨_, _, _, hg, rfl, hk.erase i, fun _ => rfl⟩ (fun x ne => ?_) (Heap.SameBut.update ..)
     · rw [hb] at this; exact this
     · rw [← hm x]
       unfold nsFind findBy
       congr 1
       have hi2 := Array.findIdx?_eq_some_iff_getElem.mp hi
       obtain ⟨hlt, hp, _⟩ := hi2
       rw [← Array.find?_toList, ← Array.find?_toList, show (es.eraseIdxIfInBounds i).toList = es.toList.eraseIdx i by simp [Array.eraseIdxIfInBounds, hlt]]
       refine find_erase _ _ _ fun y e => isStr_ne (x := n) ?_ ne
       rw [List.getElem?_eq_getElem (by simpa using hlt)] at e
       cases e
       simpa using hp
end
section
variable {X : Cx} {pins : List (Addr × Obj)} {σ : St} {H : Hp} {s : Shared}
theorem Inv.gone {i : Nat} {n : Str} {h' : Heap} {m m' : Str -> Option Value} {t' : Nat} (I : Inv X pins σ H s) (hN : X.N.Nodup) (hi : X.N[i]? = some n) (hm : s.heap.Ns X.env.locals m) (hm' : h'.Ns X.env.locals m') (e : ∀ x, x ≠ n -> m' x = m x) (sb : Heap.SameBut X.env.locals s.heap h') :
   Inv X pins (σ.set i none) H { s with heap := h', toks := t' } := by
 have keep : ∀ b o, b ≠ X.env.locals -> s.heap.get? b = some o -> h'.get? b = some o := fun b o ne q => sb.extBut _ _ ne q
 have neL : ∀ b o, X.s₀.heap.get? b = some o -> b ≠ X.env.locals := fun b o q => Nat.ne_of_lt (Nat.lt_of_lt_of_le (Heap.lt_size q) I.ok.above)
 obtain ⟨m0, hn0, hl⟩ := I.loc
 have em : ∀ x, m0 x = m x := fun x => by
   obtain ⟨o, es, ep, q1, q2, _, q3⟩ := hn0
   obtain ⟨o', es', ep', r1, r2, _, r3⟩ := hm
   rw [q1] at r1; cases r1
   rw [q2] at r2; cases r2
   rw [← q3, ← r3]
 refine ⟨I.ok, I.os, I.bare, ⟨fun b o q n hb hx => keep b o (neL b o q) (I.base.keep b o q n hb hx), fun b o q n hb hx => ?_, I.base.free, fun b o q hx => ?_, I.base.tups, I.base.frzs, I.base.tbls⟩, ⟨m', hm', fun j x v hj hσ hv => ?_⟩, fun x c q => ?_, I.free, I.freeC, fun p hp => ?_, fun b o q => ?_, ?_⟩
 · obtain ⟨z, y⟩ := I.base.slot b o q n hb hx
   exact ⟨z, keep b _ (neL b o q) y⟩
 · obtain ⟨z, y⟩ := I.base.there b o q hx
   exact ⟨z, keep b _ (neL b o q) y⟩
 · have ji : j ≠ i := fun z => by
     subst z
     by_cases hl' : j < σ.length
     · rw [List.getElem?_set_self hl'] at hσ; cases hσ
     · rw [List.getElem?_eq_none (by rw [List.length_set]; omega)] at hσ; cases hσ
   rw [List.getElem?_set_ne (Ne.symm ji)] at hσ
   obtain ⟨u, r, lk⟩ := hl j x v hj hσ hv
   have xn : x ≠ n := fun z => ji (by
     subst z
     exact (List.getElem?_inj (List.getElem?_eq_some_iff.mp hj).1 hN).mp (hj.trans hi.symm))
   refine ⟨u, r, ?_⟩
   rcases lk with ⟨k1, k2⟩ | ⟨k1, c, k2, ob, k3, k4⟩
   · exact .inl ⟨k1, by rw [e x xn, ← em]; exact k2⟩
   · exact .inr ⟨k1, c, k2, ob, keep c ob (I.cne x c k2) k3, k4⟩
 · obtain ⟨v, ob, k1, k2⟩ := I.cell x c q
   exact ⟨v, ob, keep c ob (I.cne x c q) k1, k2⟩
 · obtain ⟨p1, p2, p3, p4⟩ := I.pin p hp
   exact ⟨keep _ _ p3 p1, p2, p3, p4⟩
 · refine (I.hok b o q).stay (fun b' u hb' q' => keep b' u (fun z => ?_) q') (fun _ z => z) (fun _ _ z => z)
   have fr := I.free
   rcases hb' with y | y
   · rw [← z, y, q] at fr; cases fr
   · rw [← z, y] at fr; cases fr
 · rw [List.length_set]; exact I.len
theorem name_goes {M : Model} {A : Around} {E : Value -> Shared -> Prop} {i : Nat} {n : Str} {pos : Pos} {Q : Unit -> Shared -> Prop} (I : Inv X pins σ H s) (hN : X.N.Nodup) (hi : X.N[i]? = some n) (hk : X.env.kindOf n = some .local) (hx : Loc X.env.scope n)
   (h : ∀ s', Inv X pins (σ.set i none) H s' -> Q () s') (hf : X.fn n = true ∨ X.env.scope.names.lookup n = some .local) : wpAny M A (do bindName X.env n .none; unbindBehindTheSuite X.env n pos) Q E s := by
 refine wpAny_bind (wpAny_bindName (store_ok2 (v := .non) I hN hi hx rfl (fun s1 I1 _ => ?_) hf))
 have hp : (X.env.scope.kind == .class || (X.env.scope.kind == .module && X.env.locals != X.env.globals)) = false := by rw [I.ok.kind]; rfl
 obtain ⟨m1, hn1, hl1⟩ := I1.loc
 unfold unbindBehindTheSuite
 refine wpAny_onRaise ?_
 unfold unbindName
 refine wpAny_bind (wpAny_point (wpAny_bind ?_))
 unfold deleteName
 simp only [hk, hp]
 rw [if_neg (by decide)]
 have hii : i < σ.length := by rw [I.len]; exact (List.getElem?_eq_some_iff.mp hi).1
 obtain ⟨u, _, lk⟩ := hl1 i n .non hi (List.getElem?_set_self hii) (.inl (show X.env.scope.names.lookup n = some .local from hk))
 have hs : (m1 n).isSome = true := by
   rcases lk with ⟨_, k2⟩ | ⟨k1, _⟩
   · rw [k2]; rfl
   · rw [hk] at k1; rcases k1 with z | z <;> cases z
 refine wpAny_bind (ns_del hn1 fun h2 m2 q1 q2 q3 => ?_)
 rw [hs]
 rw [if_neg (by decide)]
 refine wpAny_pure (wpAny_point ?_)
 have J := I1.gone (t' := s1.toks) hN hi hn1 q1 q2 q3
 rw [List.set_set] at J
 exact h _ J
theorem Inv.caught {H2 H' : Hp} {s2 s' : Shared} {g : Heap} {C a : Addr} {t' : Nat} (I2 : Inv X pins σ H2 s2) (os : s'.os = s2.os) (bare : AllBare s'.gens) (un : Un (frs X.stack) [] H2 H' s2.heap s'.heap) (hok : HOk X.prog X.w H' s'.heap) (fa : H' a = none) (na : s2.heap.get? a = none)
   (k1 : ∀ b o, s'.heap.get? b = some o -> (H' b ≠ none ∨ ∃ o', s2.heap.get? b = some o') -> b ∉ frs X.stack -> g.get? b = some o) (k2 : ∀ b o, s'.heap.get? b = some o -> (∃ o', s2.heap.get? b = some o') -> b ∈ frs X.stack -> ∃ z, g.get? b = some { o with slots := z })
   (oa : ∃ fs, g.get? a = some { cls := .ref C, dict := none, data := .fields fs }) : Inv X pins σ (upd H' a (.ext (Xe C a none))) { s' with heap := g, toks := t' } := by
 have I' : Inv X pins σ H' s' := I2.call' (ch := []) os un hok bare (fun b z => nomatch z)
 have nea : ∀ b o, s2.heap.get? b = some o -> b ≠ a := fun b o q z => by rw [z, na] at q; cases q
 refine I2.call' (s' := { s' with heap := g, toks := t' }) (ch := []) os ⟨fun b o q n hb hx => k1 b o (un.keep b o q n hb hx) (.inr ⟨o, q⟩) hb, fun b o q n hb hx => ?_, fun b o q n hx => ?_, fun b o q hx => ?_, fun b xs q => ?_, fun b o u q => ?_, fun b ps q => ?_⟩ (fun b o q => ?_) bare (fun b z => nomatch z)
 · obtain ⟨z, y⟩ := un.slot b o q n hb hx
   obtain ⟨z', y'⟩ := k2 b _ y ⟨o, q⟩ hb
   exact ⟨z', y'⟩
 · rw [upd_ne (nea b o q)]; exact un.free b o q n hx
 · obtain ⟨o1, y⟩ := un.there b o q hx
   by_cases hb : b ∈ frs X.stack
   · obtain ⟨z, y'⟩ := k2 b o1 y ⟨o, q⟩ hb
     exact ⟨_, y'⟩
   · exact ⟨o1, k1 b o1 y (.inr ⟨o, q⟩) hb⟩
 · have y := un.tups b xs q
   rw [upd_ne (ne_of_none y fa)]; exact y
 · have y := un.frzs b o u q
   rw [upd_ne (ne_of_none y fa)]; exact y
 · obtain ⟨more, y⟩ := un.tbls b ps q
   exact ⟨more, by rw [upd_ne (ne_of_none y fa)]; exact y⟩
 · by_cases hb : b = a
   · subst hb
     rw [upd_same] at q
     cases q
     exact ⟨oa, (let ⟨_, e⟩ := oa; ⟨_, e⟩), fun h1 h2 ⟨fs, e⟩ k => ⟨fs, k _ e⟩⟩
   · rw [upd_ne hb] at q
     have fr := I'.stkFree
     refine (hok b o q).stay (fun b' u hb' q' => ?_) (fun b' z => by rw [upd_ne (ne_of_none z fa)]; exact z) (fun b' xs z => by rw [upd_ne (ne_of_none z fa)]; exact z)
     have tr : H' b' ≠ none := by
       rcases hb' with z | z
       · rw [z, q]; exact fun y => nomatch y
       · rw [z]; exact fun y => nomatch y
     exact k1 b' u q' (.inl tr) fun z => tr (fr b' z)
end
abbrev Cx.marked (X : Cx) (a : Addr) (R : Value -> Shared -> Prop) : Cx := { X with A := X.A.mark (some (.ref a)), calm := false, xe := R }
theorem Cx.Ok.marked {X : Cx} (ok : X.Ok) (a : Addr) (R : Value -> Shared -> Prop) : (X.marked a R).Ok :=
 ⟨ok.mod, ok.kind, ok.glob, ok.blt, ok.above, ok.inj, ok.has, ok.cab, (fun z => by cases z), ok.frames, ok.stk, ok.exf, ok.bs, ok.bsz, ok.noex, ok.exfs, ok.funs, ok.frf⟩
theorem Inv.marked {X : Cx} {pins : List (Addr × Obj)} {σ : St} {H : Hp} {s : Shared} (I : Inv X pins σ H s) (a : Addr) (R : Value -> Shared -> Prop) : Inv (X.marked a R) pins σ H s := ⟨I.ok.marked a R, I.os, I.bare, I.base, I.loc, I.cell, I.free, I.freeC, I.pin, I.hok, I.len⟩
theorem Inv.unmarked {X : Cx} {pins : List (Addr × Obj)} {σ : St} {H : Hp} {s : Shared} {a : Addr} {R : Value -> Shared -> Prop} (ok : X.Ok) (I : Inv (X.marked a R) pins σ H s) : Inv X pins σ H s := ⟨ok, I.os, I.bare, I.base, I.loc, I.cell, I.free, I.freeC, I.pin, I.hok, I.len⟩
section
variable {X : Cx} {pins : List (Addr × Obj)} {σ : St}
theorem catch_as {H2 H' : Hp} {s2 s' : Shared} {C a Y : Addr} {D : Ends} {i : Nat} {n y : Str} {yp hp : Pos} {b₀ : Stmt} {suite : List Stmt} {t : TS} (I2 : Inv X pins σ H2 s2) (os : s'.os = s2.os) (bare : AllBare s'.gens) (un : Un (frs X.stack) [] H2 H' s2.heap s'.heap) (hok : HOk X.prog X.w H' s'.heap)
   (fl : Fly s'.heap H' s2.heap C a) (hst : X.stack = X.env :: X.outer) (hef : X.env.frame = some X.env.locals) (hg : Gl X y) (hm : X.mg y = some (.ref Y)) (hdb : (y == ("__debug__" : Str)) = false) (hx : PySem.W.exmOne X.K (.ref C) (.ref Y) = some true)
   (hN : X.N.Nodup) (hi : X.N[i]? = some n) (hk : X.env.kindOf n = some .local) (hl : Loc X.env.scope n) (hf : X.fn n = true ∨ X.env.scope.names.lookup n = some .local)
   (hs : PSs (X.marked a fun _ _ => False) (b₀ :: suite) t) (ht : t { nx := fun σ' H'' => D.nx (σ'.set i none) H'', rt := fun _ _ => False } (σ.set i (some (.ref a))) (upd H' a (.ext (Xe C a none)))) :
   wpAny (model X.prog X.w) X.A (noteFrame (.ref a) X.env) (fun _ s3 => wpAny (model X.prog X.w) X.A (setFlight (.ref a) none) (fun _ s4 => wpAny (model X.prog X.w) X.A (handleBy (.ref a) X.env [.ExceptHandler (some (.Name y yp)) (some n) (b₀ :: suite) hp]) (SP X pins D) X.xe s4) X.xe s3) X.xe s' := by
 have I' : Inv X pins σ H' s' := I2.call' (ch := []) os un hok bare (fun b z => nomatch z)
 obtain ⟨vs, v, ho, hv, hh, hT⟩ := fl.ob
 have hfr : X.A.frames = some (X.env :: X.outer) := by rw [← hst]; exact I2.ok.frames
 have hfun : s'.heap.FunFrames X.base (X.env :: X.outer) := by rw [← hst]; exact I'.stack
 refine leave_note (base := X.base) hfr hfun hef ho hv hh fun h3 fw => ?_
 rw [← hst] at fw
 have old : ∀ b o', s2.heap.get? b = some o' -> b ≠ a /\ some (Value.ref b) ≠ vs[1]? := fun b o' q => by
   refine ⟨fun z => ?_, fun z => ?_⟩
   · rw [z, fl.new] at q; cases q
   · rw [hv] at z
     have := (hT b (Option.some.inj z).symm).2
     rw [this] at q; cases q
 have J : ∀ tk, Inv X pins σ (upd H' a (.ext (Xe C a none))) { s' with heap := h3, toks := tk } := fun tk => I2.caught os bare un hok fl.free fl.new (fun b o q hb hn => by
     rcases hb with z | ⟨o', z⟩
     · refine fw.keep b o q (fun e => z (by rw [e]; exact fl.free)) hn fun e => z ?_
       rw [hv] at e
       exact (hT b (Option.some.inj e).symm).1
     · exact fw.keep b o q (old b o' z).1 hn (old b o' z).2) (fun b o q ⟨o', z⟩ hb => fw.slot b o q (old b o' z).1 hb (old b o' z).2) ⟨_, fw.obj⟩
 have J := J s'.toks
 have hsz : 1 < vs.size := (Array.getElem?_eq_some_iff.mp hv).1
 obtain ⟨oT, ts, hT1, hT2, hT3⟩ := fw.head
 have cls : PySem.W.Looks (model X.prog X.w) h3 (typeOf (.ref a)) (.ref C) := (PySem.W.Looks.ld fw.obj).andThen .now
 refine wpAny_handleBy_cons (codeAny_handlers_test ?_) (by intro q; cases q)
 refine ld_glob (X := X.marked a fun _ _ => False) (J.marked a _) hg hm ?_ hdb
 have kx : X.K.In h3 := J.kIn
 refine (PySem.W.exm_one kx cls hx) (X.A.mark (some (.ref a))) _ _ _ (fun _ _ q => q) ?_
 show codeAny _ _ _ _ _
 refine codeAny_handlers_suite_as ?_
 refine flight_none fw.obj rfl (by rw [Array.getElem?_setIfInBounds_self_of_lt hsz]) hT1 hT2 hT3 fun h4 k4 => ?_
 have J4 : Inv X pins σ (upd H' a (.ext (Xe C a none))) { s' with heap := h4 } := J.kept (t' := s'.toks) k4
 refine store_ok J4 hN hi hl (v := .ref a) rfl (fun s6 I6 => ?_) hf
 refine wpAny_mono (hs pins s6 _ _ _ (I6.marked a _) ht) (fun f s7 h7 => ?_) fun _ _ z => z.elim
 cases f with
 | next =>
   obtain ⟨σ', H'', I7, q7⟩ := h7
   exact name_goes (I7.unmarked I2.ok) hN hi hk hl (fun s8 I8 => ⟨_, H'', I8, q7⟩) hf
 | brk => obtain ⟨_, _, _, z⟩ := h7; exact False.elim z
 | cont => obtain ⟨_, _, _, z⟩ := h7; exact False.elim z
 | ret u => obtain ⟨_, _, _, _, _, z⟩ := h7; exact False.elim z
end
end L2
namespace L2
open PySem PySem.Spec PyProof.Rows
def spQ (K : PySem.W.Frag) (n : Nat) (d : List D -> Option D) (x : List D -> Option Str) : Sp := fun vs H Q E => ∃ G ds, Same G H /\ Reps K G ds vs /\ ds.length = n /\
 ((∃ r, d ds = some r /\ ∀ v H' G', Step G H G' H' -> Rep K G' r v -> Q v H') ∨ ∃ c C, x ds = some c /\ ClsAt K c C /\ ∀ H' G', Step G H G' H' -> E (.ref C) none H')
def tXS (K : PySem.W.Frag) (E : XK) (x : List B -> Option Str) : TS := fun _ σ H => ∃ G0 H0 G ρ c C, Good K G0 H0 G H σ ρ /\ x ρ = some c /\ ClsAt K c C /\ ∀ H' G', Step G H G' H' -> E (.ref C) none H'
def PXS (X : Cx) (E : XK) (st : Stmt) (x : List B -> Option Str) : Prop := PS X st (tXS X.K E x)
def PXSs (X : Cx) (E : XK) (sts : List Stmt) (x : List B -> Option Str) : Prop := PSs X sts (tXS X.K E x)
def tXE (K : PySem.W.Frag) (E : XK) (x : List B -> Option Str) : TE := fun σ H _ => ∃ G0 H0 G ρ c C, Good K G0 H0 G H σ ρ /\ x ρ = some c /\ ClsAt K c C /\ ∀ H' G', Step G H G' H' -> E (.ref C) none H'
def PXE (X : Cx) (E : XK) (e : Expr) (x : List B -> Option Str) : Prop := PE X e (tXE X.K E x)
def tAny (K : PySem.W.Frag) (p : List B -> Bool) : TA := fun σ H Q => ∃ G0 H0 G ρ, Good K G0 H0 G H σ ρ /\ p ρ = true /\ ∀ vs H' G', Step G H G' H' -> vs.length <= 1000 -> Q vs H'
def PAny (X : Cx) (es : List Expr) (p : List B -> Bool) : Prop := PA X es (tAny X.K p)
section
variable {X : Cx} {E : XK} {a b e : Expr} {es : List Expr} {ga : Lf} {tt : Tf} {f : Sf} {x xa xb : List B -> Option Str} {pos p cpos : Pos} {st : Stmt} {sts rest : List Stmt}
theorem px_raise {C : Addr} {c : Str} {q : List B -> Bool} (hC : ClsAt X.K c C) (M : XCls X.K C) (hx : X.ex = []) (hm : X.mg c = some (.ref C)) (kp : PySem.W.keepIn X.K (.ref C) = true) (hg : Gl X c) (hc : X.calm = true) (th : Throws X E) (ha : PAny X (e :: es) q) (hdb : (c == ("__debug__" : Str)) = false := by decide)
   (he : starEach (e :: es) X.env = (false, eval e X.env) :: starEach es X.env := by rfl) (hpl : (backTo cpos (starEach es X.env)).any (·.1) = false := by rfl) : PXS X E (.Raise (some (.Call (.Name c p) (e :: es) [] cpos)) none pos) (fun ρ => if q ρ then some c else none) := by
 intro pins s σ H D I h
 obtain ⟨G0, H0, G, ρ, c', C', good, hq, hC', k⟩ := h
 dsimp only at hq
 split at hq
 · rename_i hq'
   cases hq
   have ec := hC.one hC'
   subst ec
   exact ps_raise M hx hm kp hg hc th ha hdb he hpl pins s σ H D I ⟨G0, H0, G, ρ, good, hq', fun vs H' G' st hl => ⟨hl, k H' G' st⟩⟩
 · cases hq
theorem px_if (ht : PFT X a tt) (h1 : PXSs X E sts xa) (h2 : PXSs X E rest xb) : PXS X E (.If a sts rest pos) (fun ρ => (tt ρ).bind fun c => if c = true then xa ρ else xb ρ) := by
 intro pins s σ H D I h
 obtain ⟨G0, H0, G, ρ, c, C, good, hq, hC, k⟩ := h
 obtain ⟨v, hv, hq⟩ := Option.bind_eq_some_iff.mp hq
 refine ps_if ht h1 h2 pins s σ H D I ⟨G0, H0, G, ρ, v, good, hv, fun H1 G1 st => ?_⟩
 cases v with
 | true =>
   rw [if_pos rfl] at hq
   exact ⟨G0, H0, G1, ρ, c, C, good.step st, hq, hC, fun H' G' st' => k H' G' (st.trans st')⟩
 | false =>
   rw [if_neg (by decide)] at hq
   exact ⟨G0, H0, G1, ρ, c, C, good.step st, hq, hC, fun H' G' st' => k H' G' (st.trans st')⟩
theorem px_nil : PXSs X E [] (fun _ => none) := fun pins s σ H D I h => by
 obtain ⟨_, _, _, _, _, _, _, z, _⟩ := h; cases z
theorem px_head (h : PXS X E st x) : PXSs X E (st :: rest) x := by
 intro pins s σ H D I q
 refine pss_cons (u := fun _ _ _ => False) h (fun pins s σ H D I z => z.elim) pins s σ H D I ?_
 exact q
theorem px_expr (h : PXE X E e x) (hs : swapsWith e none pos.line X.env = pure false := by rfl) : PXS X E (.Expr e pos) x := fun pins s σ H D I q => ps_expr h hs pins s σ H D I q
theorem px_call {k n : Nat} {fad : Addr} {fd : FuncData} {ps : List Str} {y : Str} {d : List D -> Option D} {xf : List D -> Option Str} (F : FnOk X.prog X.w X.K X.mg X.base (CXq X.prog X.w) k fad fd ps (spQ X.K n d xf)) (hp : Passes (CXq X.prog X.w) X E) (hr : Room k X.A) (hm : X.mg y = some (.ref fad)) (hk : PySem.W.keepIn X.K (.ref fad) = true) (hb : Binds X.K fd ps []) (hg : Gl X y)
   (ha : PFA X (e :: es) ga) (hdb : (y == ("__debug__" : Str)) = false := by decide) (he : starEach (e :: es) X.env = (false, eval e X.env) :: starEach es X.env := by rfl) (hpl : (backTo pos (starEach es X.env)).any (·.1) = false := by rfl) :
   PXE X E (.Call (.Name y p) (e :: es) [] pos) (fun ρ => (ga ρ).bind fun ds => if ds.length = n then xf ds else none) := by
 intro pins s σ H Q I h
 obtain ⟨G0, H0, G, ρ, c, C, good, hq, hC, k⟩ := h
 obtain ⟨ds, h1, hq⟩ := Option.bind_eq_some_iff.mp hq
 split at hq
 · rename_i hl
   refine pe_call (E := E) F hr hg hm hk hb .nil hp ha hdb he hpl pins s σ H Q I ⟨G0, H0, G, ρ, _, good, h1, fun vs H1 G1 s1 r1 => ?_⟩
   show spQ X.K n d xf (vs ++ []) H1 Q E
   rw [List.append_nil]
   exact ⟨G1, ds, s1.sub, r1, hl, .inr ⟨c, C, hq, hC, fun H' G' st => k H' G' (s1.trans st)⟩⟩
 · cases hq
theorem px_arg {k : Nat} {fad : Addr} {fd : FuncData} {ps : List Str} {y : Str} {sp : Sp} {CX : CXT} (F : FnOk X.prog X.w X.K X.mg X.base CX k fad fd ps sp) (hp : Passes CX X E0) (hr : Room k X.A) (hm : X.mg y = some (.ref fad)) (hk : PySem.W.keepIn X.K (.ref fad) = true) (hb : Binds X.K fd ps []) (hg : Gl X y)
   (ha : PXE X E e x) (hdb : (y == ("__debug__" : Str)) = false := by decide) (he : starEach [e] X.env = [(false, eval e X.env)] := by rfl) : PXE X E (.Call (.Name y p) [e] [] pos) x := by
 intro pins s σ H Q I h
 refine pe_call (E := E0) F hr hg hm hk hb .nil hp (pa_cons ha pa_nil (by rw [he]; rfl)) hdb (by rw [he]; rfl) (by rfl) pins s σ H Q I h
theorem pf_callQ {k n : Nat} {fad : Addr} {fd : FuncData} {ps : List Str} {y : Str} {d : List D -> Option D} {xf : List D -> Option Str} (F : FnOk X.prog X.w X.K X.mg X.base (CXq X.prog X.w) k fad fd ps (spQ X.K n d xf)) (hr : Room k X.A) (hm : X.mg y = some (.ref fad)) (hk : PySem.W.keepIn X.K (.ref fad) = true) (hb : Binds X.K fd ps []) (hg : Gl X y)
   (ha : PFA X (e :: es) ga) (hdb : (y == ("__debug__" : Str)) = false := by decide) (he : starEach (e :: es) X.env = (false, eval e X.env) :: starEach es X.env := by rfl) (hpl : (backTo pos (starEach es X.env)).any (·.1) = false := by rfl) :
   PF X (.Call (.Name y p) (e :: es) [] pos) (eCall n d ga) := by
 refine PE.to (pe_call (E := E0) F hr hg hm hk hb .nil (fun pins σ H s e s' I h => by obtain ⟨_, _, _, _, _, _, _, _, _, z⟩ := h; exact z.elim) ha hdb he hpl) ?_
 rintro σ H Q ⟨G0, H0, G, ρ, r, good, hf, k⟩
 unfold eCall at hf
 obtain ⟨ds, h1, hf⟩ := Option.bind_eq_some_iff.mp hf
 split at hf
 · rename_i hl
   refine ⟨G0, H0, G, ρ, _, good, h1, fun vs H1 G1 s1 r1 => ?_⟩
   show spQ X.K n d xf (vs ++ []) H1 Q E0
   rw [List.append_nil]
   exact ⟨G1, ds, s1.sub, r1, hl, .inl ⟨r, hf, fun v H' G' st rr => k v H' G' (s1.trans st) rr⟩⟩
 · cases hf
end
section
variable {P : Program} {w : World} {K : PySem.W.Frag} {mg : Str -> Option Value} {base : Heap} {x qual : Str} {st : Stmt} {f : Addr} {fd : FuncData} {N ps : List Str} {k : Nat}
theorem ok_fnQ {body : Sf} {xb : List B -> Option Str} (F : Fun K x qual st f fd) (S : FnScope N ps (defScope st))
   (hb : ∀ (cdv : Value) (A : Around) (outer : List Env) (s : Shared) (H : Hp) (E : XK), Room k (A.deeper (envOfC qual (defScope st) s.heap.objs.size f cdv)) -> PFSs (cxOf (CXq P w) P w K mg base N qual (defScope st) f cdv A outer s H E) (defBody st) body)
   (hx : ∀ (cdv : Value) (A : Around) (outer : List Env) (s : Shared) (H : Hp) (E : XK), Room k (A.deeper (envOfC qual (defScope st) s.heap.objs.size f cdv)) -> PXSs (cxOf (CXq P w) P w K mg base N qual (defScope st) f cdv A outer s H E) E (defBody st) xb) :
   FnOk P w K mg base (CXq P w) (k + 1) f fd ps (spQ K ps.length (fnF N.length body) (fun ds => xb (startB N.length ds))) := by
 obtain ⟨oc, od, kV, doc, pm, an, cdv, ct, osl, rfl, lk, hcd⟩ := F.ex
 refine fn_of lk hcd S (fun vs H Q E h => ?_) fun A outer s H vs Q E hr h => ?_
 · obtain ⟨G, ds, sub, rs, hl, _⟩ := h
   rw [← rs.length]; exact hl
 · obtain ⟨G, ds, sub, rs, hl, h | ⟨c, C, hc, hC, k⟩⟩ := h
   · obtain ⟨d, hf, k⟩ := h
     refine ⟨_, hb cdv A outer s H E hr, ?_⟩
     unfold fnF at hf
     obtain ⟨o, h1, h2⟩ := Option.bind_eq_some_iff.mp hf
     refine ⟨G, H, G, _, o, good_start sub rs, h1, ?_⟩
     cases o with
     | nx ρ => cases h2; exact fun σ' H' G' s' g' => k .non H' G' g'.st (rep_non.mpr rfl)
     | rt e => cases h2; exact fun v H' G' s' r => k v H' G' s' r
     | rl es => cases h2; exact fun p us H' G' s' hn hp gp r => k _ H' (upd G' p (.lst us)) (s'.frz hn hp gp) (rep_lst.mpr ⟨p, us, rfl, .of upd_same, r.mono (Same.new gp)⟩)
     | bk ρ => cases h2
     | ct ρ => cases h2
   · exact ⟨_, hx cdv A outer s H E hr, ⟨G, H, G, _, c, C, good_start sub rs, hc, hC, k⟩⟩
end
theorem exec_one {M : Model} {A : Around} {st : Stmt} {env : Env} {Q : Flow -> Shared -> Prop} {R : Value -> Shared -> Prop} {s : Shared} (h : wpAny M A (exec st env) (fun _ _ => False) R s) : wpAny M A (execs [st] env) Q R s := wpAny_execs_cons (wpAny_mono h (fun _ _ z => z.elim) fun _ _ z => z)
def PXB (X : Cx) (st : Stmt) (xb : List B -> Option Str) : Prop := ∀ (pins : List (Addr × Obj)) (s : Shared) (σ : St) (H : Hp) (R : Value -> Shared -> Prop) (G0 H0 G : Hp) (ρ : List B) (c : Str) (C : Addr), Inv X pins σ H s -> Good X.K G0 H0 G H σ ρ -> xb ρ = some c -> ClsAt X.K c C ->
 (∀ s2 H2 G2 e s', Inv X pins σ H2 s2 -> Step G H G2 H2 -> CXq X.prog X.w X.stack H2 s2 (fun v _ H' => v = .ref C /\ ∃ G', Step G2 H2 G' H') e s' -> R e s') -> wpAny (model X.prog X.w) X.A (exec st X.env) (fun _ _ => False) R s
section
variable {X : Cx} {a b e : Expr} {es : List Expr} {ga : Lf} {tt : Tf} {xa xb : List B -> Option Str} {pos p cpos : Pos} {st st' : Stmt}
theorem pxb_call {k n : Nat} {fad : Addr} {fd : FuncData} {ps : List Str} {y : Str} {d : List D -> Option D} {xf : List D -> Option Str} (hno : ∀ e s, ¬ X.xe e s) (F : FnOk X.prog X.w X.K X.mg X.base (CXq X.prog X.w) k fad fd ps (spQ X.K n d xf)) (hr : Room k X.A) (hm : X.mg y = some (.ref fad)) (hk : PySem.W.keepIn X.K (.ref fad) = true) (hb : Binds X.K fd ps []) (hg : Gl X y)
   (ha : PFA X (e :: es) ga) (hdb : (y == ("__debug__" : Str)) = false := by decide) (he : starEach (e :: es) X.env = (false, eval e X.env) :: starEach es X.env := by rfl) (hpl : (backTo cpos (starEach es X.env)).any (·.1) = false := by rfl) (hs : swapsWith (.Call (.Name y p) (e :: es) [] cpos) none pos.line X.env = pure false := by rfl) :
   PXB X (.Expr (.Call (.Name y p) (e :: es) [] cpos) pos) (fun ρ => (ga ρ).bind fun ds => if ds.length = n then xf ds else none) := by
 intro pins s σ H R G0 H0 G ρ c C I good hq hC k
 obtain ⟨ds, h1, hq⟩ := Option.bind_eq_some_iff.mp hq
 split at hq
 · rename_i hl
   refine wpAny_Expr_any ?_ I.quiet hs
   refine wpAny_Call_Name_kw (ld_glob I hg hm ?_ hdb)
   refine PySem.W.callWith_K (h₀ := X.base) I.ok.mod.kin hk (wpAny_mono (ha cpos pins s σ H (fun vs H1 => ∃ G1, Step G H G1 H1 /\ Reps X.K G1 ds vs) I ⟨G0, H0, G, ρ, ds, good, h1, fun vs H1 G1 s1 r1 => ⟨G1, s1, r1⟩⟩) (fun us s1 ⟨vs, H1, I1, r, G1, st1, r1⟩ => ⟨I1.kIn, ?_⟩) fun e s z => (hno e s z).elim) he hpl
   have hlen : us.length = ps.length := by
     rw [← r.length]
     exact F.len vs H1 (fun _ _ => False) (fun v _ H' => v = .ref C /\ ∃ G', Step G1 H1 G' H') ⟨G1, ds, st1.sub, r1, hl, .inr ⟨c, C, hq, hC, fun H' G' z => ⟨rfl, G', z⟩⟩⟩
   rw [List.nil_append]
   refine wpAny_call (codeAny_mono (F.run X.A X.stack s1 H1 ⟨us, []⟩ us vs (fun _ _ => False) (fun v _ H' => v = .ref C /\ ∃ G', Step G1 H1 G' H') hr I1.env0 (by have := hb s1 us I1.kIn (by rw [List.append_nil]; exact hlen); rwa [List.append_nil] at this) r ⟨G1, ds, st1.sub, r1, hl, .inr ⟨c, C, hq, hC, fun H' G' z => ⟨rfl, G', z⟩⟩⟩) fun r s' hq => ?_)
   cases r with
   | error e => exact k s1 H1 G1 e s' I1 st1 hq
   | ok fl =>
     cases fl with
     | ret u => obtain ⟨_, _, _, _, _, _, _, z⟩ := hq; exact z.elim
     | next => exact False.elim hq
     | brk => exact False.elim hq
     | cont => exact False.elim hq
 · cases hq
theorem pxb_if (hno : ∀ e s, ¬ X.xe e s) (ht : PFT X a tt) (h1 : PXB X st xa) (h2 : PXB X st' xb) : PXB X (.If a [st] [st'] pos) (fun ρ => (tt ρ).bind fun c => if c = true then xa ρ else xb ρ) := by
 intro pins s σ H R G0 H0 G ρ c C I good hq hC k
 obtain ⟨v, hv, hq⟩ := Option.bind_eq_some_iff.mp hq
 refine wpAny_If (wpAny_mono (ht pins s σ H (fun b H1 => b = v /\ ∃ G1, Step G H G1 H1) I ⟨G0, H0, G, ρ, v, good, hv, fun H1 G1 st => ⟨rfl, G1, st⟩⟩) (fun b s1 ⟨H1, I1, eb, G1, st1⟩ => ?_) fun e s z => (hno e s z).elim)
 subst eb
 cases b with
 | true =>
   rw [if_pos rfl] at hq
   refine exec_one ?_
   exact h1 pins s1 σ H1 R G0 H0 G1 ρ c C I1 (good.step st1) hq hC fun s2 H2 G2 e s' I2 st2 hx => k s2 H2 G2 e s' I2 (st1.trans st2) hx
 | false =>
   rw [if_neg (by decide)] at hq
   refine exec_one ?_
   exact h2 pins s1 σ H1 R G0 H0 G1 ρ c C I1 (good.step st1) hq hC fun s2 H2 G2 e s' I2 st2 hx => k s2 H2 G2 e s' I2 (st1.trans st2) hx
theorem Good.setNo {K : PySem.W.Frag} {G0 H0 G H : Hp} {σ : St} {ρ : List B} (g : Good K G0 H0 G H σ ρ) (i : Nat) : Good K G0 H0 G H (σ.set i none) (ρ.set i .no) := by
 refine ⟨g.st, Paired.set .no i g.vals, fun j k a ds es h1 h2 h3 h4 => ?_⟩
 have nj : j ≠ i := fun z => by
   subst z
   by_cases hl : j < ρ.length
   · rw [List.getElem?_set_self hl] at h1; cases h1
   · rw [List.getElem?_eq_none (by rw [List.length_set]; omega)] at h1; cases h1
 have nk : k ≠ i := fun z => by
   subst z
   by_cases hl : k < ρ.length
   · rw [List.getElem?_set_self hl] at h2; cases h2
   · rw [List.getElem?_eq_none (by rw [List.length_set]; omega)] at h2; cases h2
 rw [List.getElem?_set_ne (Ne.symm nj)] at h1 h3
 rw [List.getElem?_set_ne (Ne.symm nk)] at h2 h4
 exact g.apart j k a ds es h1 h2 h3 h4
def sTry (cs : List Str) (xb : List B -> Option Str) (i : Nat) (f : Sf) : Sf := fun ρ => (xb ρ).bind fun c => if cs.contains c then (f (ρ.set i (.fz (.exc c [] [])))).bind fun o => match o with | .nx ρ' => some (.nx (ρ'.set i .no)) | _ => none else none
theorem ps_tryF {cs : List Str} {Y : Addr} {i : Nat} {n y : Str} {yp hp : Pos} {b₀ : Stmt} {suite : List Stmt} {f : Sf} (hb : PXB X st xb) (hcs : ∀ c C, cs.contains c = true -> ClsAt X.K c C -> PySem.W.exmOne X.K (.ref C) (.ref Y) = some true)
   (hst : X.stack = X.env :: X.outer) (hef : X.env.frame = some X.env.locals) (hg : Gl X y) (hm : X.mg y = some (.ref Y)) (hC : ∀ c, cs.contains c = true -> ∃ C, ClsAt X.K c C) (hN : X.N.Nodup) (hh : ∀ a, PFSs (X.marked a fun _ _ => False) (b₀ :: suite) f)
   (hi : X.N[i]? = some n := by rfl) (hk : X.env.kindOf n = some .local := by rfl) (hl : Loc X.env.scope n := by first | exact .inl rfl | exact .inr rfl) (hf : X.fn n = true ∨ X.env.scope.names.lookup n = some .local := by first | exact .inl rfl | exact .inr rfl) (hdb : (y == ("__debug__" : Str)) = false := by decide) :
   PFS X (.Try [st] [.ExceptHandler (some (.Name y yp)) (some n) (b₀ :: suite) hp] [] [] pos) (sTry cs xb i f) := by
 intro pins s σ H D I q
 obtain ⟨G0, H0, G, ρ, o, good, hq, k⟩ := q
 unfold sTry at hq
 obtain ⟨c, hc, hq⟩ := Option.bind_eq_some_iff.mp hq
 split at hq
 · rename_i hcc
   obtain ⟨C, hCC⟩ := hC c hcc
   obtain ⟨o1, ho1, hq⟩ := Option.bind_eq_some_iff.mp hq
   split at hq
   · rename_i ρ'
     cases hq
     refine wpAny_Try_except (exec_one (hb pins s σ H _ G0 H0 G ρ c C I good hc hCC fun s2 H2 G2 e s' I2 st2 hx => ?_))
     obtain ⟨C', a, H', rfl, os, bare, un, hok, fl, eC, G', st'⟩ := hx
     cases eC
     have g1 : Good X.K G0 H0 G' H' σ ρ := (good.step st2).step st'
     have g2 := g1.step (Step.laid (o := .ext (Xe C a none)) st'.sub fl.free)
     have rp : Rep X.K (upd G' a (.ext (Xe C a none))) (.exc c [] []) (.ref a) := rep_exc.mpr ⟨C, a, none, [], hCC, rfl, upd_same, rfl, rfl, reps_nil.mpr rfl⟩
     refine catch_as I2 os bare un hok fl hst hef hg hm hdb (hcs c C hcc hCC) hN hi hk hl hf (hh a) ⟨G0, H0, _, _, .nx ρ', g2.setF i rp, ho1, fun σ' H'' G'' sg g3 => ?_⟩
     exact k _ H'' G'' (((st2.gg.trans st'.gg).trans (Same.new (st'.sub.free fl.free))).trans sg) (g3.setNo i)
   · cases hq
 · cases hq
end
end L2
namespace L2
open PySem PySem.Spec PyProof.Rows
section
variable {prog : Program} {w : World} {A : Around} {E : Value -> Shared -> Prop} {s : Shared}
structure Z3 (z TI TO i1 i2 i3 l1 l2 l3 : Addr) : Prop where
 TIz : TI ≠ z
 TOz : TO ≠ z
 i1z : i1 ≠ z
 i2z : i2 ≠ z
 i3z : i3 ≠ z
 TITO : TI ≠ TO
 TIi1 : TI ≠ i1
 TIi2 : TI ≠ i2
 TIi3 : TI ≠ i3
 TOi1 : TO ≠ i1
 TOi2 : TO ≠ i2
 TOi3 : TO ≠ i3
 i12 : i1 ≠ i2
 i13 : i1 ≠ i3
 i23 : i2 ≠ i3
 a1 : l1 ≠ z
 a2 : l1 ≠ TO
 a3 : l1 ≠ i1
 a4 : l1 ≠ i2
 a5 : l1 ≠ i3
 b1 : l2 ≠ z
 b2 : l2 ≠ TO
 b3 : l2 ≠ i1
 b4 : l2 ≠ i2
 b5 : l2 ≠ i3
 c1 : l3 ≠ z
 c2 : l3 ≠ TO
 c3 : l3 ≠ i1
 c4 : l3 ≠ i2
 c5 : l3 ≠ i3
end
section
variable {prog : Program} {w : World} {A : Around} {E : Value -> Shared -> Prop} {s : Shared}
end
section
variable {X : Cx} {a b c e tg elt iter : Expr} {fa fb fc : Ef} {ga : Lf} {pos p : Pos}
end
end L2
namespace L2
open PySem PySem.Spec PyProof.Rows
section
variable {X : Cx} {a b c e : Expr} {es : List Expr} {fa fb fc : Ef} {ga gb : Lf} {pos p : Pos}
end
section
variable {prog : Program} {w : World} {A : Around} {E : Value -> Shared -> Prop} {s : Shared}
end
section
variable {X : Cx} {a b c e : Expr} {es : List Expr} {fa fb fc : Ef} {ga gb : Lf} {pos p : Pos}
def eIxO (i : Nat) (fb : Ef) : Ef := fun ρ => match ρ[i]? with | some (.ow ds) => (fb ρ).bind (fun y => match y with | .int k => atI ds k | _ => none) | _ => none
theorem pf_ixO (i : Nat) {x : Str} {p1 : Pos} (hb : PF X b fb) (hN : X.N[i]? = some x := by rfl) (hv : Vis X.env.scope x := by first | exact Or.inl rfl | exact Or.inr (Or.inl rfl) | exact Or.inr (Or.inr rfl)) (hd : (x == ("__debug__" : Str)) = false := by decide) (hcd : (x == ("__classdict__" : Str)) = false := by decide) (hs : PlainIx b := by exact fun _ _ => rfl) :
   PF X (.Subscript (.Name x p1) b pos) (eIxO i fb) := by
 refine PE.to (pe_ix ix_list (pe_var hN hv hd hcd) hb hs) ?_
 rintro σ H Q ⟨G0, H0, G, ρ, d, good, hf, k⟩
 unfold eIxO at hf
 split at hf
 · rename_i ds hi
   obtain ⟨q, vs, e1, e2, e3, e4, e5⟩ := good.addr hi
   obtain ⟨y, h2, hf⟩ := Option.bind_eq_some_iff.mp hf
   cases y with
   | int m =>
     refine ⟨.ref q, e1, G0, H0, G, ρ, _, good, h2, fun v H2 G2 s2 r2 => ?_⟩
     obtain ⟨w, e, rw'⟩ := atI_reps (e5.mono s2.gg) hf
     exact ⟨q, vs, m, w, rfl, rep_int.mp r2, .of (s2.hh _ _ e2), e, k _ _ G2 s2 rw'⟩
   | _ => cases hf
 · cases hf
end
end L2
namespace L2
open PySem PySem.Spec PyProof.Rows
section
variable {prog : Program} {w : World} {A : Around} {E : Value -> Shared -> Prop} {s : Shared}
theorem lri_no_len : typeLookup (.type "list_reverseiterator") "__len__" = pure none := by rw [typeLookup_type, builtinLookup_eq_fast]; kernel_rfl
theorem lri_hint : typeLookup (.type "list_reverseiterator") "__length_hint__" = pure (some (.builtin "list_reverseiterator.__length_hint__")) := by rw [typeLookup_type, builtinLookup_eq_fast]; kernel_rfl
theorem hint_rev {it l : Addr} {i : Int} {Q : Bool -> Shared -> Prop} (hit : s.heap.IsRevIter it l i) (h : Q false s) : wpAny (model prog w) A (Builtin.List.listLengthHint (.ref it)) Q E s := by
 unfold Builtin.List.listLengthHint
 refine wpAny_bind (wpAny_specialOf hit.typeIs lri_no_len ?_)
 refine wpAny_ite_split (fun hab => absurd hab (by decide)) (fun _ => ?_)
 refine wpAny_ite_split (fun hab => absurd hab (by decide)) (fun _ => ?_)
 refine wpAny_bind (wpAny_specialOf hit.typeIs lri_hint ?_)
 generalize hid : ("list_reverseiterator.__length_hint__" : String) = id0
 wp_delta
 rw [show splitId id0 = some ("list_reverseiterator", "__length_hint__") from by subst hid; decide +kernel]
 subst hid
 refine wpAny_bind (wpAny_isInstance (T := "list_reverseiterator") (b := true) hit.typeIs (by rw [isSubtype_type]; kernel_rfl) ?_)
 refine wpAny_ite_split (fun hab => absurd hab (by decide)) (fun _ => ?_)
 refine wpAny_ite_split (fun _ => ?_) (fun hab => absurd (by decide +kernel) hab)
 refine wpAny_ite_split (fun hab => absurd hab (by decide +kernel)) (fun _ => ?_)
 exact wpAny_pure h
theorem extend_rev {R : Result -> Shared -> Prop} {it l S : Addr} {items : Array Value} {res : Value} {c₀ : Nat} (hh : A.handled = none) (hit : s.heap.IsRevIter it l ((items.size : Int) - 1)) (hl : s.heap.IsList l items) (hli : l ≠ it) (hSi : S ≠ it) (hSl : S ≠ l) (hlen : items.size <= sizeLine)
   (hS : s.heap.get? S = some { cls := .type "list", data := .seq #[] c₀ })
   (hR : ∀ h' tk acc' c', (∀ b o, b ≠ S -> b ≠ it -> s.heap.get? b = some o -> h'.get? b = some o) -> h'.get? S = some { cls := .type "list", dict := none, data := .seq acc' c', slots := #[] } ->
     ItemsOf (fun i v => items[items.size - 1 - i]? = some v) acc' items.size -> R (.ok (.ret res)) { s with heap := h', toks := tk }) :
   wpAny (model prog w) A.in1 (Builtin.List.listExtendWith (.ref S) (.ref it) res)
     (fun fin s' => match fin with | .done f => R (.ok f) s' | .again c' => c'.quiet = true /\ codeAny (model prog w) A c' R s') (fun e s' => R (.error e) s') s := by
 have hSf : S ∉ [it, l] := fun hm => by
   rcases List.mem_cons.mp hm with e | hm
   · exact hSi e
   · exact hSl (List.mem_singleton.mp hm)
 have W := (Walks.listRev (prog := prog) (w := w) (A := A.in1) hh it l hli items).toS
 unfold Builtin.List.listExtendWith
 refine wpAny_bind (wpAny_typeOf hit.typeIs ?_)
 have h1 : Builtin.List.listSameRef (.ref S) (.ref it) = false := by simp [Builtin.List.listSameRef, hSi]
 have h2 : (Value.type "list_reverseiterator" == Value.type "list") = false := by decide
 have h3 : (Value.type "list_reverseiterator" == Value.type "tuple") = false := by decide
 simp only [h1, h2, h3, Bool.or_false, Bool.false_eq_true, if_false]
 refine wpAny_bind (wpAny_pyIter_revIter hit ?_)
 refine wpAny_bind (wpAny_holding (hint_rev hit ?_))
 refine wpAny_ite_split (fun hab => absurd hab (by decide +kernel)) (fun _ => wpAny_pure ⟨plainId_quiet F.plain_extend_loop _, ?_⟩)
 refine codeAny_extend_loopS W hlen S hSf res items.size 0 _ #[] c₀ rfl (Nat.zero_le _) ⟨Nat.zero_le _, by simpa using hit, hl⟩ hS (ItemsOf.nil _) fun s' acc' c' hm hS' hacc => ?_
 rw [Moved.eq_with hm]
 refine hR s'.heap s'.toks acc' c' (fun b o hb hb' e => hm.heap b o (fun hmem => ?_) e) hS' hacc
 rcases List.mem_cons.mp hmem with e' | hmem
 · exact hb e'
 · exact hb' (List.mem_singleton.mp hmem)
theorem list_init_rev {R : Result -> Shared -> Prop} {it l S : Addr} {items : Array Value} (hh : A.handled = none) (hit : s.heap.IsRevIter it l ((items.size : Int) - 1)) (hl : s.heap.IsList l items) (hli : l ≠ it) (hSi : S ≠ it) (hSl : S ≠ l) (hlen : items.size <= sizeLine)
   (hS : s.heap.get? S = some { cls := .type "list", data := .seq #[] })
   (hR : ∀ h' tk acc' c', (∀ b o, b ≠ S -> b ≠ it -> s.heap.get? b = some o -> h'.get? b = some o) -> h'.get? S = some { cls := .type "list", dict := none, data := .seq acc' c', slots := #[] } ->
     ItemsOf (fun i v => items[items.size - 1 - i]? = some v) acc' items.size -> R (.ok (.ret .none)) { s with heap := h', toks := tk }) :
   wpAny (model prog w) A.in1 (Builtin.«list.__init__» ⟨[.ref S, .ref it], []⟩)
     (fun fin s' => match fin with | .done f => R (.ok f) s' | .again c' => c'.quiet = true /\ codeAny (model prog w) A c' R s') (fun e s' => R (.error e) s') s := by
 show wpAny _ _ (do let old ← Builtin.List.listItems (.ref S); Builtin.List.listUpdate (.ref S) (fun _ => #[]); letGo old.toList.reverse; Builtin.List.listExtendWith (.ref S) (.ref it) .none) _ _ s
 refine wpAny_bind ?_
 unfold Builtin.List.listItems
 refine wpAny_bind (wpAny_seqItems hS rfl (wpAny_pure ?_))
 show wpAny _ _ (updateSeq S (fun _ => #[]) >>= fun _ => letGo (#[] : Array Value).toList.reverse >>= fun _ => Builtin.List.listExtendWith (.ref S) (.ref it) .none) _ _ s
 refine wpAny_bind (wpAny_updateSeq hS rfl ?_)
 have hS₂ := Heap.get?_update_self (Obj.mapSeq (fun _ => (#[] : Array Value))) hS rfl
 have oth : ∀ b o, b ≠ S -> s.heap.get? b = some o -> (s.heap.update S (Obj.mapSeq (fun _ => (#[] : Array Value)))).get? b = some o :=
   fun b o hb e => (Heap.get?_update_other _ _ (Ne.symm hb)).trans e
 refine wpAny_bind (wpAny_letGo ?_)
 refine extend_rev hh (hit.at fun o e => oth _ _ (Ne.symm hSi) e) (hl.at fun o e => oth _ _ (Ne.symm hSl) e) hli hSi hSl hlen hS₂ fun h' tk acc' c' hk hS' hacc => ?_
 exact hR h' tk acc' c' (fun b o hb hb' e => hk b o hb hb' (oth b o hb e)) hS' hacc
theorem call_list_rev {Q : Value -> Shared -> Prop} {it l : Addr} {items : Array Value} (hh : A.handled = none) (hit : s.heap.IsRevIter it l ((items.size : Int) - 1)) (hl : s.heap.IsList l items) (hli : l ≠ it) (hlen : items.size <= sizeLine)
   (hQ : ∀ h' tk acc' c', (∀ b o, b ≠ it -> s.heap.get? b = some o -> h'.get? b = some o) ->
     h'.get? s.heap.objs.size = some { cls := .type "list", dict := none, data := .seq acc' c', slots := #[] } -> ItemsOf (fun i v => items[items.size - 1 - i]? = some v) acc' items.size -> Q (.ref s.heap.objs.size) { s with heap := h', toks := tk }) :
   wpAny (model prog w) A (call (.type "list") [.ref it]) Q E s := by
 refine callType_codes (Q₁ := fun obj s₁ => obj = .ref s.heap.objs.size /\ s₁ = { s with heap := s.heap.push { cls := .type "list", data := .seq #[] } }) F.called_list (F.typeCall_list_1 _) F.entry_list_init
   (code_list_new _ ⟨rfl, rfl⟩) fun obj s₁ h₁ => ?_
 obtain ⟨rfl, rfl⟩ := h₁
 have hS : (s.heap.push { cls := .type "list", data := .seq #[] }).get? s.heap.objs.size = some { cls := .type "list", data := .seq #[] } := Heap.get?_push_size _ rfl
 have n1 : s.heap.objs.size ≠ it := fun z => by obtain ⟨o, e, _⟩ := hit; exact absurd (Heap.lt_size e) (by rw [z]; exact Nat.lt_irrefl _)
 have n2 : s.heap.objs.size ≠ l := fun z => by obtain ⟨o, e, _⟩ := hl; exact absurd (Heap.lt_size e) (by rw [z]; exact Nat.lt_irrefl _)
 refine ⟨⟨_, hS, rfl⟩, F.args_list_init_2 _ _, list_init_rev (A := A.in1) hh (hit.at fun o e => Heap.get?_push_of_some _ e) (hl.at fun o e => Heap.get?_push_of_some _ e) hli n1 n2 hlen hS fun h' tk acc' c' hk hS' hacc => ?_⟩
 exact ⟨rfl, hQ h' tk acc' c' (fun b o hb e => hk b o (Nat.ne_of_lt (Heap.lt_size e)) hb (Heap.get?_push_of_some _ e)) hS' hacc⟩
end
theorem items_rev {its acc : List Value} (h : ItemsOf (fun i v => its.toArray[its.toArray.size - 1 - i]? = some v) acc.toArray its.toArray.size) : acc = its.reverse := by
 obtain ⟨h1, h2⟩ := h
 simp only [List.size_toArray] at h1 h2
 refine List.ext_getElem (by rw [h1, List.length_reverse]) fun i hi hi' => ?_
 have q := h2 i acc[i] (by simp [hi])
 rw [List.getElem_reverse]
 simp only [List.getElem?_toArray] at q
 rw [List.getElem?_eq_getElem (by omega)] at q
 exact (Option.some.inj q).symm
theorem Reps.reverse {K : PySem.W.Frag} {G : Hp} : ∀ {ds : List D} {vs : List V}, Reps K G ds vs -> Reps K G ds.reverse vs.reverse
 | [], _, h => by rw [reps_nil] at h; subst h; exact reps_nil.mpr rfl
 | d :: r, _, h => by
   obtain ⟨v, vr, rfl, h1, h2⟩ := reps_cons.mp h
   rw [List.reverse_cons, List.reverse_cons]
   exact h2.reverse.snoc h1
section
variable {X : Cx} {a b c e tg elt iter : Expr} {es : List Expr} {fa fb fc : Ef} {ga gb : Lf} {pos p : Pos}
def lRevOf (g : Lf) : Lf := fun ρ => (g ρ).map List.reverse
theorem pl_listRev {p2 pos' : Pos} (hc : X.calm = true) (hg : Gl X "list") (hm : X.mg "list" = none) (hg' : Gl X "reversed") (hm' : X.mg "reversed" = none) (h : PSrc X a ga) (hs : starEach [a] X.env = [(false, eval a X.env)] := by rfl)
   (hs3 : starEach [Expr.Call (.Name "reversed" p2) [a] [] pos'] X.env = [(false, eval (.Call (.Name "reversed" p2) [a] [] pos') X.env)] := by rfl) :
   PFr X (.Call (.Name "list" p) [.Call (.Name "reversed" p2) [a] [] pos'] [] pos) (lRevOf ga) := by
 intro pins s σ H Q I q
 obtain ⟨G0, H0, G, ρ, es, good, hf, kk⟩ := q
 unfold lRevOf at hf
 obtain ⟨ds, h1, rfl⟩ := Option.map_eq_some_iff.mp hf
 have hA := pa_cons h pa_nil (by rw [hs]; rfl) pos' pins s σ H (fun vs H' => ∃ l us G', vs = [.ref l] /\ Step G H G' H' /\ SqL X.K G' l us /\ Reps X.K G' ds us) I
   ⟨G0, H0, G, ρ, _, good, h1, fun l us H1 G1 s1 q1 q2 => ⟨l, us, G1, rfl, s1, q1, q2⟩⟩
 refine Call_ (ld_blt I hg hm (by rfl) (PyProof.Rows.callWith_type1 (rest := []) ?_ (by rw [hs3]; rfl) (by rfl)))
 rw [hs3]
 refine Calls.spliced_cons (Call_ (ld_blt I hg' hm' (by rfl) (PyProof.Rows.callWith_type1 (thn hA fun us s1 ⟨vs, H1, I1, r1, l, ws, G1, e1, st1, q1, q2⟩ => ?_) (by rw [hs]; rfl) (by rfl))))
 subst e1
 obtain ⟨u, rfl, ru⟩ := vals1 r1
 cases ru
 obtain ⟨its, rv, p1, hz⟩ := I1.list (st1.sub.seq q1)
 have hll : l < s1.heap.objs.size := by obtain ⟨o, e, _⟩ := p1.isList; exact Heap.lt_size e
 refine call_reversed_list p1.isList ?_
 refine Calls.spliced_nil ?_
 have hrev : (s1.heap.push (revObj l ((its.toArray.size : Int) - 1))).IsRevIter s1.heap.objs.size l ((its.toArray.size : Int) - 1) := ⟨_, Heap.get?_push_size _ rfl, rfl, rfl⟩
 refine call_list_rev (I.ok.hd hc) hrev (p1.isList.at fun o e => Heap.get?_push_of_some _ e) (Nat.ne_of_lt hll) (by rw [List.size_toArray]; exact rv.length ▸ hz) fun h' tk acc c' hk hS hacc => ?_
 have hsz : (s1.heap.push (revObj l ((its.toArray.size : Int) - 1))).objs.size = s1.heap.objs.size + 1 := Heap.size_push ..
 have hacc' : acc.toList = its.reverse := items_rev (acc := acc.toList) (by simpa using hacc)
 have hT : s1.heap.objs.size <= (s1.heap.push (revObj l ((its.toArray.size : Int) - 1))).objs.size := by rw [hsz]; exact Nat.le_succ _
 have fr : H1 (s1.heap.push (revObj l ((its.toArray.size : Int) - 1))).objs.size = none := I1.hok.fresh hT
 have I3 := I1.laid (t' := tk) (h' := h') (a := (s1.heap.push (revObj l ((its.toArray.size : Int) - 1))).objs.size) (o := .lst ws.reverse) (fun b o e => hk b o (Nat.ne_of_lt (Heap.lt_size e)) (Heap.get?_push_of_some _ e)) hT
   (show ObjOk X.prog X.w _ h' _ (.lst ws.reverse) from ⟨by rw [List.length_reverse]; exact hz, acc.toList, c', by rw [hacc']; exact rv.reverse, hS⟩)
 exact ⟨.ref _, _, I3, rfl, kk _ ws.reverse _ G1 (st1.trans (Step.own st1.sub fr)) (st1.hh.free fr) upd_same (st1.sub.free fr) q2.reverse⟩
def cDivB (_ j : Int) : Bool := decide (0 < j) && decide (j.natAbs.log2 < 9000)
abbrev eDivB := eI cDivB (fun i j => i / j)
theorem op_fdivB : OpR X (binaryOp .FloorDiv) (rI (fun _ j => 0 < j /\ j.natAbs.log2 < 9000) fun i j => .int (i / j)) := opI fun i j _ _ _ _ _ hc q => by
 have h1 : (0 : Int) < j := hc.1
 exact floordiv_int (by omega) (by rw [Int.fdiv_eq_ediv_of_nonneg i (by omega)]; exact q) (.inl (PyProof.noPylong_of_log2 hc.2))
theorem pf_divB (ha : PF X a fa) (hb : PF X b fb) : PF X (.BinOp a .FloorDiv b pos) (eDivB fa fb) := pf_i op_fdivB (fun i j h => by
 unfold cDivB at h
 simp only [Bool.and_eq_true, decide_eq_true_eq] at h
 exact h) ha hb
def cMulW (i j : Int) : Bool := decide (Builtin.Int.intBits i <= 2097152) && decide (Builtin.Int.intBits j <= 2097152)
abbrev eMulW := eI cMulW (fun i j => i * j)
theorem pf_mulW (ha : PF X a fa) (hb : PF X b fb) : PF X (.BinOp a .Mult b pos) (eMulW fa fb) := pf_i op_mulB (fun i j h => by
 unfold cMulW at h
 simp only [Bool.and_eq_true, decide_eq_true_eq] at h
 exact mulOk_of_bits h.1 h.2 (by decide)) ha hb
end
end L2
namespace L2
open PySem PySem.Spec PyProof.Rows
theorem noFill_tuple_mul : fillsNumberSlot (.type "tuple") "mul" = pure false :=
 PySem.fillsNumberSlot_seq (id := "tuple.__mul__") (r := some (.builtin "tuple.__rmul__")) F.slot_tuple_mul.lookup (by decide +kernel) (by rw [typeLookup_type, builtinLookup_eq_fast]; kernel_rfl) (by decide +kernel)
theorem tuple_rmul_look : typeLookup (.type "tuple") "__rmul__" = pure (some (.builtin "tuple.__rmul__")) := by rw [typeLookup_type, builtinLookup_eq_fast]; kernel_rfl
theorem repeat_tuple : seqRepeat? (.type "tuple") = pure (some (.builtin "tuple.__mul__")) := by
 unfold seqRepeat?
 rw [PySem.seqSlot_of (T := "tuple") (name := "__mul__") (id := "tuple.__mul__") F.slot_tuple_mul.lookup (by decide +kernel), PySem.seqSlot_of (T := "tuple") (name := "__rmul__") (id := "tuple.__rmul__") tuple_rmul_look (by decide +kernel)]
 rfl
theorem rmul_int_tuple (a : Int) (t : Tok) (l : Addr) (items : Array Value) (n : Nat) (dd : Option Addr) (sl : Array (Option Value)) :
   Meets (Builtin.«int.__rmul__» ⟨[.int a t, .ref l], []⟩) (fun _ R s => s.heap.get? l = some { cls := .type "tuple", dict := dd, data := .seq items n, slots := sl } /\ R (.ok (.ret Value.notImplemented)) s) :=
 .of_wp fun prog w A R s h => by obtain ⟨hp, g, d, tk, os⟩ := s; obtain ⟨hl, h⟩ := h; wp_walk; exact ⟨_, rfl, h⟩
open AutoSeq1 (wpAny_loadPart') in
theorem tuple_mulW (l : Addr) (items : Array Value) (n : Nat) (dd : Option Addr) (sl : Array (Option Value)) (x : Int) (u : Tok) (c1 : ¬ ((decide (x < -2 ^ 63) || decide (x ≥ 2 ^ 63)) = true)) (c2 : ¬ ((items.isEmpty || x == 1) = true)) (c3 : ¬ ((decide (x <= 0) || items.isEmpty) = true))
   (c4 : ¬ (items.size : Int) * x > (2 ^ 63 - 1) / 8) (c5 : ¬ Builtin.Tuple.tupleTooMany ((items.size : Int) * x) = true) (hsz : (List.foldl (fun x1 x2 => x1 ++ x2) #[] (List.replicate x.toNat items)).size <= sizeLine) :
   Meets (Builtin.«tuple.__mul__» ⟨[.ref l, .int x u], []⟩) (fun _ R s => s.heap.get? l = some { cls := .type "tuple", dict := dd, data := .seq items n, slots := sl } /\ R (.ok (.ret (Value.ref s.heap.objs.size))) { s with heap := s.heap.push { cls := Value.type "tuple", data := Data.seq (List.foldl (fun x1 x2 => x1 ++ x2) #[] (List.replicate x.toNat items)) }, toks := s.toks }) :=
 .of_wp fun prog w A R s h => by
   obtain ⟨hp, g, d, tk, os⟩ := s; obtain ⟨hl, h⟩ := h
   have f1 := AutoSeq1.idx_int
   have f2 := AutoSeq1.sub_tuple_tuple
   wp_walk using wpAny_loadPart' hl
   have ht : IsTup (Shared.heap ⟨hp, g, d, tk, os⟩) l items := ⟨_, hl, rfl, n, rfl⟩
   refine wpAny_ite_split (fun hab => absurd hab c1) (fun _ => ?_)
   refine wpAny_bind (tupleItemsOf_ ht ?_)
   refine wpAny_ite_split (fun hab => absurd hab c2) (fun _ => ?_)
   refine wpAny_ite_split (fun hab => absurd hab c3) (fun _ => ?_)
   refine wpAny_ite_split (fun hab => absurd hab c4) (fun _ => ?_)
   refine wpAny_ite_split (fun hab => absurd hab c5) (fun _ => ?_)
   exact wpAny_bind (m := Builtin.Tuple.tupleExact _) (wpAny_newObj_type (wpAny_pure ⟨_, rfl, h⟩) hsz)
section
variable {X : Cx} {a b c e tg elt iter : Expr} {es : List Expr} {fa fb fc : Ef} {ga gb : Lf} {pos p : Pos}
def rRepT (K : PySem.W.Frag) : R2 := fun x y H Q => ∃ l k xs, x = .ref l /\ y = .int k /\ SqT K H l xs /\ xs ≠ [] /\ 2 <= k /\ k <= 1000 /\ xs.length <= 90 /\ ∀ p, H p = none -> Q (.ref p) (upd H p (.tup (List.replicate k.toNat xs).flatten))
theorem op_repT : OpR X (binaryOp .Mult) (rRepT X.K) := by
 intro pins s σ H x y v u Q I rx ry h
 obtain ⟨l, k, xs, rfl, rfl, hx, hne, h1, h2, hl, q⟩ := h
 cases rx
 obtain ⟨t, rfl⟩ := ry
 obtain ⟨its, r, ht, hz⟩ := I.tuple hx
 have hlen := r.length
 have hne' : its ≠ [] := fun z => hne (r.nil_iff.mp z)
 obtain ⟨⟨cls, dd, data, sl⟩, ho, hc, n, hd⟩ := id ht
 simp only at hc hd
 subst hc hd
 have hnew : List.foldl (fun x1 x2 => x1 ++ x2) #[] (List.replicate k.toNat its.toArray) = (List.replicate k.toNat its).flatten.toArray := by
   have := foldl_rep its k.toNat []
   rw [List.nil_append] at this
   exact this
 have hsl : 100000 < sizeLine := lim_ok (by decide)
 have hb : its.length * k.toNat <= 90 * 1000 := Nat.mul_le_mul (by omega) (by omega)
 have hb2 : (its.toArray.size : Int) * k = ((its.length * k.toNat : Nat) : Int) := by
   rw [List.size_toArray, Int.natCast_mul, Int.toNat_of_nonneg (by omega)]
 have hfl : (List.replicate k.toNat its).flatten.length = k.toNat * its.length := by simp
 refine wpAny_binaryOp_repeat_ref (T := "tuple") (U := "int") (by decide) ⟨_, ho, rfl⟩ (fun s' => typeIs_int s' k t) noFill_tuple_mul F.fills_int_mul F.slot_int_rmul repeat_tuple F.slot_int_index.lookup
   (call_meets F.slot_int_rmul (typeIs_int s k t) F.entry_int_rmul (F.args_int_rmul_2 _ _) (rmul_int_tuple k t l its.toArray n dd sl)
     ⟨ho, rfl, ⟨_, ho, rfl⟩, call_meets F.slot_tuple_mul ⟨_, ho, rfl⟩ F.entry_tuple_mul (F.args_tuple_mul_2 _ _) (tuple_mulW l its.toArray n dd sl k t ?_ ?_ ?_ ?_ ?_ ?_) ⟨ho, ?_⟩⟩)
 · simp; omega
 · simp [hne']; omega
 · simp [hne']; omega
 · rw [hb2]
   generalize its.length * k.toNat = m at hb
   omega
 · unfold Builtin.Tuple.tupleTooMany
   rw [hb2, decide_eq_true_eq]
   generalize its.length * k.toNat = m at hb
   omega
 · rw [hnew, List.size_toArray, hfl, Nat.mul_comm]; omega
 · rw [hnew]
   have hw : (List.replicate k.toNat xs).flatten.length <= sizeLine := by
     have : (List.replicate k.toNat xs).flatten.length = k.toNat * xs.length := by simp
     rw [this, Nat.mul_comm, hlen]; omega
   refine ⟨.ref s.heap.objs.size, _, I.laid (t' := s.toks) (o := .tup (List.replicate k.toNat xs).flatten) (fun b ob q => Heap.get?_push_of_some _ q) (Nat.le_refl _) ?_, rfl, q _ (I.hok.fresh (Nat.le_refl _))⟩
   exact ⟨hw, _, r.rep k.toNat, IsTup.new _ _⟩
def eTRep (fa fb : Ef) : Ef := fun ρ => (fa ρ).bind fun x => (fb ρ).bind fun y => match x, y with | .tup xs, .int k => if xs ≠ [] /\ 2 <= k /\ k <= 1000 /\ xs.length <= 90 then some (.tup (List.replicate k.toNat xs).flatten) else none | _, _ => none
theorem pf_trep (ha : PF X a fa) (hb : PF X b fb) : PF X (.BinOp a .Mult b pos) (eTRep fa fb) := by
 refine PE.to (pe_op op_repT ha hb) ?_
 rintro σ H Q ⟨G0, H0, G, ρ, d, good, hf, k⟩
 unfold eTRep at hf
 obtain ⟨x, h1, hf1⟩ := Option.bind_eq_some_iff.mp hf
 obtain ⟨y, h2, hf2⟩ := Option.bind_eq_some_iff.mp hf1
 cases x with
 | tup xs =>
   cases y with
   | int m =>
     dsimp only at hf2
     split at hf2
     · rename_i hc
       obtain ⟨c0, c1, c2, c3⟩ := hc
       cases hf2
       refine ⟨G0, H0, G, ρ, _, good, h1, fun v H1 G1 s1 r1 => ⟨G0, H0, G1, ρ, _, good.step s1, h2, fun u H2 G2 s2 r2 => ?_⟩⟩
       obtain ⟨q, vs, rfl, q1, q2⟩ := rep_tup.mp (r1.mono s2.gg)
       have e1 := q2.length
       refine ⟨q, m, vs, rfl, rep_int.mp r2, s2.sub.tup q1, fun z => c0 (List.length_eq_zero_iff.mp (by rw [e1, z]; rfl)), c1, c2, by omega, fun p hp => ?_⟩
       have s4 := Step.laid (o := .tup (List.replicate m.toNat vs).flatten) s2.sub hp
       exact k _ _ _ ((s1.trans s2).trans s4) (rep_tup.mpr ⟨p, _, rfl, .of upd_same, (reps_rep q2 m.toNat).mono s4.gg⟩)
     · cases hf2
   | _ => cases hf2
 | _ => cases hf2
theorem fm_map {α β : Type} {f : α -> Option β} {g : α -> β} : ∀ {l : List α}, (∀ x ∈ l, f x = some (g x)) -> l.filterMap f = l.map g
 | [], _ => rfl
 | x :: r, h => by rw [List.filterMap_cons, h x List.mem_cons_self, List.map_cons, fm_map fun y hy => h y (List.mem_cons_of_mem _ hy)]
theorem slicePick_rev (its : List Value) : slicePick its.toArray none none (some (-1)) = its.reverse.toArray := by
 unfold slicePick
 have hb : sliceBounds none none (some (-1)) its.toArray.size = ((its.length : Int) - 1, -1, -1) := by simp [sliceBounds]
 rw [hb]
 congr 1
 have hr : sliceRange ((its.length : Int) - 1) (-1) (-1) = (List.range its.length).map fun k => its.length - 1 - k := by
   unfold sliceRange
   have hc : (if (-1 : Int) > 0 then (if (its.length : Int) - 1 < -1 then (-1 - ((its.length : Int) - 1) + -1 - 1) / -1 else 0) else if (its.length : Int) - 1 > -1 then ((its.length : Int) - 1 - -1 - -1 - 1) / (- -1) else 0).toNat = its.length := by
     rw [if_neg (by decide)]
     by_cases h : its.length = 0
     · rw [if_neg (by omega), h]; rfl
     · rw [if_pos (by omega), show (- -1 : Int) = 1 from rfl, Int.ediv_one]; omega
   simp only [hc]
   refine List.map_congr_left fun k hk => ?_
   have := List.mem_range.mp hk
   omega
 rw [hr, List.filterMap_map]
 rw [fm_map (g := fun k => its.reverse.getD k .none) fun k hk => by
   have hk := List.mem_range.mp hk
   show its.toArray[its.length - 1 - k]? = some (its.reverse.getD k .none)
   rw [List.getElem?_toArray, List.getD_eq_getElem?_getD, List.getElem?_reverse hk, List.getElem?_eq_getElem (by omega)]
   rfl]
 refine List.ext_getElem (by simp) fun i hi hi' => ?_
 rw [List.getElem_map, List.getElem_range, List.getD_eq_getElem?_getD, List.getElem?_eq_getElem hi']
 rfl
def lRev1 (g : Lf) (fs : Ef) : Lf := fun ρ => (g ρ).bind fun ds => (oSome fs ρ).bind fun k => if k = some (-1) then some ds.reverse else none
theorem pl_rev1 {st : Expr} {fs : Ef} {p2 : Pos} (h : PSrc X a ga) (hst : PF X st fs) : PFr X (.Subscript a (.Slice none none (some st) p2) pos) (lRev1 ga fs) := by
 intro pins s σ H Q I q
 obtain ⟨G0, H0, G, ρ, es, good, hf, kk⟩ := q
 unfold lRev1 at hf
 obtain ⟨ds, h1, hf1⟩ := Option.bind_eq_some_iff.mp hf
 obtain ⟨k, h2, hf2⟩ := Option.bind_eq_some_iff.mp hf1
 by_cases hk : k = some (-1)
 · rw [if_pos hk] at hf2
   subst hk
   cases hf2
   refine Subscript_ (thn (h pins s σ H (fun v H1 => ∃ l us G1, v = .ref l /\ Step G H G1 H1 /\ SqL X.K G1 l us /\ Reps X.K G1 ds us) I ⟨G0, H0, G, ρ, _, good, h1, fun l us H1 G1 s1 q1 q2 => ⟨l, us, G1, rfl, s1, q1, q2⟩⟩) fun v s1 ⟨x, H1, I1, r1, l, us, G1, e1, st1, q1, q2⟩ => ?_)
   subst e1
   cases r1
   refine wpAny_Slice ?_
   rw [evalPart_none]
   refine wpAny_pure ?_
   refine wpAny_pure (thn (po_sm hst pins s1 σ H1 (fun o H3 => ∃ G3, Step G1 H1 G3 H3 /\ o = some (-1)) I1 ⟨G0, H0, G1, ρ, _, good.step st1, h2, fun H3 G3 s3 => ⟨G3, s3, rfl⟩⟩) fun vk s3 ⟨k', H3, I3, pk, G3, st3, e3⟩ => ?_)
   subst e3
   have I4 : Inv X pins σ H3 { s3 with heap := s3.heap.push { cls := .type "slice", data := .fields #[.none, .none, vk] } } := I3.kept (t' := s3.toks) fun b ob q => Heap.get?_push_of_some _ q
   have st13 := st1.trans st3
   obtain ⟨its, rv, p1, hz⟩ := I4.list (st3.sub.seq (st3.gg.seq q1))
   have hlen := rv.length
   show wpAny (model X.prog X.w) X.A (subscriptTail a (.Slice none none (some st) p2) (.ref l) (.ref s3.heap.objs.size)) (EP X pins σ Q) X.xe _
   refine tail_any (ops := [.ref l, .ref s3.heap.objs.size]) (T := "list") p1.isList.typeIs slot_list_getitem.lookup ?_ (by with_unfolding_all rfl)
   refine wpAny_getItem_list_slice (lo := none) (hi := none) (st := some (-1)) p1.isList ⟨_, Heap.get?_push_size _ rfl, rfl, rfl⟩ .none .none pk (by simp) ?_ (by rw [List.size_toArray]; omega)
   rw [slicePick_rev]
   have fr : H3 (s3.heap.push { cls := .type "slice", data := .fields #[.none, .none, vk] }).objs.size = none := I4.hok.fresh (Nat.le_refl _)
   refine ⟨.ref _, _, I4.laid (t' := s3.toks) (o := .lst us.reverse) (fun b ob q => Heap.get?_push_of_some _ q) (Nat.le_refl _) ?_, rfl, kk _ us.reverse _ G3 (st13.trans (Step.own st13.sub fr)) (st13.hh.free fr) upd_same (st13.sub.free fr) (q2.mono st3.gg).reverse⟩
   exact ⟨by rw [List.length_reverse]; exact hz, _, 0, rv.reverse, Heap.get?_push_size _ rfl⟩
 · rw [if_neg hk] at hf2; cases hf2
theorem ps_noneF {st : Stmt} : PFS X st (fun _ => none) := by
 intro pins s σ H D I q
 obtain ⟨G0, H0, G, ρ, o, good, hf, k⟩ := q
 cases hf
end
end L2
namespace Att
open PySem PySem.W PySem.Spec PyProof.Rows
theorem bits_of_lay {ns : List Int} (h : WData.layableAll [WData.list (ns.map WData.int)] = true) : ∀ n ∈ ns, Builtin.Int.intBits n <= 1048576 := by
 unfold WData.layableAll WData.layable at h
 rw [List.all_cons, List.all_nil, Bool.and_true, Bool.and_eq_true, decide_eq_true_eq] at h
 have hw := h.2
 unfold WData.weight at hw
 have key : ∀ l : List Int, ∀ n ∈ l, Builtin.Int.intBits n <= WData.weightAll (l.map WData.int) := by
   intro l
   induction l with
   | nil => intro n hn; cases hn
   | cons x r ih =>
     intro n hn
     rw [List.map_cons]
     unfold WData.weightAll
     rcases List.mem_cons.mp hn with e | e
     · subst e
       have : WData.weight (WData.int n) = Builtin.Int.intBits n := by unfold WData.weight Builtin.Int.intBits; rfl
       omega
     · have := ih n e
       omega
 intro n hn
 have := key ns n hn
 have e : (2 : Nat) ^ 20 = 1048576 := by decide
 omega
end Att
namespace Att
open PySem PySem.W PySem.Calls PyProof.Rows
theorem attach_bits {l : OpenLaw} {n : Nat} {q : Program} {loose : List Str} {XP : (Str -> Option Value) -> Heap -> Prop} {YP : World -> Heap -> Prop} {d : DefRec}
   (hn : l.most = some n) (hdf : d.params.defaults = [])
   (run : ∀ (w : World) (s₀ s₁ : Shared) (mg mb : Str -> Option Value) (fa : Addr) (o : Obj) (pm cd doc : Value) (a : Addr) (vs : List Value) (ns : List Int),
     Ground q loose [] XP w s₀ mg mb s₁.heap -> YP w s₁.heap ->
     s₁.heap.get? fa = some o -> o.data = .func (docDef d.name d.params d.body d.scope pm cd doc) -> s₁.heap.CodeRec cd d.name -> mg d.name = some (.ref fa) ->
     s₁.heap.get? a = some { cls := .type "list", data := .seq vs.toArray } -> IntsAre vs ns -> ns.length <= n -> (∀ n ∈ ns, Builtin.Int.intBits n <= 1048576) -> s₁.gens = #[] ->
     codeAny (model l.prog w) callerA (.call (.ref fa) ⟨[.ref a], []⟩) (fun r s' => r = .ok (.ret (.bool true)) /\ OldK s₁.heap s'.heap /\ s'.os = s₁.os /\ AllBare s'.gens) s₁) :
   WalkO q loose XP YP l.row.toRowW d [] (fun f vs => PySem.call f vs) := by
 intro w s₀ s₁ mg mb G Y fa o pm cd doc dV kV ho hd hcd hD hmg hg args vals as hpre hlay hrd hwl hlo
 obtain rfl : dV = .none := Dflts.none hD hdf
 obtain rfl : kV = .none := Dflts.noKw hD
 obtain ⟨a, vs, ns, rfl, rfl, hobj, hints, hlen⟩ := script_of hn hpre hwl
 refine enter_call (codeAny_mono (run w s₀ s₁ mg mb fa o pm cd doc a vs ns G Y ho (fd_plain hd) hcd hmg hobj hints hlen (bits_of_lay hlay) hg) fun r s' hq => ?_)
 obtain ⟨rfl, h2, h3, h4⟩ := hq
 exact ⟨.inl ⟨.bool true, .bool true, [], rfl, fun _ => rfl, .bool true, post_true l _, fun _ => ⟨List.Pairwise.nil, fun _ hm => (nomatch hm)⟩⟩, h2, h3, h4⟩
end Att
namespace L2
open PySem PySem.Spec PyProof.Rows
theorem walk_bits {l : PySem.W.OpenLaw} {n k : Nat} {q : Program} {loose : List Str} {XP : (Str -> Option Value) -> Heap -> Prop} {YP : World -> Heap -> Prop} {d : DefRec} {K : Params -> PySem.W.Frag} {CX : World -> CXT} {sp : World -> Sp} {x : Str}
   (hn : l.most = some n) (hn2 : n <= sizeLine) (hdf : d.params.defaults = []) (hr : Room k callerA)
   (hY : ∀ (w : World) (h : Heap), YP w h -> (K w.params).In h)
   (F : ∀ (w : World) (mg : Str -> Option Value) (fa : Addr) (h : Heap), (K w.params).In h -> h.Ns mainGlobals mg -> mg d.name = some (.ref fa) ->
     ∃ fd : FuncData, (∀ (s : Shared) (u : Value), BindsTo s fd ⟨[u], []⟩ [(x, u)]) /\
       ∀ base : Heap, (K w.params).In base -> base.Ns mainGlobals mg -> FnOk l.prog w (K w.params) mg base (CX w) k fa fd [x] (sp w))
   (hsp : ∀ (w : World) (H : Hp) (a : Addr) (ns : List Int), ns.length <= n -> (∀ n ∈ ns, Builtin.Int.intBits n <= 1048576) -> Only H -> SqL (K w.params) H a (ns.map V.int) -> sp w [.ref a] H (fun v _ => v = .bl true) fun _ _ _ => False)
   (hCX : ∀ (w : World) (H : Hp) (s : Shared) (e : Value) (s' : Shared), CX w [] H s (fun _ _ _ => False) e s' -> False) :
   PySem.W.WalkO q loose XP YP l.row.toRowW d [] (fun f vs => PySem.call f vs) := by
 refine Att.attach_bits hn hdf fun w s₀ s₁ mg mb fa o pm cd doc a vs ns G Y ho hd hcd hmg hobj hints hlen hbits hg => ?_
 have KX := hY w _ Y
 obtain ⟨fd, hb, hF⟩ := F w mg fa _ KX G.T.g hmg
 exact law_call KX G.T.g G.T.b G.T.builtins G.T.nolimit hg hobj hints (Nat.le_trans hlen hn2) hr hF hb (fun H hO hS => hsp w H a ns hlen hbits hO hS) fun H e s' => hCX w H s₁ e s'
end L2
namespace L2
open PySem PySem.Spec PyProof.Rows
section
variable {X : Cx} {a b c e : Expr} {fa fb fc : Ef} {pos : Pos}
theorem pt_chainF {op op' : CmpOp} {g g' : D -> D -> Option Bool} (hc1 : CmR X op g) (hc2 : CmR X op' g') (ha : PF X a fa) (hb : PF X b fb) (hc : PF X c fc) (hm : lastMarks [op, op'] [b, c] = false := by with_unfolding_all rfl) : PFT X (.Compare a [op, op'] [b, c] pos) (eB3 g g' fa fb fc) := by
 obtain ⟨r, ho, hr⟩ := hc1
 obtain ⟨r', ho', hr'⟩ := hc2
 refine PT.to (pt_chain ho ho' ha hb hc hm) ?_
 rintro σ H Q ⟨G0, H0, G, ρ, b', good, hf2, k⟩
 unfold eB3 at hf2
 obtain ⟨x, h1, hf2⟩ := Option.bind_eq_some_iff.mp hf2
 obtain ⟨y, h2, hf2⟩ := Option.bind_eq_some_iff.mp hf2
 obtain ⟨kk, h3, hf2⟩ := Option.bind_eq_some_iff.mp hf2
 refine ⟨G0, H0, G, ρ, _, good, h1, fun u H1 G1 s1 r1 => ⟨G0, H0, G1, ρ, _, good.step s1, h2, fun v H2 G2 s2 r2 => ?_⟩⟩
 refine hr x y kk G2 H2 u v _ h3 s2.sub (r1.mono s2.gg) r2 fun H3 G3 s3 => ⟨kk, rfl, ?_⟩
 split at hf2
 · rename_i hk
   rw [if_pos hk]
   obtain ⟨z, h4, hf3⟩ := Option.bind_eq_some_iff.mp hf2
   refine ⟨G0, H0, G3, ρ, _, ((good.step s1).step s2).step s3, h4, fun w' H4 G4 s4 r4 => ?_⟩
   exact hr' y z b' G4 H4 v w' _ hf3 s4.sub ((r2.mono s3.gg).mono s4.gg) r4 fun H5 G5 s5 => ⟨b', rfl, k _ G5 ((((s1.trans s2).trans s3).trans s4).trans s5)⟩
 · rename_i hk
   rw [if_neg hk]; cases hf2
   exact ⟨false, rfl, k _ G3 ((s1.trans s2).trans s3)⟩
end
end L2
namespace L2
open PySem PySem.Spec PyProof.Rows
def tStr (K : PySem.W.Frag) (p : List B -> Bool) : TE := fun σ H Q => ∃ G0 H0 G ρ, Good K G0 H0 G H σ ρ /\ p ρ = true /\ ∀ y H' G', Step G H G' H' -> Str.length y <= 20000 -> Q (.str y) H'
def PStr (X : Cx) (e : Expr) (p : List B -> Bool) : Prop := PE X e (tStr X.K p)
def okI (i : Int) : Bool := decide (i.natAbs.log2 < 1920)
section
variable {X : Cx} {e : Expr} {es : List Expr} {fa : Ef} {p q : List B -> Bool} {pos : Pos} {k : Nat}
theorem int_len {i : Int} (h : okI i = true) : (Str.ofString (toString i)).length <= 1921 := by
 have := int_text_length_le (k := 1920) (by decide) (of_decide_eq_true h)
 rw [PySem.ofString_length]; omega
theorem str_int (h : PF X e fa) : PStr X (.FormattedValue e (-1) none pos) (fun ρ => match fa ρ with | some (.int i) => okI i | _ => false) := by
 intro pins s σ H Q I h'
 obtain ⟨G0, H0, G, ρ, good, hp, k⟩ := h'
 dsimp only at hp
 split at hp
 · rename_i i hi
   refine FormattedValue_plain (thn (h pins s σ H (fun v H1 => ∃ G1, Step G H G1 H1 /\ v = .int i) I ⟨G0, H0, G, ρ, _, good, hi, fun v H1 G1 s1 r1 => ⟨G1, s1, rep_int.mp r1⟩⟩) fun v s1 ⟨x, H1, I1, r1, G1, st1, e1⟩ => ?_)
   subst e1
   obtain ⟨t, rfl⟩ := r1
   exact formatField_int_small (of_decide_eq_true hp) ⟨.str _, H1, I1.tok _, ⟨_, rfl⟩, k _ H1 G1 st1 (by have := int_len hp; omega)⟩
 · cases hp
theorem any_text {y : Str} {j : Nat} (hs : starEach [Expr.Constant (.str y) j pos] X.env = [(false, eval (.Constant (.str y) j pos) X.env)] := by rfl) : PAny X [.Constant (.str y) j pos] (fun _ => true) := by
 intro pos' pins s σ H Q I h'
 obtain ⟨G0, H0, G, ρ, good, hp, k⟩ := h'
 exact pa_cons pe_str pa_nil (by rw [hs]; rfl) pos' pins s σ H Q I (k [.str y] H G (.refl good.sub) (Nat.le_of_ble_eq_true rfl))
end
end L2
namespace L2
open PySem PySem.Spec PyProof.Rows
def IsyOk (K : PySem.W.Frag) (its : List Value) : List (Str × Bool) -> Prop
 | [] => True
 | (c, b) :: r => (∃ C, ClsAt K c C /\ XKit K C /\ PySem.W.kitAny K (.ref C) its = some b) /\ IsyOk K its r
theorem IsyOk.at {K : PySem.W.Frag} {its : List Value} : ∀ {tb : List (Str × Bool)} {c : Str} {b : Bool}, IsyOk K its tb -> tb.lookup c = some b -> ∃ C, ClsAt K c C /\ XKit K C /\ PySem.W.kitAny K (.ref C) its = some b
 | [], _, _, _, h => by cases h
 | (n, x) :: r, c, b, ⟨h1, h2⟩, h => by
   rw [List.lookup_cons] at h
   cases hq : c == n with
   | true =>
     rw [hq] at h; cases h
     have e := beq_iff_eq.mp hq
     subst e
     exact h1
   | false => rw [hq] at h; exact h2.at h
def isyIn (K : PySem.W.Frag) (its : List Value) (l : List (Addr × Bool)) : Bool := l.all fun x => PySem.W.kitAny K (.ref x.1) its == some x.2
theorem isy_nil {K : PySem.W.Frag} {its : List Value} : IsyOk K its [] := True.intro
theorem isy_cons {K : PySem.W.Frag} {its : List Value} {C : Addr} {c : Str} {b : Bool} {r : List (Addr × Bool)} {tb : List (Str × Bool)} (ca : ClsAt K c C) (k : XKit K C) (h : isyIn K its ((C, b) :: r) = true) (rest : isyIn K its r = true -> IsyOk K its tb) : IsyOk K its ((c, b) :: tb) := by
 unfold isyIn at h
 rw [List.all_cons, Bool.and_eq_true] at h
 exact ⟨⟨C, ca, k, beq_iff_eq.mp h.1⟩, rest h.2⟩
def refsV (cs : List Addr) : List V := cs.map .ref
def refsW (cs : List Addr) : List Value := cs.map .ref
theorem vals_refs : ∀ {cs : List Addr} {us : List Value}, Vals (refsV cs) us -> us = refsW cs
 | [], _, h => by cases h; rfl
 | c :: r, _, h => by
   cases h with
   | cons h1 h2 =>
     have e := vals_refs h2
     subst e
     cases h1
     rfl
def tCs (vs : List V) : TA := fun _ H Q => Q vs H
section
variable {X : Cx} {a b c e : Expr} {es : List Expr} {fa : Ef} {pos p : Pos}
theorem pa_cs_nil : PA X [] (tCs (refsV [])) := pa_nil
theorem pa_cs_cons {C : Addr} {cs : List Addr} (h : PE X e (tC (.ref C))) (hr : PA X es (tCs (refsV cs))) (hs : starEach (e :: es) X.env = (false, eval e X.env) :: starEach es X.env := by rfl) : PA X (e :: es) (tCs (refsV (C :: cs))) := pa_cons h hr hs
theorem call_isy {cs : List Addr} {tb : List (Str × Bool)} (h : IsyOk X.K (refsW cs) tb) : CallR X (.builtin "isinstance") (fun xs H Q => ∃ x G c ns ds b q, xs = [x, .ref q] /\ Rd H q (.tup (refsV cs)) /\ Same G H /\ Rep X.K G (.exc c ns ds) x /\ tb.lookup c = some b /\ Q (.bl b) H) := by
 intro pins s σ H xs us Q I r hh
 obtain ⟨x, G, c, ns, ds, b, q, rfl, hq, sub, rx, ht, k⟩ := hh
 obtain ⟨u, u', rfl, ru, ru'⟩ := vals2 r
 cases ru'
 obtain ⟨C, hC, hk, ho⟩ := h.at ht
 obtain ⟨C', a, od, vs, h0, rfl, h1, _⟩ := rep_exc.mp rx
 have ec := hC.one h0
 subst ec
 cases ru
 obtain ⟨⟨fs, h2⟩, _⟩ := (show ObjOk X.prog X.w H s.heap a (.ext _) from I.hok a _ (sub _ _ h1))
 obtain ⟨its, rv, ⟨o, t1, t2, n, t3⟩, _⟩ := I.tuple (.inl hq)
 have ei := vals_refs rv
 subst ei
 obtain ⟨oc, od', oda, osl⟩ := o
 cases t2
 cases t3
 exact PySem.W.kia_tup (kitx_exc hk.cl hk.ga hk.gt hk.gc hk.so hk.sb) I.kIn ⟨_, h2, rfl⟩ t1 ho (fun z => nomatch z) fun tk => ⟨.bl b, H, I.tok tk, rfl, k⟩
theorem pf_isy {cs : List Addr} {tb : List (Str × Bool)} {k1 : Nat} {p1 : Pos} (hok : IsyOk X.K (refsW cs) tb) (hcs : PA X es (tCs (refsV cs))) (hl : cs.length <= 1000) (hg : Gl X "isinstance") (hm : X.mg "isinstance" = none) (h : PF X a fa)
   (hs : starEach [a, .Tuple es k1 p1] X.env = [(false, eval a X.env), (false, eval (.Tuple es k1 p1) X.env)] := by rfl) : PF X (.Call (.Name "isinstance" p) [a, .Tuple es k1 p1] [] pos) (eIsX tb fa) := by
 refine PE.to (pe_callB (call_isy (cs := cs) hok) hg hm (by rfl) (pa_cons h (pa_cons (pe_tup (x1 := k1) hcs) pa_nil) (by rw [hs]; rfl)) (by decide) (by decide) (by rw [hs]; rfl) (by rfl)) ?_
 rintro σ H Q ⟨G0, H0, G, ρ, d, good, hf, k⟩
 unfold eIsX at hf
 obtain ⟨x, h1, hf⟩ := Option.bind_eq_some_iff.mp hf
 cases x with
 | exc c ns ds =>
   obtain ⟨b, h2, rfl⟩ := Option.map_eq_some_iff.mp hf
   refine ⟨G0, H0, G, ρ, _, good, h1, fun v H1 G1 s1 r1 => ⟨?_, fun q hq => ?_⟩⟩
   · rw [sizeLine_eq, refsV, List.length_map]; omega
   · have s2 := Step.laid (o := .tup (refsV cs)) s1.sub hq
     exact ⟨v, _, c, ns, ds, b, q, rfl, .of upd_same, s2.sub, r1.mono s2.gg, h2, k _ _ _ (s1.trans s2) (rep_bl.mpr rfl)⟩
 | _ => cases hf
end
end L2
namespace L2
open PySem PySem.Spec PyProof.Rows
def qNil : List B -> Bool := fun _ => true
def xRaise (c : Str) (q : List B -> Bool) : List B -> Option Str := fun ρ => if q ρ then some c else none
def xIf (tt : Tf) (xa xb : List B -> Option Str) : List B -> Option Str := fun ρ => (tt ρ).bind fun c => if c = true then xa ρ else xb ρ
def xCall (n : Nat) (xf : List D -> Option Str) (ga : Lf) : List B -> Option Str := fun ρ => (ga ρ).bind fun ds => if ds.length = n then xf ds else none
def xNil : List B -> Option Str := fun _ => none
def fnX (n : Nat) (xb : List B -> Option Str) : List D -> Option Str := fun ds => xb (startB n ds)
section
variable {X : Cx} {E : XK} {e : Expr} {es : List Expr} {fa : Ef} {p q : List B -> Bool} {pos : Pos} {x : List B -> Option Str}
theorem any_c {y : Str} {j : Nat} (hs : starEach [Expr.Constant (.str y) j pos] X.env = [(false, eval (.Constant (.str y) j pos) X.env)] := by rfl) : PAny X [.Constant (.str y) j pos] qNil := any_text hs
theorem px_set (i : Nat) {y : Str} {pos' : Pos} (hN : X.N.Nodup) (he : PXE X E e x) (hi : X.N[i]? = some y := by rfl) (hx : Loc X.env.scope y := by first | exact .inl rfl | exact .inr rfl) (hs : swapsWith e (some (.Name y pos')) pos.line X.env = pure false := by rfl)
   (hf : X.fn y = true ∨ X.env.scope.names.lookup y = some .local := by first | exact .inl rfl | exact .inr rfl) : PXS X E (.Assign [.Name y pos'] e pos) x :=
 fun pins s σ H D I h => ps_set hN hi hx he hs hf pins s σ H D I h
theorem pss_noneF {sts : List Stmt} : PFSs X sts (fun _ => none) := by
 intro pins s σ H D I q
 obtain ⟨G0, H0, G, ρ, o, good, hf, k⟩ := q
 cases hf
end
section
variable {P : Program} {w : World} {K : PySem.W.Frag} {mg : Str -> Option Value} {base : Heap} {N : List Str} {qual : Str} {scope : Scope} {f : Addr} {cd : Value} {A : Around} {outer : List Env} {s₀ : Shared} {H₀ : Hp} {E : XK}
theorem throwsQ : Throws (cxOf (CXq P w) P w K mg base N qual scope f cd A outer s₀ H₀ E) E := fun pins σ H s C a I fl hE => xe_of I fl hE
theorem passesQ : Passes (CXq P w) (cxOf (CXq P w) P w K mg base N qual scope f cd A outer s₀ H₀ E) E := passQ fun _ _ h => h
theorem PXB.nox {X : Cx} {st : Stmt} {xb : List B -> Option Str} (h : PXB X.nox st xb) : PXB X st xb := fun pins s σ H R G0 H0 G ρ c C I good hq hC k => h pins s σ H R G0 H0 G ρ c C (I.wish _) good hq hC fun s2 H2 G2 e s' I2 st hx => k s2 H2 G2 e s' I2.unwish st hx
theorem noxe {X : Cx} : ∀ e s, ¬ X.nox.xe e s := fun _ _ z => z
end
section
variable {X : Cx} {E : XK} {a e : Expr} {es : List Expr} {ga : Lf} {tt : Tf} {x xa xb : List B -> Option Str} {pos p cpos : Pos} {st st' : Stmt} {sts rest : List Stmt}
theorem px_nilX : PXSs X E [] xNil := px_nil
theorem px_ifX (ht : PFT X a tt) (h1 : PXSs X E sts xa) (h2 : PXSs X E rest xb) : PXS X E (.If a sts rest pos) (xIf tt xa xb) := px_if ht h1 h2
theorem px_raiseX {C : Addr} {c : Str} {q : List B -> Bool} (hC : ClsAt X.K c C) (M : XCls X.K C) (hx : X.ex = []) (hm : X.mg c = some (.ref C)) (kp : PySem.W.keepIn X.K (.ref C) = true) (hg : Gl X c) (hc : X.calm = true) (th : Throws X E) (ha : PAny X (e :: es) q) (hdb : (c == ("__debug__" : Str)) = false := by decide)
   (he : starEach (e :: es) X.env = (false, eval e X.env) :: starEach es X.env := by rfl) (hpl : (backTo cpos (starEach es X.env)).any (·.1) = false := by rfl) : PXS X E (.Raise (some (.Call (.Name c p) (e :: es) [] cpos)) none pos) (xRaise c q) := px_raise hC M hx hm kp hg hc th ha hdb he hpl
theorem px_callX {k n : Nat} {fad : Addr} {fd : FuncData} {ps : List Str} {y : Str} {d : List D -> Option D} {xf : List D -> Option Str} (F : FnOk X.prog X.w X.K X.mg X.base (CXq X.prog X.w) k fad fd ps (spQ X.K n d xf)) (hp : Passes (CXq X.prog X.w) X E) (hr : Room k X.A) (hm : X.mg y = some (.ref fad)) (hk : PySem.W.keepIn X.K (.ref fad) = true) (hb : Binds X.K fd ps []) (hg : Gl X y)
   (ha : PFA X (e :: es) ga) (hdb : (y == ("__debug__" : Str)) = false := by decide) (he : starEach (e :: es) X.env = (false, eval e X.env) :: starEach es X.env := by rfl) (hpl : (backTo pos (starEach es X.env)).any (·.1) = false := by rfl) :
   PXE X E (.Call (.Name y p) (e :: es) [] pos) (xCall n xf ga) := px_call F hp hr hm hk hb hg ha hdb he hpl
theorem pxb_callX {k n : Nat} {fad : Addr} {fd : FuncData} {ps : List Str} {y : Str} {d : List D -> Option D} {xf : List D -> Option Str} (hno : ∀ e s, ¬ X.xe e s) (F : FnOk X.prog X.w X.K X.mg X.base (CXq X.prog X.w) k fad fd ps (spQ X.K n d xf)) (hr : Room k X.A) (hm : X.mg y = some (.ref fad)) (hk : PySem.W.keepIn X.K (.ref fad) = true) (hb : Binds X.K fd ps []) (hg : Gl X y)
   (ha : PFA X (e :: es) ga) (hdb : (y == ("__debug__" : Str)) = false := by decide) (he : starEach (e :: es) X.env = (false, eval e X.env) :: starEach es X.env := by rfl) (hpl : (backTo cpos (starEach es X.env)).any (·.1) = false := by rfl) (hs : swapsWith (.Call (.Name y p) (e :: es) [] cpos) none pos.line X.env = pure false := by rfl) :
   PXB X (.Expr (.Call (.Name y p) (e :: es) [] cpos) pos) (xCall n xf ga) := pxb_call hno F hr hm hk hb hg ha hdb he hpl hs
theorem pxb_ifX (hno : ∀ e s, ¬ X.xe e s) (ht : PFT X a tt) (h1 : PXB X st xa) (h2 : PXB X st' xb) : PXB X (.If a [st] [st'] pos) (xIf tt xa xb) := pxb_if hno ht h1 h2
def ExOk (K : PySem.W.Frag) (Y : Addr) : List Str -> Prop
 | [] => True
 | c :: r => (∃ C, ClsAt K c C /\ PySem.W.exmOne K (.ref C) (.ref Y) = some true) /\ ExOk K Y r
theorem ExOk.at {K : PySem.W.Frag} {Y : Addr} : ∀ {cs : List Str} {c : Str}, ExOk K Y cs -> cs.contains c = true -> ∃ C, ClsAt K c C /\ PySem.W.exmOne K (.ref C) (.ref Y) = some true
 | [], c, _, h => by cases h
 | n :: r, c, ⟨h1, h2⟩, h => by
   rw [List.contains_cons, Bool.or_eq_true] at h
   rcases h with h | h
   · have e := beq_iff_eq.mp h
     subst e
     exact h1
   · exact h2.at h
theorem ps_tryX {cs : List Str} {Y : Addr} {i : Nat} {n y : Str} {yp hp : Pos} {b₀ : Stmt} {suite : List Stmt} {f : Sf} (ok : ExOk X.K Y cs) (hb : PXB X.nox st xb)
   (hst : X.stack = X.env :: X.outer) (hef : X.env.frame = some X.env.locals) (hg : Gl X y) (hm : X.mg y = some (.ref Y)) (hN : X.N.Nodup) (hh : ∀ a, PFSs (X.marked a fun _ _ => False) (b₀ :: suite) f)
   (hi : X.N[i]? = some n := by rfl) (hk : X.env.kindOf n = some .local := by rfl) (hl : Loc X.env.scope n := by first | exact .inl rfl | exact .inr rfl) (hf : X.fn n = true ∨ X.env.scope.names.lookup n = some .local := by first | exact .inl rfl | exact .inr rfl) (hdb : (y == ("__debug__" : Str)) = false := by decide) :
   PFS X (.Try [st] [.ExceptHandler (some (.Name y yp)) (some n) (b₀ :: suite) hp] [] [] pos) (sTry cs xb i f) :=
 ps_tryF hb.nox (fun c C hc hC => by obtain ⟨C', h1, h2⟩ := ok.at hc; have e := h1.one hC; subst e; exact h2) hst hef hg hm (fun c hc => by obtain ⟨C', h1, _⟩ := ok.at hc; exact ⟨C', h1⟩) hN hh hi hk hl hf hdb
end
section
variable {P : Program} {w : World} {K : PySem.W.Frag} {mg : Str -> Option Value} {base : Heap} {x qual : Str} {st : Stmt} {f : Addr} {fd : FuncData} {N ps : List Str} {k : Nat}
theorem PFSs.nox {X : Cx} {sts : List Stmt} {g : Sf} (h : PFSs X.nox sts g) : PFSs X sts g := fun pins s σ H D I hw =>
 wpAny_mono (h pins s σ H D (I.wish _) hw) (fun _ _ q => q.unwish) fun _ _ z => False.elim z
theorem ok_fnX {body : Sf} {xb : List B -> Option Str} (F : Fun K x qual st f fd) (S : FnScope N ps (defScope st))
   (hb : ∀ (cdv : Value) (A : Around) (outer : List Env) (s : Shared) (H : Hp) (E : XK), Room k (A.deeper (envOfC qual (defScope st) s.heap.objs.size f cdv)) -> PFSs (cxOf (CXq P w) P w K mg base N qual (defScope st) f cdv A outer s H E).nox (defBody st) body)
   (hx : ∀ (cdv : Value) (A : Around) (outer : List Env) (s : Shared) (H : Hp) (E : XK), Room k (A.deeper (envOfC qual (defScope st) s.heap.objs.size f cdv)) -> PXSs (cxOf (CXq P w) P w K mg base N qual (defScope st) f cdv A outer s H E) E (defBody st) xb) :
   FnOk P w K mg base (CXq P w) (k + 1) f fd ps (spQ K ps.length (fnF N.length body) (fnX N.length xb)) :=
 ok_fnQ F S (fun cdv A outer s H E hr => (hb cdv A outer s H E hr).nox) hx
end
end L2
namespace L2
open PySem PySem.Spec PyProof.Rows
theorem rt_out (o : Option D) : (o.map Out.rt).bind outD = o := by cases o <;> rfl
theorem sSeq_nx {f g : Sf} {ρ ρ' : List B} (h : f ρ = some (.nx ρ')) : sSeq f g ρ = g ρ' := by unfold sSeq; rw [h]; rfl
theorem seq_out {f g : Sf} {ρ ρ' : List B} {r : Option D} (h : f ρ = some (.nx ρ')) (k : (g ρ').bind outD = r) : (sSeq f g ρ).bind outD = r := by rw [sSeq_nx h]; exact k
theorem sSeq_rt {f g : Sf} {ρ : List B} {d : D} (h : f ρ = some (.rt d)) : sSeq f g ρ = some (.rt d) := by unfold sSeq; rw [h]; rfl
theorem forF_nx {g : Gf} {body : Sf} {d : D} {r : List D} {ρ ρ1 ρ2 : List B} (h1 : g d ρ = some ρ1) (h2 : body ρ1 = some (.nx ρ2)) : forF g body (d :: r) ρ = forF g body r ρ2 := by
 rw [forF, h1, Option.bind_some, h2, Option.bind_some]
theorem aCons_eq {f : Ef} {g : Lf} {ρ : List B} {d : D} {ds : List D} (h1 : f ρ = some d) (h2 : g ρ = some ds) : aCons f g ρ = some (d :: ds) := by unfold aCons; rw [h1, h2]; rfl
theorem eL_eq {g : Lf} {ρ : List B} {ds : List D} (h : g ρ = some ds) : eL g ρ = some (.lst ds) := by unfold eL; rw [h]; rfl
theorem eCall_eq {n : Nat} {f : List D -> Option D} {g : Lf} {ρ : List B} {ds : List D} (h : g ρ = some ds) (hl : ds.length = n) : eCall n f g ρ = f ds := by unfold eCall; rw [h, Option.bind_some, if_pos hl]
theorem eMake_eq {c : Str} {ns : List Str} {n : Nat} {f : List D -> Option (List D)} {g : Lf} {ρ : List B} {ds xs : List D} (h : g ρ = some ds) (hl : ds.length = n) (hf : f ds = some xs) (hn : ns.length = xs.length) : eMake c ns n f g ρ = some (.obj c ns xs) := by
 unfold eMake; rw [h, Option.bind_some, if_pos hl, hf, Option.bind_some, if_pos hn]
theorem forF_all {g : Gf} {body : Sf} {P : List B -> Prop} : ∀ (ds : List D), (∀ d ∈ ds, ∀ ρ, P ρ -> ∃ ρ1 ρ2, g d ρ = some ρ1 /\ body ρ1 = some (.nx ρ2) /\ P ρ2) -> ∀ ρ, P ρ -> ∃ ρ', forF g body ds ρ = some (.nx ρ') /\ P ρ'
 | [], _, ρ, h => ⟨ρ, rfl, h⟩
 | d :: r, hs, ρ, h => by
   obtain ⟨ρ1, ρ2, e1, e2, h2⟩ := hs d List.mem_cons_self ρ h
   obtain ⟨ρ', e, h'⟩ := forF_all r (fun d hd => hs d (List.mem_cons_of_mem _ hd)) ρ2 h2
   exact ⟨ρ', by rw [forF_nx e1 e2]; exact e, h'⟩
theorem mem_upto {lo : Int} {n : Nat} {d : D} (h : d ∈ upto lo n) : ∃ i : Nat, i < n /\ d = .int (lo + i) := by
 unfold upto at h
 obtain ⟨i, hi, rfl⟩ := List.mem_map.mp h
 exact ⟨i, List.mem_range.mp hi, rfl⟩
theorem upto_len (lo : Int) (n : Nat) : (upto lo n).length = n := by simp [upto]
theorem mapF_one {elt : Ef} {h : D -> D} {rest : List B} : ∀ (ds : List D) (x0 : B) (acc : List D), (∀ d ∈ ds, elt (.fz d :: rest) = some (h d)) -> mapF (gN 0) tOK elt ds (x0 :: rest) acc = some (acc ++ ds.map h)
 | [], _, acc, _ => by simp [mapF]
 | d :: r, x0, acc, hh => by
   unfold mapF
   have e1 : gN 0 d (x0 :: rest) = some (.fz d :: rest) := rfl
   have e2 : tOK (.fz d :: rest) = some true := rfl
   rw [e1, Option.bind_some, e2, Option.bind_some, if_pos rfl, hh d List.mem_cons_self, Option.bind_some, mapF_one r _ _ fun q hq => hh q (List.mem_cons_of_mem _ hq)]
   simp
theorem blsD_map {α : Type} (p : α -> Bool) : ∀ l : List α, blsD (l.map fun c => .bl (p c)) = some (l.map p)
 | [] => rfl
 | x :: r => by rw [List.map_cons, blsD, blsD_map p r]; rfl
theorem okL_le {t : List D} (h : t.length <= 100000) : okL t = some t := by
 unfold okL
 rw [if_pos h]
theorem atI_getD {α : Type} (xs : List α) (i : Int) (d : α) (h0 : 0 <= i) (h1 : i < xs.length) : atI xs i = some (xs.getD i.toNat d) := by
 unfold atI ixN
 rw [if_pos h0, if_pos h1]
 have : i.toNat < xs.length := by omega
 simp [List.getD, this]
theorem atI_map {α β : Type} (f : α -> β) (xs : List α) (i : Int) : atI (xs.map f) i = (atI xs i).map f := by
 unfold atI
 rw [List.length_map]
 cases ixN xs.length i with
 | none => rfl
 | some j => simp
theorem cMul_l {i j : Int} (h1 : -18446744073709551616 < i) (h2 : i < 18446744073709551616) : cMul i j = true := by
 unfold cMul; simp only [Bool.or_eq_true, Bool.and_eq_true, decide_eq_true_eq]; exact .inl ⟨by omega, by omega⟩
theorem cMul_r {i j : Int} (h1 : -18446744073709551616 < j) (h2 : j < 18446744073709551616) : cMul i j = true := by
 unfold cMul; simp only [Bool.or_eq_true, Bool.and_eq_true, decide_eq_true_eq]; exact .inr ⟨by omega, by omega⟩
end L2
namespace My
open PySem L2
abbrev s_law_mix : Stmt := top 33
abbrev s_law_level : Stmt := top 46
abbrev s_law_curve : Stmt := top 45
abbrev s_law_off : Stmt := top 47
abbrev s_law_base : Stmt := top 39
abbrev s_law_turn : Stmt := top 38
abbrev s_law_after : Stmt := top 36
abbrev s_law_undone : Stmt := top 37
abbrev s_law_turned : Stmt := top 35
abbrev s_law_joined : Stmt := top 40
abbrev s_law_altered : Stmt := top 43
abbrev s_law_corners : Stmt := top 41
abbrev s_law_loose : Stmt := top 42
abbrev s_law_drawn : Stmt := top 44
abbrev s_full : Stmt := top 23
abbrev s_still : Stmt := top 2
abbrev s_first_state : Stmt := top 8
abbrev s_digits_of : Stmt := top 27
abbrev s_walked : Stmt := top 11
abbrev s_after : Stmt := top 3
abbrev s_turned : Stmt := top 1
abbrev s_part_at : Stmt := top 9
abbrev s_deeper : Stmt := top 28
abbrev s_place_at : Stmt := top 26
abbrev s_places_around : Stmt := top 31
abbrev s_neighbours : Stmt := top 30
abbrev s_has_place : Stmt := top 24
abbrev s_ask_place : Stmt := top 25
abbrev s_undone : Stmt := top 4
abbrev s_digit_at : Stmt := top 10
abbrev s_number_at : Stmt := top 29
abbrev s_law_refused : Stmt := top 48
abbrev s_law_same : Stmt := top 34
abbrev s_law : Stmt := top 49
abbrev si_Curve : Stmt := inClass (top 7) 0
abbrev si_Part : Stmt := inClass (top 6) 0
set_option genInjectivity false
set_option genSizeOf false
set_option genSizeOfSpec false
structure Txt (K : PySem.W.Frag) (mg : Str -> Option Value) where
 f_law_mix : Addr
 fd_law_mix : FuncData
 F_law_mix : Fun K "_law_mix" "_law_mix" s_law_mix f_law_mix fd_law_mix
 b_law_mix : Binds K fd_law_mix ["_law_cell", "_law_factor"] []
 m_law_mix : mg "_law_mix" = some (.ref f_law_mix)
 f_law_level : Addr
 fd_law_level : FuncData
 F_law_level : Fun K "_law_level" "_law_level" s_law_level f_law_level fd_law_level
 b_law_level : Binds K fd_law_level ["_law_number"] []
 m_law_level : mg "_law_level" = some (.ref f_law_level)
 f_law_curve : Addr
 fd_law_curve : FuncData
 F_law_curve : Fun K "_law_curve" "_law_curve" s_law_curve f_law_curve fd_law_curve
 b_law_curve : Binds K fd_law_curve ["_law_dims", "_law_joined_here", "_law_parts"] []
 m_law_curve : mg "_law_curve" = some (.ref f_law_curve)
 f_law_off : Addr
 fd_law_off : FuncData
 F_law_off : Fun K "_law_off" "_law_off" s_law_off f_law_off fd_law_off
 b_law_off : Binds K fd_law_off ["_law_low", "_law_high", "_law_draw", "_law_far"] []
 m_law_off : mg "_law_off" = some (.ref f_law_off)
 f_law_base : Addr
 fd_law_base : FuncData
 F_law_base : Fun K "_law_base" "_law_base" s_law_base f_law_base fd_law_base
 b_law_base : Binds K fd_law_base ["_law_dims"] []
 m_law_base : mg "_law_base" = some (.ref f_law_base)
 f_law_turn : Addr
 fd_law_turn : FuncData
 F_law_turn : Fun K "_law_turn" "_law_turn" s_law_turn f_law_turn fd_law_turn
 b_law_turn : Binds K fd_law_turn ["_law_number", "_law_dims"] []
 m_law_turn : mg "_law_turn" = some (.ref f_law_turn)
 f_law_after : Addr
 fd_law_after : FuncData
 F_law_after : Fun K "_law_after" "_law_after" s_law_after f_law_after fd_law_after
 b_law_after : Binds K fd_law_after ["_law_one", "_law_other"] []
 m_law_after : mg "_law_after" = some (.ref f_law_after)
 f_law_undone : Addr
 fd_law_undone : FuncData
 F_law_undone : Fun K "_law_undone" "_law_undone" s_law_undone f_law_undone fd_law_undone
 b_law_undone : Binds K fd_law_undone ["_law_turn_here"] []
 m_law_undone : mg "_law_undone" = some (.ref f_law_undone)
 f_law_turned : Addr
 fd_law_turned : FuncData
 F_law_turned : Fun K "_law_turned" "_law_turned" s_law_turned f_law_turned fd_law_turned
 b_law_turned : Binds K fd_law_turned ["_law_turn_here", "_law_corner"] []
 m_law_turned : mg "_law_turned" = some (.ref f_law_turned)
 f_law_joined : Addr
 fd_law_joined : FuncData
 F_law_joined : Fun K "_law_joined" "_law_joined" s_law_joined f_law_joined fd_law_joined
 b_law_joined : Binds K fd_law_joined ["_law_dims", "_law_number"] []
 m_law_joined : mg "_law_joined" = some (.ref f_law_joined)
 f_law_altered : Addr
 fd_law_altered : FuncData
 F_law_altered : Fun K "_law_altered" "_law_altered" s_law_altered f_law_altered fd_law_altered
 b_law_altered : Binds K fd_law_altered ["_law_dims", "_law_cell"] []
 m_law_altered : mg "_law_altered" = some (.ref f_law_altered)
 f_law_corners : Addr
 fd_law_corners : FuncData
 F_law_corners : Fun K "_law_corners" "_law_corners" s_law_corners f_law_corners fd_law_corners
 b_law_corners : Binds K fd_law_corners ["_law_dims"] []
 m_law_corners : mg "_law_corners" = some (.ref f_law_corners)
 f_law_loose : Addr
 fd_law_loose : FuncData
 F_law_loose : Fun K "_law_loose" "_law_loose" s_law_loose f_law_loose fd_law_loose
 b_law_loose : Binds K fd_law_loose ["_law_dims", "_law_cell"] []
 m_law_loose : mg "_law_loose" = some (.ref f_law_loose)
 f_law_drawn : Addr
 fd_law_drawn : FuncData
 F_law_drawn : Fun K "_law_drawn" "_law_drawn" s_law_drawn f_law_drawn fd_law_drawn
 b_law_drawn : Binds K fd_law_drawn ["_law_dims", "_law_cell"] []
 m_law_drawn : mg "_law_drawn" = some (.ref f_law_drawn)
 f_full : Addr
 fd_full : FuncData
 F_full : Fun K "full" "full" s_full f_full fd_full
 b_full : Binds K fd_full ["dims", "level"] []
 m_full : mg "full" = some (.ref f_full)
 f_still : Addr
 fd_still : FuncData
 F_still : Fun K "still" "still" s_still f_still fd_still
 b_still : Binds K fd_still ["dims"] []
 m_still : mg "still" = some (.ref f_still)
 f_first_state : Addr
 fd_first_state : FuncData
 F_first_state : Fun K "first_state" "first_state" s_first_state f_first_state fd_first_state
 b_first_state : Binds K fd_first_state ["dims"] []
 m_first_state : mg "first_state" = some (.ref f_first_state)
 f_digits_of : Addr
 fd_digits_of : FuncData
 F_digits_of : Fun K "digits_of" "digits_of" s_digits_of f_digits_of fd_digits_of
 b_digits_of : Binds K fd_digits_of ["number", "base", "many"] []
 m_digits_of : mg "digits_of" = some (.ref f_digits_of)
 f_walked : Addr
 fd_walked : FuncData
 F_walked : Fun K "walked" "walked" s_walked f_walked fd_walked
 b_walked : Binds K fd_walked ["curve", "back", "number"] []
 m_walked : mg "walked" = some (.ref f_walked)
 f_after : Addr
 fd_after : FuncData
 F_after : Fun K "after" "after" s_after f_after fd_after
 b_after : Binds K fd_after ["one", "other"] []
 m_after : mg "after" = some (.ref f_after)
 f_turned : Addr
 fd_turned : FuncData
 F_turned : Fun K "turned" "turned" s_turned f_turned fd_turned
 b_turned : Binds K fd_turned ["turn", "corner"] []
 m_turned : mg "turned" = some (.ref f_turned)
 f_part_at : Addr
 fd_part_at : FuncData
 F_part_at : Fun K "part_at" "part_at" s_part_at f_part_at fd_part_at
 b_part_at : Binds K fd_part_at ["curve", "state", "digit"] []
 m_part_at : mg "part_at" = some (.ref f_part_at)
 f_deeper : Addr
 fd_deeper : FuncData
 F_deeper : Fun K "deeper" "deeper" s_deeper f_deeper fd_deeper
 b_deeper : Binds K fd_deeper ["place", "corner"] []
 m_deeper : mg "deeper" = some (.ref f_deeper)
 f_place_at : Addr
 fd_place_at : FuncData
 F_place_at : Fun K "place_at" "place_at" s_place_at f_place_at fd_place_at
 b_place_at : Binds K fd_place_at ["curve", "level", "number"] []
 m_place_at : mg "place_at" = some (.ref f_place_at)
 f_places_around : Addr
 fd_places_around : FuncData
 F_places_around : Fun K "places_around" "places_around" s_places_around f_places_around fd_places_around
 b_places_around : Binds K fd_places_around ["place"] []
 m_places_around : mg "places_around" = some (.ref f_places_around)
 f_neighbours : Addr
 fd_neighbours : FuncData
 F_neighbours : Fun K "neighbours" "neighbours" s_neighbours f_neighbours fd_neighbours
 b_neighbours : Binds K fd_neighbours ["curve", "level", "number"] []
 m_neighbours : mg "neighbours" = some (.ref f_neighbours)
 f_has_place : Addr
 fd_has_place : FuncData
 F_has_place : Fun K "has_place" "has_place" s_has_place f_has_place fd_has_place
 b_has_place : Binds K fd_has_place ["dims", "level", "place"] []
 m_has_place : mg "has_place" = some (.ref f_has_place)
 f_ask_place : Addr
 fd_ask_place : FuncData
 F_ask_place : Fun K "ask_place" "ask_place" s_ask_place f_ask_place fd_ask_place
 b_ask_place : Binds K fd_ask_place ["dims", "level", "place"] []
 m_ask_place : mg "ask_place" = some (.ref f_ask_place)
 f_undone : Addr
 fd_undone : FuncData
 F_undone : Fun K "undone" "undone" s_undone f_undone fd_undone
 b_undone : Binds K fd_undone ["turn"] []
 m_undone : mg "undone" = some (.ref f_undone)
 f_digit_at : Addr
 fd_digit_at : FuncData
 F_digit_at : Fun K "digit_at" "digit_at" s_digit_at f_digit_at fd_digit_at
 b_digit_at : Binds K fd_digit_at ["curve", "state", "corner"] []
 m_digit_at : mg "digit_at" = some (.ref f_digit_at)
 f_number_at : Addr
 fd_number_at : FuncData
 F_number_at : Fun K "number_at" "number_at" s_number_at f_number_at fd_number_at
 b_number_at : Binds K fd_number_at ["curve", "level", "place"] []
 m_number_at : mg "number_at" = some (.ref f_number_at)
 f_law_refused : Addr
 fd_law_refused : FuncData
 F_law_refused : Fun K "_law_refused" "_law_refused" s_law_refused f_law_refused fd_law_refused
 b_law_refused : Binds K fd_law_refused ["_law_curve_here", "_law_level_here", "_law_which", "_law_asked"] []
 m_law_refused : mg "_law_refused" = some (.ref f_law_refused)
 f_law_same : Addr
 fd_law_same : FuncData
 F_law_same : Fun K "_law_same" "_law_same" s_law_same f_law_same fd_law_same
 b_law_same : Binds K fd_law_same ["_law_found", "_law_due"] []
 m_law_same : mg "_law_same" = some (.ref f_law_same)
 f_law : Addr
 fd_law : FuncData
 F_law : Fun K "law" "law" s_law f_law fd_law
 b_law : Binds K fd_law ["_law_script"] []
 m_law : mg "law" = some (.ref f_law)
 C_Curve : Addr
 fi_Curve : Addr
 fdi_Curve : FuncData
 ca_Curve : ClsAt K "Curve" C_Curve
 cl_Curve : Cls K C_Curve
 mc_Curve : mg "Curve" = some (.ref C_Curve)
 Fi_Curve : Fun K "__init__" "Curve.__init__" si_Curve fi_Curve fdi_Curve
 bi_Curve : Binds K fdi_Curve ["self", "name", "dims", "joined", "parts"] []
 mk_Curve : Mk K C_Curve fi_Curve
 n_Curve_dims : NoAttr K C_Curve "dims"
 n_Curve_joined : NoAttr K C_Curve "joined"
 n_Curve_name : NoAttr K C_Curve "name"
 n_Curve_parts : NoAttr K C_Curve "parts"
 C_Part : Addr
 fi_Part : Addr
 fdi_Part : FuncData
 ca_Part : ClsAt K "Part" C_Part
 cl_Part : Cls K C_Part
 mc_Part : mg "Part" = some (.ref C_Part)
 Fi_Part : Fun K "__init__" "Part.__init__" si_Part fi_Part fdi_Part
 bi_Part : Binds K fdi_Part ["self", "corner", "turn", "back"] []
 mk_Part : Mk K C_Part fi_Part
 n_Part_back : NoAttr K C_Part "back"
 n_Part_corner : NoAttr K C_Part "corner"
 n_Part_turn : NoAttr K C_Part "turn"
 C_OffFloor : Addr
 ca_OffFloor : ClsAt K "OffFloor" C_OffFloor
 mc_OffFloor : mg "OffFloor" = some (.ref C_OffFloor)
 xk_OffFloor : XKit K C_OffFloor
 kc_OffFloor : PySem.W.keepIn K (.ref C_OffFloor) = true
 xc_OffFloor : XCls K C_OffFloor
 C_YardError : Addr
 ca_YardError : ClsAt K "YardError" C_YardError
 mc_YardError : mg "YardError" = some (.ref C_YardError)
 C_BadBox : Addr
 ca_BadBox : ClsAt K "BadBox" C_BadBox
 mc_BadBox : mg "BadBox" = some (.ref C_BadBox)
 C_NoEntry : Addr
 ca_NoEntry : ClsAt K "NoEntry" C_NoEntry
 mc_NoEntry : mg "NoEntry" = some (.ref C_NoEntry)
 C_NoThing : Addr
 ca_NoThing : ClsAt K "NoThing" C_NoThing
 mc_NoThing : mg "NoThing" = some (.ref C_NoThing)
 C_TextError : Addr
 ca_TextError : ClsAt K "TextError" C_TextError
 mc_TextError : mg "TextError" = some (.ref C_TextError)
 C_TooWide : Addr
 ca_TooWide : ClsAt K "TooWide" C_TooWide
 mc_TooWide : mg "TooWide" = some (.ref C_TooWide)
 C_Twice : Addr
 ca_Twice : ClsAt K "Twice" C_Twice
 mc_Twice : mg "Twice" = some (.ref C_Twice)
 C_Unmet : Addr
 ca_Unmet : ClsAt K "Unmet" C_Unmet
 mc_Unmet : mg "Unmet" = some (.ref C_Unmet)
 ix_OffFloor : isxIn K (.ref C_OffFloor) [(C_OffFloor, true)] = true
 ix_ValueError : isxIn K (.type "ValueError") [(C_OffFloor, true)] = true
 iy_0 : isyIn K (refsW [C_BadBox, C_NoEntry, C_NoThing, C_TextError, C_TooWide, C_Twice, C_Unmet]) [(C_OffFloor, false)] = true
 em_YardError_OffFloor : PySem.W.exmOne K (.ref C_OffFloor) (.ref C_YardError) = some true
 z_ValueError : mg "ValueError" = none
 z_all : mg "all" = none
 z_bool : mg "bool" = none
 z_int : mg "int" = none
 z_isinstance : mg "isinstance" = none
 z_len : mg "len" = none
 z_list : mg "list" = none
 z_range : mg "range" = none
 z_reversed : mg "reversed" = none
 z_str : mg "str" = none
 z_tuple : mg "tuple" = none
 z_zip : mg "zip" = none
set_option genInjectivity true
set_option genSizeOf true
set_option genSizeOfSpec true
section
seal PySem.Sem.wp
variable {P : Program} {w : World} {K : PySem.W.Frag} {mg : Str -> Option Value} {base : Heap}
def tb_OffFloor : List (Str × Bool) := [("OffFloor", true)]
theorem isx_OffFloor (T : Txt K mg) : IsxOk K (.ref T.C_OffFloor) tb_OffFloor := have h := T.ix_OffFloor; (isx_cons T.ca_OffFloor T.xk_OffFloor h fun h => isx_nil)
def tb_ValueError : List (Str × Bool) := [("OffFloor", true)]
theorem isx_ValueError (T : Txt K mg) : IsxOk K (.type "ValueError") tb_ValueError := have h := T.ix_ValueError; (isx_cons T.ca_OffFloor T.xk_OffFloor h fun h => isx_nil)
def ty_0 : List (Str × Bool) := [("OffFloor", false)]
theorem isy_0 (T : Txt K mg) : IsyOk K (refsW [T.C_BadBox, T.C_NoEntry, T.C_NoThing, T.C_TextError, T.C_TooWide, T.C_Twice, T.C_Unmet]) ty_0 := have h := T.iy_0; (isy_cons T.ca_OffFloor T.xk_OffFloor h fun h => isy_nil)
theorem exy_YardError (T : Txt K mg) : ExOk K T.C_YardError ["OffFloor"] := ⟨⟨T.C_OffFloor, T.ca_OffFloor, T.em_YardError_OffFloor⟩, True.intro⟩
theorem sci_Curve : FnScope ["self", "name", "dims", "joined", "parts"] ["self", "name", "dims", "joined", "parts"] (defScope si_Curve) := ⟨rfl, rfl, rfl, by decide +kernel, rfl, by decide +kernel, by decide +kernel⟩
def gi_Curve : Lf := (aCons (eV 1) (aCons (eV 2) (aCons (eV 3) (aCons (eL (lListOf (eV 4))) aNil))))
def di_Curve : List D -> Option (List D) := fun ds => gi_Curve (startI 5 ds)
theorem oki_Curve (T : Txt K mg) : FnOk P w K mg base CX0 1 T.fi_Curve T.fdi_Curve ["self", "name", "dims", "joined", "parts"] (spI K T.C_Curve ["name", "dims", "joined", "parts"] 4 di_Curve) :=
 ok_init (k := 0) T.Fi_Curve sci_Curve (by decide +kernel) (by decide) fun cdv A outer s H E hr =>
   (ini_cons T.cl_Curve T.n_Curve_name rfl (Or.inl rfl) (pf_v 1) (ini_cons T.cl_Curve T.n_Curve_dims rfl (Or.inl rfl) (pf_v 2) (ini_cons T.cl_Curve T.n_Curve_joined rfl (Or.inl rfl) (pf_v 3) (ini_cons T.cl_Curve T.n_Curve_parts rfl (Or.inl rfl) (pf_l (pl_listOf rfl T.z_list (pf_v 4))) ini_nil))))
theorem sci_Part : FnScope ["self", "corner", "turn", "back"] ["self", "corner", "turn", "back"] (defScope si_Part) := ⟨rfl, rfl, rfl, by decide +kernel, rfl, by decide +kernel, by decide +kernel⟩
def gi_Part : Lf := (aCons (eV 1) (aCons (eV 2) (aCons (eV 3) aNil)))
def di_Part : List D -> Option (List D) := fun ds => gi_Part (startI 4 ds)
theorem oki_Part (T : Txt K mg) : FnOk P w K mg base CX0 1 T.fi_Part T.fdi_Part ["self", "corner", "turn", "back"] (spI K T.C_Part ["corner", "turn", "back"] 3 di_Part) :=
 ok_init (k := 0) T.Fi_Part sci_Part (by decide +kernel) (by decide) fun cdv A outer s H E hr =>
   (ini_cons T.cl_Part T.n_Part_corner rfl (Or.inl rfl) (pf_v 1) (ini_cons T.cl_Part T.n_Part_turn rfl (Or.inl rfl) (pf_v 2) (ini_cons T.cl_Part T.n_Part_back rfl (Or.inl rfl) (pf_v 3) ini_nil)))
theorem sc_law_mix : FnScope ["_law_cell", "_law_factor", "_law_mixed"] ["_law_cell", "_law_factor"] (defScope s_law_mix) := ⟨rfl, rfl, rfl, by decide +kernel, rfl, by decide +kernel, by decide +kernel⟩
def B_law_mix_1 : Sf := (sRet (eDiv (eMod (eMul (eV 2) (eV 2)) (eC (.int 2147483629))) (eC (.int 3))))
def B_law_mix_0 : Sf := (sSeq (sSet 2 (eMod (eAdd (eMul (eV 0) (eV 1)) (eC (.int 12345))) (eC (.int 2147483647))))
   (B_law_mix_1))
def b_law_mix : Sf :=
   (B_law_mix_0)
def d_law_mix : List D -> Option D := fnF 3 b_law_mix
theorem ok_law_mix (T : Txt K mg) : FnOk P w K mg base CX0 1 T.f_law_mix T.fd_law_mix ["_law_cell", "_law_factor"] (spF K 2 d_law_mix) :=
 ok_fn (k := 0) T.F_law_mix sc_law_mix fun cdv A outer s H E hr =>
   (pss_consF (f := (sSet 2 (eMod (eAdd (eMul (eV 0) (eV 1)) (eC (.int 12345))) (eC (.int 2147483647))))) (g := (B_law_mix_1)) (ps_setF 2 sc_law_mix.nd (pf_mod (pf_add (pf_mul (pf_v 0) (pf_v 1)) pf_int) pf_int))
     (pss_oneF (ps_retF (pf_div (pf_mod (pf_mul (pf_v 2) (pf_v 2)) pf_int) pf_int))))
theorem sc_law_level : FnScope ["_law_number"] ["_law_number"] (defScope s_law_level) := ⟨rfl, rfl, rfl, by decide +kernel, rfl, by decide +kernel, by decide +kernel⟩
def B_law_level_1 : Sf := (sRet (eMod (eDiv (eV 0) (eC (.int 6))) (eC (.int 13))))
def B_law_level_0 : Sf := (sSeq (sIf (eB2 gEq (eMod (eV 0) (eC (.int 6))) (eC (.int 0))) (sRet (eMod (eDiv (eV 0) (eC (.int 6))) (eC (.int 61)))) sNil)
   (B_law_level_1))
def b_law_level : Sf :=
   (B_law_level_0)
def d_law_level : List D -> Option D := fnF 1 b_law_level
theorem ok_law_level (T : Txt K mg) : FnOk P w K mg base CX0 1 T.f_law_level T.fd_law_level ["_law_number"] (spF K 1 d_law_level) :=
 ok_fn (k := 0) T.F_law_level sc_law_level fun cdv A outer s H E hr =>
   (pss_consF (f := (sIf (eB2 gEq (eMod (eV 0) (eC (.int 6))) (eC (.int 0))) (sRet (eMod (eDiv (eV 0) (eC (.int 6))) (eC (.int 61)))) sNil)) (g := (B_law_level_1)) (ps_ifF (pt_cmpF cm_eq (pf_mod (pf_v 0) pf_int) pf_int) (pss_oneF (ps_retF (pf_mod (pf_div (pf_v 0) pf_int) pf_int))) pss_nilF)
     (pss_oneF (ps_retF (pf_mod (pf_div (pf_v 0) pf_int) pf_int))))
theorem sc_law_curve : FnScope ["_law_dims", "_law_joined_here", "_law_parts"] ["_law_dims", "_law_joined_here", "_law_parts"] (defScope s_law_curve) := ⟨rfl, rfl, rfl, by decide +kernel, rfl, by decide +kernel, by decide +kernel⟩
def B_law_curve_0 : Sf := (sRet (eMake "Curve" ["name", "dims", "joined", "parts"] 4 di_Curve (aCons (eC (.str "fold")) (aCons (eV 0) (aCons (eV 1) (aCons (eL (lComp (iL (eV 2)) 3 [] (gT (gsCons (gN 0) (gsCons (gN 1) (gsCons (gN 2) gsNil)))) tOK (eMake "Part" ["corner", "turn", "back"] 3 di_Part (aCons (eV 0) (aCons (eV 1) (aCons (eV 2) aNil)))))) aNil))))))
def b_law_curve : Sf :=
   (B_law_curve_0)
def d_law_curve : List D -> Option D := fnF 3 b_law_curve
theorem ok_law_curve (T : Txt K mg) : FnOk P w K mg base CX0 3 T.f_law_curve T.fd_law_curve ["_law_dims", "_law_joined_here", "_law_parts"] (spF K 3 d_law_curve) :=
 ok_fn (k := 2) T.F_law_curve sc_law_curve fun cdv A outer s H E hr =>
   (pss_oneF (ps_retF (pf_make T.ca_Curve T.mk_Curve (oki_Curve T) (hr.mono (by omega)) T.mc_Curve T.bi_Curve rfl (pa_consF pf_str (pa_consF (pf_v 0) (pa_consF (pf_v 1) (pa_consF (pf_l (pl_comp (defScope s_law_curve) ["_law_dims", "_law_joined_here", "_law_parts"] ["_law_corner", "_law_turn_here", "_law_back"] [] [] (go_t (gso_cons (go_n 0) (gso_cons (go_n 1) (gso_cons (go_n 2) gso_nil)))) (pi_l (pf_v 2)) rfl rfl rfl (by decide +kernel) (fun _ _ _ _ => (pg_t 3 rfl (pgs_consF (pg_n 0 (show (List.Nodup (α := PySem.Str) ["_law_corner", "_law_turn_here", "_law_back"]) from by decide +kernel)) (pgs_consF (pg_n 1 (show (List.Nodup (α := PySem.Str) ["_law_corner", "_law_turn_here", "_law_back"]) from by decide +kernel)) (pgs_consF (pg_n 2 (show (List.Nodup (α := PySem.Str) ["_law_corner", "_law_turn_here", "_law_back"]) from by decide +kernel)) pgs_nilF))) (gs_len1 (gs_len1 (gs_len1 gs_len0))))) (fun _ _ _ _ => pifs_nilF) (fun _ _ _ _ => (pf_make T.ca_Part T.mk_Part (oki_Part T) (hr.mono (by omega)) T.mc_Part T.bi_Part rfl (pa_consF (pf_v 0) (pa_consF (pf_v 1) (pa_consF (pf_v 2) pa_nilF))))))) pa_nilF)))))))
theorem sc_law_off : FnScope ["_law_low", "_law_high", "_law_draw", "_law_far"] ["_law_low", "_law_high", "_law_draw", "_law_far"] (defScope s_law_off) := ⟨rfl, rfl, rfl, by decide +kernel, rfl, by decide +kernel, by decide +kernel⟩
def B_law_off_3 : Sf := (sRet (eAdd (eAdd (eV 1) (eC (.int 1))) (eV 3)))
def B_law_off_2 : Sf := (sSeq (sIf (eB2 gEq (eMod (eV 2) (eC (.int 4))) (eC (.int 2))) (sRet (eSub (eSub (eV 0) (eC (.int 1))) (eV 3))) sNil)
   (B_law_off_3))
def B_law_off_1 : Sf := (sSeq (sIf (eB2 gEq (eMod (eV 2) (eC (.int 4))) (eC (.int 1))) (sRet (eAdd (eV 1) (eC (.int 1)))) sNil)
   (B_law_off_2))
def B_law_off_0 : Sf := (sSeq (sIf (eB2 gEq (eMod (eV 2) (eC (.int 4))) (eC (.int 0))) (sRet (eSub (eV 0) (eC (.int 1)))) sNil)
   (B_law_off_1))
def b_law_off : Sf :=
   (B_law_off_0)
def d_law_off : List D -> Option D := fnF 4 b_law_off
theorem ok_law_off (T : Txt K mg) : FnOk P w K mg base CX0 1 T.f_law_off T.fd_law_off ["_law_low", "_law_high", "_law_draw", "_law_far"] (spF K 4 d_law_off) :=
 ok_fn (k := 0) T.F_law_off sc_law_off fun cdv A outer s H E hr =>
   (pss_consF (f := (sIf (eB2 gEq (eMod (eV 2) (eC (.int 4))) (eC (.int 0))) (sRet (eSub (eV 0) (eC (.int 1)))) sNil)) (g := (B_law_off_1)) (ps_ifF (pt_cmpF cm_eq (pf_mod (pf_v 2) pf_int) pf_int) (pss_oneF (ps_retF (pf_sub (pf_v 0) pf_int))) pss_nilF)
     (pss_consF (f := (sIf (eB2 gEq (eMod (eV 2) (eC (.int 4))) (eC (.int 1))) (sRet (eAdd (eV 1) (eC (.int 1)))) sNil)) (g := (B_law_off_2)) (ps_ifF (pt_cmpF cm_eq (pf_mod (pf_v 2) pf_int) pf_int) (pss_oneF (ps_retF (pf_add (pf_v 1) pf_int))) pss_nilF)
     (pss_consF (f := (sIf (eB2 gEq (eMod (eV 2) (eC (.int 4))) (eC (.int 2))) (sRet (eSub (eSub (eV 0) (eC (.int 1))) (eV 3))) sNil)) (g := (B_law_off_3)) (ps_ifF (pt_cmpF cm_eq (pf_mod (pf_v 2) pf_int) pf_int) (pss_oneF (ps_retF (pf_sub (pf_sub (pf_v 0) pf_int) (pf_v 3)))) pss_nilF)
     (pss_oneF (ps_retF (pf_add (pf_add (pf_v 1) pf_int) (pf_v 3)))))))
theorem sc_law_base : FnScope ["_law_dims", "_law_plain", "_law_parts"] ["_law_dims"] (defScope s_law_base) := ⟨rfl, rfl, rfl, by decide +kernel, rfl, by decide +kernel, by decide +kernel⟩
def B_law_base_5 : Sf := (sFrz 2 (sRetL (lCat (iL (eV 2)) (lDisp (aCons (eTup (aCons (eTup (aCons (eC (.int 1)) (aCons (eC (.int 0)) (aCons (eC (.int 0)) aNil)))) (aCons (eTup (aCons (eTup (aCons (eC (.int 1)) (aCons (eC (.int 1)) aNil))) (aCons (eTup (aCons (eC (.int 0)) (aCons (eC (.int 1)) aNil))) (aCons (eTup (aCons (eC (.int 2)) (aCons (eC (.int 0)) aNil))) aNil)))) aNil))) aNil)))))
def B_law_base_4 : Sf := (sSeq (sFrz 2 (sOwn 2 (lCat (iL (eV 2)) (lDisp (aCons (eTup (aCons (eTup (aCons (eC (.int 1)) (aCons (eC (.int 1)) (aCons (eC (.int 1)) aNil)))) (aCons (eV 1) aNil))) (aCons (eTup (aCons (eTup (aCons (eC (.int 1)) (aCons (eC (.int 1)) (aCons (eC (.int 0)) aNil)))) (aCons (eTup (aCons (eTup (aCons (eC (.int 1)) (aCons (eC (.int 1)) aNil))) (aCons (eTup (aCons (eC (.int 2)) (aCons (eC (.int 0)) aNil))) (aCons (eTup (aCons (eC (.int 0)) (aCons (eC (.int 1)) aNil))) aNil)))) aNil))) aNil))))))
   (B_law_base_5))
def B_law_base_3 : Sf := (sSeq (sFrz 2 (sOwn 2 (lCat (iL (eV 2)) (lDisp (aCons (eTup (aCons (eTup (aCons (eC (.int 0)) (aCons (eC (.int 0)) (aCons (eC (.int 1)) aNil)))) (aCons (eTup (aCons (eTup (aCons (eC (.int 1)) (aCons (eC (.int 1)) aNil))) (aCons (eTup (aCons (eC (.int 2)) (aCons (eC (.int 1)) aNil))) (aCons (eTup (aCons (eC (.int 0)) (aCons (eC (.int 0)) aNil))) aNil)))) aNil))) (aCons (eTup (aCons (eTup (aCons (eC (.int 1)) (aCons (eC (.int 0)) (aCons (eC (.int 1)) aNil)))) (aCons (eTup (aCons (eTup (aCons (eC (.int 1)) (aCons (eC (.int 0)) aNil))) (aCons (eTup (aCons (eC (.int 2)) (aCons (eC (.int 1)) aNil))) (aCons (eTup (aCons (eC (.int 0)) (aCons (eC (.int 1)) aNil))) aNil)))) aNil))) aNil))))))
   (B_law_base_4))
def B_law_base_2 : Sf := (sSeq (sOwn 2 (lDisp (aCons (eTup (aCons (eTup (aCons (eC (.int 0)) (aCons (eC (.int 0)) (aCons (eC (.int 0)) aNil)))) (aCons (eTup (aCons (eTup (aCons (eC (.int 1)) (aCons (eC (.int 0)) aNil))) (aCons (eTup (aCons (eC (.int 0)) (aCons (eC (.int 0)) aNil))) (aCons (eTup (aCons (eC (.int 2)) (aCons (eC (.int 0)) aNil))) aNil)))) aNil))) (aCons (eTup (aCons (eTup (aCons (eC (.int 0)) (aCons (eC (.int 1)) (aCons (eC (.int 0)) aNil)))) (aCons (eTup (aCons (eTup (aCons (eC (.int 1)) (aCons (eC (.int 0)) aNil))) (aCons (eTup (aCons (eC (.int 2)) (aCons (eC (.int 0)) aNil))) (aCons (eTup (aCons (eC (.int 0)) (aCons (eC (.int 0)) aNil))) aNil)))) aNil))) (aCons (eTup (aCons (eTup (aCons (eC (.int 0)) (aCons (eC (.int 1)) (aCons (eC (.int 1)) aNil)))) (aCons (eV 1) aNil))) aNil)))))
   (B_law_base_3))
def B_law_base_1 : Sf := (sSeq (sSet 1 (eTup (aCons (eTup (aCons (eC (.int 0)) (aCons (eC (.int 0)) aNil))) (aCons (eTup (aCons (eC (.int 1)) (aCons (eC (.int 0)) aNil))) (aCons (eTup (aCons (eC (.int 2)) (aCons (eC (.int 0)) aNil))) aNil)))))
   (B_law_base_2))
def B_law_base_0 : Sf := (sSeq (sIf (eB2 gEq (eV 0) (eC (.int 2))) (sSeq (sSet 1 (eTup (aCons (eTup (aCons (eC (.int 0)) (aCons (eC (.int 0)) aNil))) (aCons (eTup (aCons (eC (.int 1)) (aCons (eC (.int 0)) aNil))) aNil))))
   (sSeq (sOwn 2 (lDisp (aCons (eTup (aCons (eTup (aCons (eC (.int 0)) (aCons (eC (.int 0)) aNil))) (aCons (eTup (aCons (eTup (aCons (eC (.int 1)) (aCons (eC (.int 0)) aNil))) (aCons (eTup (aCons (eC (.int 0)) (aCons (eC (.int 0)) aNil))) aNil))) aNil))) (aCons (eTup (aCons (eTup (aCons (eC (.int 0)) (aCons (eC (.int 1)) aNil))) (aCons (eV 1) aNil))) (aCons (eTup (aCons (eTup (aCons (eC (.int 1)) (aCons (eC (.int 1)) aNil))) (aCons (eV 1) aNil))) (aCons (eTup (aCons (eTup (aCons (eC (.int 1)) (aCons (eC (.int 0)) aNil))) (aCons (eTup (aCons (eTup (aCons (eC (.int 1)) (aCons (eC (.int 1)) aNil))) (aCons (eTup (aCons (eC (.int 0)) (aCons (eC (.int 1)) aNil))) aNil))) aNil))) aNil))))))
   (sRetO 2))) sNil)
   (B_law_base_1))
def b_law_base : Sf :=
   (B_law_base_0)
def d_law_base : List D -> Option (List D) := fnL 3 b_law_base
theorem ok_law_base (T : Txt K mg) : FnOk P w K mg base CX0 1 T.f_law_base T.fd_law_base ["_law_dims"] (spL K 1 d_law_base) :=
 ok_fnL (k := 0) T.F_law_base sc_law_base fun cdv A outer s H E hr =>
   (pss_consF (f := (sIf (eB2 gEq (eV 0) (eC (.int 2))) (sSeq (sSet 1 (eTup (aCons (eTup (aCons (eC (.int 0)) (aCons (eC (.int 0)) aNil))) (aCons (eTup (aCons (eC (.int 1)) (aCons (eC (.int 0)) aNil))) aNil))))
   (sSeq (sOwn 2 (lDisp (aCons (eTup (aCons (eTup (aCons (eC (.int 0)) (aCons (eC (.int 0)) aNil))) (aCons (eTup (aCons (eTup (aCons (eC (.int 1)) (aCons (eC (.int 0)) aNil))) (aCons (eTup (aCons (eC (.int 0)) (aCons (eC (.int 0)) aNil))) aNil))) aNil))) (aCons (eTup (aCons (eTup (aCons (eC (.int 0)) (aCons (eC (.int 1)) aNil))) (aCons (eV 1) aNil))) (aCons (eTup (aCons (eTup (aCons (eC (.int 1)) (aCons (eC (.int 1)) aNil))) (aCons (eV 1) aNil))) (aCons (eTup (aCons (eTup (aCons (eC (.int 1)) (aCons (eC (.int 0)) aNil))) (aCons (eTup (aCons (eTup (aCons (eC (.int 1)) (aCons (eC (.int 1)) aNil))) (aCons (eTup (aCons (eC (.int 0)) (aCons (eC (.int 1)) aNil))) aNil))) aNil))) aNil))))))
   (sRetO 2))) sNil)) (g := (B_law_base_1)) (ps_ifF (pt_cmpF cm_eq (pf_v 0) pf_int) (pss_consF (ps_setF 1 sc_law_base.nd (pf_tup (pa_consF (pf_tup (pa_consF pf_int (pa_consF pf_int pa_nilF))) (pa_consF (pf_tup (pa_consF pf_int (pa_consF pf_int pa_nilF))) pa_nilF))))
     (pss_consF (ps_own 2 sc_law_base.nd (pl_disp (pa_consF (pf_tup (pa_consF (pf_tup (pa_consF pf_int (pa_consF pf_int pa_nilF))) (pa_consF (pf_tup (pa_consF (pf_tup (pa_consF pf_int (pa_consF pf_int pa_nilF))) (pa_consF (pf_tup (pa_consF pf_int (pa_consF pf_int pa_nilF))) pa_nilF))) pa_nilF))) (pa_consF (pf_tup (pa_consF (pf_tup (pa_consF pf_int (pa_consF pf_int pa_nilF))) (pa_consF (pf_v 1) pa_nilF))) (pa_consF (pf_tup (pa_consF (pf_tup (pa_consF pf_int (pa_consF pf_int pa_nilF))) (pa_consF (pf_v 1) pa_nilF))) (pa_consF (pf_tup (pa_consF (pf_tup (pa_consF pf_int (pa_consF pf_int pa_nilF))) (pa_consF (pf_tup (pa_consF (pf_tup (pa_consF pf_int (pa_consF pf_int pa_nilF))) (pa_consF (pf_tup (pa_consF pf_int (pa_consF pf_int pa_nilF))) pa_nilF))) pa_nilF))) pa_nilF))))))
     (pss_oneF (ps_retO 2)))) pss_nilF)
     (pss_consF (f := (sSet 1 (eTup (aCons (eTup (aCons (eC (.int 0)) (aCons (eC (.int 0)) aNil))) (aCons (eTup (aCons (eC (.int 1)) (aCons (eC (.int 0)) aNil))) (aCons (eTup (aCons (eC (.int 2)) (aCons (eC (.int 0)) aNil))) aNil)))))) (g := (B_law_base_2)) (ps_setF 1 sc_law_base.nd (pf_tup (pa_consF (pf_tup (pa_consF pf_int (pa_consF pf_int pa_nilF))) (pa_consF (pf_tup (pa_consF pf_int (pa_consF pf_int pa_nilF))) (pa_consF (pf_tup (pa_consF pf_int (pa_consF pf_int pa_nilF))) pa_nilF)))))
     (pss_consF (f := (sOwn 2 (lDisp (aCons (eTup (aCons (eTup (aCons (eC (.int 0)) (aCons (eC (.int 0)) (aCons (eC (.int 0)) aNil)))) (aCons (eTup (aCons (eTup (aCons (eC (.int 1)) (aCons (eC (.int 0)) aNil))) (aCons (eTup (aCons (eC (.int 0)) (aCons (eC (.int 0)) aNil))) (aCons (eTup (aCons (eC (.int 2)) (aCons (eC (.int 0)) aNil))) aNil)))) aNil))) (aCons (eTup (aCons (eTup (aCons (eC (.int 0)) (aCons (eC (.int 1)) (aCons (eC (.int 0)) aNil)))) (aCons (eTup (aCons (eTup (aCons (eC (.int 1)) (aCons (eC (.int 0)) aNil))) (aCons (eTup (aCons (eC (.int 2)) (aCons (eC (.int 0)) aNil))) (aCons (eTup (aCons (eC (.int 0)) (aCons (eC (.int 0)) aNil))) aNil)))) aNil))) (aCons (eTup (aCons (eTup (aCons (eC (.int 0)) (aCons (eC (.int 1)) (aCons (eC (.int 1)) aNil)))) (aCons (eV 1) aNil))) aNil)))))) (g := (B_law_base_3)) (ps_own 2 sc_law_base.nd (pl_disp (pa_consF (pf_tup (pa_consF (pf_tup (pa_consF pf_int (pa_consF pf_int (pa_consF pf_int pa_nilF)))) (pa_consF (pf_tup (pa_consF (pf_tup (pa_consF pf_int (pa_consF pf_int pa_nilF))) (pa_consF (pf_tup (pa_consF pf_int (pa_consF pf_int pa_nilF))) (pa_consF (pf_tup (pa_consF pf_int (pa_consF pf_int pa_nilF))) pa_nilF)))) pa_nilF))) (pa_consF (pf_tup (pa_consF (pf_tup (pa_consF pf_int (pa_consF pf_int (pa_consF pf_int pa_nilF)))) (pa_consF (pf_tup (pa_consF (pf_tup (pa_consF pf_int (pa_consF pf_int pa_nilF))) (pa_consF (pf_tup (pa_consF pf_int (pa_consF pf_int pa_nilF))) (pa_consF (pf_tup (pa_consF pf_int (pa_consF pf_int pa_nilF))) pa_nilF)))) pa_nilF))) (pa_consF (pf_tup (pa_consF (pf_tup (pa_consF pf_int (pa_consF pf_int (pa_consF pf_int pa_nilF)))) (pa_consF (pf_v 1) pa_nilF))) pa_nilF)))))
     (pss_consF (f := (sFrz 2 (sOwn 2 (lCat (iL (eV 2)) (lDisp (aCons (eTup (aCons (eTup (aCons (eC (.int 0)) (aCons (eC (.int 0)) (aCons (eC (.int 1)) aNil)))) (aCons (eTup (aCons (eTup (aCons (eC (.int 1)) (aCons (eC (.int 1)) aNil))) (aCons (eTup (aCons (eC (.int 2)) (aCons (eC (.int 1)) aNil))) (aCons (eTup (aCons (eC (.int 0)) (aCons (eC (.int 0)) aNil))) aNil)))) aNil))) (aCons (eTup (aCons (eTup (aCons (eC (.int 1)) (aCons (eC (.int 0)) (aCons (eC (.int 1)) aNil)))) (aCons (eTup (aCons (eTup (aCons (eC (.int 1)) (aCons (eC (.int 0)) aNil))) (aCons (eTup (aCons (eC (.int 2)) (aCons (eC (.int 1)) aNil))) (aCons (eTup (aCons (eC (.int 0)) (aCons (eC (.int 1)) aNil))) aNil)))) aNil))) aNil))))))) (g := (B_law_base_4)) (ps_frz 2 (ps_own 2 sc_law_base.nd (pl_catS (src_l (pf_v 2)) (src_r (pl_disp (pa_consF (pf_tup (pa_consF (pf_tup (pa_consF pf_int (pa_consF pf_int (pa_consF pf_int pa_nilF)))) (pa_consF (pf_tup (pa_consF (pf_tup (pa_consF pf_int (pa_consF pf_int pa_nilF))) (pa_consF (pf_tup (pa_consF pf_int (pa_consF pf_int pa_nilF))) (pa_consF (pf_tup (pa_consF pf_int (pa_consF pf_int pa_nilF))) pa_nilF)))) pa_nilF))) (pa_consF (pf_tup (pa_consF (pf_tup (pa_consF pf_int (pa_consF pf_int (pa_consF pf_int pa_nilF)))) (pa_consF (pf_tup (pa_consF (pf_tup (pa_consF pf_int (pa_consF pf_int pa_nilF))) (pa_consF (pf_tup (pa_consF pf_int (pa_consF pf_int pa_nilF))) (pa_consF (pf_tup (pa_consF pf_int (pa_consF pf_int pa_nilF))) pa_nilF)))) pa_nilF))) pa_nilF)))))))
     (pss_consF (f := (sFrz 2 (sOwn 2 (lCat (iL (eV 2)) (lDisp (aCons (eTup (aCons (eTup (aCons (eC (.int 1)) (aCons (eC (.int 1)) (aCons (eC (.int 1)) aNil)))) (aCons (eV 1) aNil))) (aCons (eTup (aCons (eTup (aCons (eC (.int 1)) (aCons (eC (.int 1)) (aCons (eC (.int 0)) aNil)))) (aCons (eTup (aCons (eTup (aCons (eC (.int 1)) (aCons (eC (.int 1)) aNil))) (aCons (eTup (aCons (eC (.int 2)) (aCons (eC (.int 0)) aNil))) (aCons (eTup (aCons (eC (.int 0)) (aCons (eC (.int 1)) aNil))) aNil)))) aNil))) aNil))))))) (g := (B_law_base_5)) (ps_frz 2 (ps_own 2 sc_law_base.nd (pl_catS (src_l (pf_v 2)) (src_r (pl_disp (pa_consF (pf_tup (pa_consF (pf_tup (pa_consF pf_int (pa_consF pf_int (pa_consF pf_int pa_nilF)))) (pa_consF (pf_v 1) pa_nilF))) (pa_consF (pf_tup (pa_consF (pf_tup (pa_consF pf_int (pa_consF pf_int (pa_consF pf_int pa_nilF)))) (pa_consF (pf_tup (pa_consF (pf_tup (pa_consF pf_int (pa_consF pf_int pa_nilF))) (pa_consF (pf_tup (pa_consF pf_int (pa_consF pf_int pa_nilF))) (pa_consF (pf_tup (pa_consF pf_int (pa_consF pf_int pa_nilF))) pa_nilF)))) pa_nilF))) pa_nilF)))))))
     (pss_oneF (ps_frz 2 (ps_retL (pl_catS (src_l (pf_v 2)) (src_r (pl_disp (pa_consF (pf_tup (pa_consF (pf_tup (pa_consF pf_int (pa_consF pf_int (pa_consF pf_int pa_nilF)))) (pa_consF (pf_tup (pa_consF (pf_tup (pa_consF pf_int (pa_consF pf_int pa_nilF))) (pa_consF (pf_tup (pa_consF pf_int (pa_consF pf_int pa_nilF))) (pa_consF (pf_tup (pa_consF pf_int (pa_consF pf_int pa_nilF))) pa_nilF)))) pa_nilF))) pa_nilF))))))))))))
theorem sc_law_turn : FnScope ["_law_number", "_law_dims", "_law_axes"] ["_law_number", "_law_dims"] (defScope s_law_turn) := ⟨rfl, rfl, rfl, by decide +kernel, rfl, by decide +kernel, by decide +kernel⟩
def B_law_turn_2 : Sf := (sRet (eTupOf (eL (lComp (iR (eV 1)) 1 [2, 0] (gN 0) tOK (eTup (aCons (eIx (eV 1) (eV 0)) (aCons (eMod (eDiv (eV 2) (eIx (eL (lDisp (aCons (eC (.int 1)) (aCons (eC (.int 2)) (aCons (eC (.int 4)) aNil))))) (eV 0))) (eC (.int 2))) aNil)))))))
def B_law_turn_1 : Sf := (sSeq (sIf (eB2 gEq (eV 1) (eC (.int 3))) (sSet 2 (eIx (eL (lDisp (aCons (eL (lDisp (aCons (eC (.int 0)) (aCons (eC (.int 1)) (aCons (eC (.int 2)) aNil))))) (aCons (eL (lDisp (aCons (eC (.int 0)) (aCons (eC (.int 2)) (aCons (eC (.int 1)) aNil))))) (aCons (eL (lDisp (aCons (eC (.int 1)) (aCons (eC (.int 0)) (aCons (eC (.int 2)) aNil))))) (aCons (eL (lDisp (aCons (eC (.int 1)) (aCons (eC (.int 2)) (aCons (eC (.int 0)) aNil))))) (aCons (eL (lDisp (aCons (eC (.int 2)) (aCons (eC (.int 0)) (aCons (eC (.int 1)) aNil))))) (aCons (eL (lDisp (aCons (eC (.int 2)) (aCons (eC (.int 1)) (aCons (eC (.int 0)) aNil))))) aNil)))))))) (eMod (eDiv (eV 0) (eC (.int 8))) (eC (.int 6))))) (sIf (eB2 gEq (eMod (eDiv (eV 0) (eC (.int 8))) (eC (.int 2))) (eC (.int 1))) (sSet 2 (eL (lDisp (aCons (eC (.int 1)) (aCons (eC (.int 0)) aNil))))) sNil))
   (B_law_turn_2))
def B_law_turn_0 : Sf := (sSeq (sSet 2 (eL (lDisp (aCons (eC (.int 0)) (aCons (eC (.int 1)) aNil)))))
   (B_law_turn_1))
def b_law_turn : Sf :=
   (B_law_turn_0)
def d_law_turn : List D -> Option D := fnF 3 b_law_turn
theorem ok_law_turn (T : Txt K mg) : FnOk P w K mg base CX0 1 T.f_law_turn T.fd_law_turn ["_law_number", "_law_dims"] (spF K 2 d_law_turn) :=
 ok_fn (k := 0) T.F_law_turn sc_law_turn fun cdv A outer s H E hr =>
   (pss_consF (f := (sSet 2 (eL (lDisp (aCons (eC (.int 0)) (aCons (eC (.int 1)) aNil)))))) (g := (B_law_turn_1)) (ps_setF 2 sc_law_turn.nd (pf_l (pl_disp (pa_consF pf_int (pa_consF pf_int pa_nilF)))))
     (pss_consF (f := (sIf (eB2 gEq (eV 1) (eC (.int 3))) (sSet 2 (eIx (eL (lDisp (aCons (eL (lDisp (aCons (eC (.int 0)) (aCons (eC (.int 1)) (aCons (eC (.int 2)) aNil))))) (aCons (eL (lDisp (aCons (eC (.int 0)) (aCons (eC (.int 2)) (aCons (eC (.int 1)) aNil))))) (aCons (eL (lDisp (aCons (eC (.int 1)) (aCons (eC (.int 0)) (aCons (eC (.int 2)) aNil))))) (aCons (eL (lDisp (aCons (eC (.int 1)) (aCons (eC (.int 2)) (aCons (eC (.int 0)) aNil))))) (aCons (eL (lDisp (aCons (eC (.int 2)) (aCons (eC (.int 0)) (aCons (eC (.int 1)) aNil))))) (aCons (eL (lDisp (aCons (eC (.int 2)) (aCons (eC (.int 1)) (aCons (eC (.int 0)) aNil))))) aNil)))))))) (eMod (eDiv (eV 0) (eC (.int 8))) (eC (.int 6))))) (sIf (eB2 gEq (eMod (eDiv (eV 0) (eC (.int 8))) (eC (.int 2))) (eC (.int 1))) (sSet 2 (eL (lDisp (aCons (eC (.int 1)) (aCons (eC (.int 0)) aNil))))) sNil))) (g := (B_law_turn_2)) (ps_ifF (pt_cmpF cm_eq (pf_v 1) pf_int) (pss_oneF (ps_setF 2 sc_law_turn.nd (pf_ix (pf_l (pl_disp (pa_consF (pf_l (pl_disp (pa_consF pf_int (pa_consF pf_int (pa_consF pf_int pa_nilF))))) (pa_consF (pf_l (pl_disp (pa_consF pf_int (pa_consF pf_int (pa_consF pf_int pa_nilF))))) (pa_consF (pf_l (pl_disp (pa_consF pf_int (pa_consF pf_int (pa_consF pf_int pa_nilF))))) (pa_consF (pf_l (pl_disp (pa_consF pf_int (pa_consF pf_int (pa_consF pf_int pa_nilF))))) (pa_consF (pf_l (pl_disp (pa_consF pf_int (pa_consF pf_int (pa_consF pf_int pa_nilF))))) (pa_consF (pf_l (pl_disp (pa_consF pf_int (pa_consF pf_int (pa_consF pf_int pa_nilF))))) pa_nilF)))))))) (pf_mod (pf_div (pf_v 0) pf_int) pf_int)))) (pss_oneF (ps_ifF (pt_cmpF cm_eq (pf_mod (pf_div (pf_v 0) pf_int) pf_int) pf_int) (pss_oneF (ps_setF 2 sc_law_turn.nd (pf_l (pl_disp (pa_consF pf_int (pa_consF pf_int pa_nilF)))))) pss_nilF)))
     (pss_oneF (ps_retF (pf_tupOf rfl T.z_tuple (pf_l (pl_comp (defScope s_law_turn) ["_law_number", "_law_dims", "_law_axes"] ["_law_k"] ["_law_axes", "_law_number"] [2, 0] (go_n 0) (pi_r rfl T.z_range (pf_v 1)) rfl rfl rfl (by decide +kernel) (fun _ _ _ _ => (pg_n 0 (show (List.Nodup (α := PySem.Str) ["_law_k", "_law_axes", "_law_number"]) from by decide +kernel))) (fun _ _ _ _ => pifs_nilF) (fun _ _ _ _ => (pf_tup (pa_consF (pf_ix (pf_v 1) (pf_v 0)) (pa_consF (pf_mod (pf_div (pf_v 2) (pf_ix (pf_l (pl_disp (pa_consF pf_int (pa_consF pf_int (pa_consF pf_int pa_nilF))))) (pf_v 0))) pf_int) pa_nilF)))))))))))
theorem sc_law_after : FnScope ["_law_one", "_law_other"] ["_law_one", "_law_other"] (defScope s_law_after) := ⟨rfl, rfl, rfl, by decide +kernel, rfl, by decide +kernel, by decide +kernel⟩
def B_law_after_0 : Sf := (sRet (eTupOf (eL (lComp (iT (eV 0)) 2 [1] (gT (gsCons (gN 0) (gsCons (gN 1) gsNil))) tOK (eTup (aCons (eIx (eIx (eV 2) (eV 0)) (eC (.int 0))) (aCons (eXor (eIx (eIx (eV 2) (eV 0)) (eC (.int 1))) (eV 1)) aNil)))))))
def b_law_after : Sf :=
   (B_law_after_0)
def d_law_after : List D -> Option D := fnF 2 b_law_after
theorem ok_law_after (T : Txt K mg) : FnOk P w K mg base CX0 1 T.f_law_after T.fd_law_after ["_law_one", "_law_other"] (spF K 2 d_law_after) :=
 ok_fn (k := 0) T.F_law_after sc_law_after fun cdv A outer s H E hr =>
   (pss_oneF (ps_retF (pf_tupOf rfl T.z_tuple (pf_l (pl_comp (defScope s_law_after) ["_law_one", "_law_other"] ["_law_axis", "_law_flip"] ["_law_other"] [1] (go_t (gso_cons (go_n 0) (gso_cons (go_n 1) gso_nil))) (pi_t (pf_v 0)) rfl rfl rfl (by decide +kernel) (fun _ _ _ _ => (pg_t 2 rfl (pgs_consF (pg_n 0 (show (List.Nodup (α := PySem.Str) ["_law_axis", "_law_flip", "_law_other"]) from by decide +kernel)) (pgs_consF (pg_n 1 (show (List.Nodup (α := PySem.Str) ["_law_axis", "_law_flip", "_law_other"]) from by decide +kernel)) pgs_nilF)) (gs_len1 (gs_len1 gs_len0)))) (fun _ _ _ _ => pifs_nilF) (fun _ _ _ _ => (pf_tup (pa_consF (pf_ix (pf_ix (pf_v 2) (pf_v 0)) pf_int) (pa_consF (pf_xor (pf_ix (pf_ix (pf_v 2) (pf_v 0)) pf_int) (pf_v 1)) pa_nilF)))))))))
theorem sc_law_undone : FnScope ["_law_turn_here", "_law_back", "_law_k"] ["_law_turn_here"] (defScope s_law_undone) := ⟨rfl, rfl, rfl, by decide +kernel, rfl, by decide +kernel, by decide +kernel⟩
def L1_law_undone_0 : Sf := (sItem 1 (eIx (eIx (eV 0) (eV 2)) (eC (.int 0))) (eTup (aCons (eV 2) (aCons (eIx (eIx (eV 0) (eV 2)) (eC (.int 1))) aNil))))
def B_law_undone_2 : Sf := (sFrz 1 (sRet (eTupOf (eV 1))))
def B_law_undone_1 : Sf := (sSeq (sFor (iR (eLen (eV 0))) (gN 2) (L1_law_undone_0))
   (B_law_undone_2))
def B_law_undone_0 : Sf := (sSeq (sOwn 1 (lRep (lDisp (aCons (eC .non) aNil)) (eLen (eV 0))))
   (B_law_undone_1))
def b_law_undone : Sf :=
   (B_law_undone_0)
def d_law_undone : List D -> Option D := fnF 3 b_law_undone
theorem ok_law_undone (T : Txt K mg) : FnOk P w K mg base CX0 1 T.f_law_undone T.fd_law_undone ["_law_turn_here"] (spF K 1 d_law_undone) :=
 ok_fn (k := 0) T.F_law_undone sc_law_undone fun cdv A outer s H E hr =>
   (pss_consF (f := (sOwn 1 (lRep (lDisp (aCons (eC .non) aNil)) (eLen (eV 0))))) (g := (B_law_undone_1)) (ps_own 1 sc_law_undone.nd (pl_rep (pl_disp (pa_consF pf_non pa_nilF)) (pf_len rfl T.z_len (pf_v 0))))
     (pss_consF (f := (sFor (iR (eLen (eV 0))) (gN 2) (L1_law_undone_0))) (g := (B_law_undone_2)) (ps_forF PassesOwn.never rfl (pi_r rfl T.z_range (pf_len rfl T.z_len (pf_v 0))) (pg_n 2 sc_law_undone.nd) (pss_oneF (ps_item 1 (pf_tup (pa_consF (pf_v 2) (pa_consF (pf_ix (pf_ix (pf_v 0) (pf_v 2)) pf_int) pa_nilF))) (pf_ix (pf_ix (pf_v 0) (pf_v 2)) pf_int))))
     (pss_oneF (ps_frz 1 (ps_retF (pf_tupOf rfl T.z_tuple (pf_v 1)))))))
theorem sc_law_turned : FnScope ["_law_turn_here", "_law_corner"] ["_law_turn_here", "_law_corner"] (defScope s_law_turned) := ⟨rfl, rfl, rfl, by decide +kernel, rfl, by decide +kernel, by decide +kernel⟩
def B_law_turned_0 : Sf := (sRet (eTupOf (eL (lComp (iT (eV 0)) 2 [1] (gT (gsCons (gN 0) (gsCons (gN 1) gsNil))) tOK (eXor (eIx (eV 2) (eV 0)) (eV 1))))))
def b_law_turned : Sf :=
   (B_law_turned_0)
def d_law_turned : List D -> Option D := fnF 2 b_law_turned
theorem ok_law_turned (T : Txt K mg) : FnOk P w K mg base CX0 1 T.f_law_turned T.fd_law_turned ["_law_turn_here", "_law_corner"] (spF K 2 d_law_turned) :=
 ok_fn (k := 0) T.F_law_turned sc_law_turned fun cdv A outer s H E hr =>
   (pss_oneF (ps_retF (pf_tupOf rfl T.z_tuple (pf_l (pl_comp (defScope s_law_turned) ["_law_turn_here", "_law_corner"] ["_law_axis", "_law_flip"] ["_law_corner"] [1] (go_t (gso_cons (go_n 0) (gso_cons (go_n 1) gso_nil))) (pi_t (pf_v 0)) rfl rfl rfl (by decide +kernel) (fun _ _ _ _ => (pg_t 2 rfl (pgs_consF (pg_n 0 (show (List.Nodup (α := PySem.Str) ["_law_axis", "_law_flip", "_law_corner"]) from by decide +kernel)) (pgs_consF (pg_n 1 (show (List.Nodup (α := PySem.Str) ["_law_axis", "_law_flip", "_law_corner"]) from by decide +kernel)) pgs_nilF)) (gs_len1 (gs_len1 gs_len0)))) (fun _ _ _ _ => pifs_nilF) (fun _ _ _ _ => (pf_xor (pf_ix (pf_v 2) (pf_v 0)) (pf_v 1))))))))
theorem sc_law_joined : FnScope ["_law_dims", "_law_number", "_law_base_here", "_law_turn_here", "_law_mirror", "_law_parts", "_law_bits", "_law_corner", "_law_inner", "_law_lies"] ["_law_dims", "_law_number"] (defScope s_law_joined) := ⟨rfl, rfl, rfl, by decide +kernel, rfl, by decide +kernel, by decide +kernel⟩
def L1_law_joined_3 : Sf := (sSet 6 (eDiv (eV 6) (eC (.int 2))))
def L1_law_joined_2 : Sf := (sSeq (sApp 5 (eTup (aCons (eCall 2 d_law_turned (aCons (eV 3) (aCons (eV 7) aNil))) (aCons (eV 9) (aCons (eOfT (eB2 gEq (eMod (eV 6) (eC (.int 2))) (eC (.int 1)))) aNil)))))
   (L1_law_joined_3))
def L1_law_joined_1 : Sf := (sSeq (sIf (eB2 gEq (eMod (eV 6) (eC (.int 2))) (eC (.int 1))) (sSet 9 (eCall 2 d_law_after (aCons (eV 9) (aCons (eV 4) aNil)))) sNil)
   (L1_law_joined_2))
def L1_law_joined_0 : Sf := (sSeq (sSet 9 (eCall 2 d_law_after (aCons (eV 3) (aCons (eCall 2 d_law_after (aCons (eV 8) (aCons (eCall 1 d_law_undone (aCons (eV 3) aNil)) aNil))) aNil))))
   (L1_law_joined_1))
def B_law_joined_8 : Sf := (sRetO 5)
def B_law_joined_7 : Sf := (sSeq (sFor (iL (eV 2)) (gT (gsCons (gN 7) (gsCons (gN 8) gsNil))) (L1_law_joined_0))
   (B_law_joined_8))
def B_law_joined_6 : Sf := (sSeq (sSet 6 (eDiv (eV 1) (eC (.int 96))))
   (B_law_joined_7))
def B_law_joined_5 : Sf := (sSeq (sOwn 5 (lDisp aNil))
   (B_law_joined_6))
def B_law_joined_4 : Sf := (sSeq (sSet 4 (eCall 2 d_law_after (aCons (eV 3) (aCons (eCall 2 d_law_after (aCons (eV 4) (aCons (eCall 1 d_law_undone (aCons (eV 3) aNil)) aNil))) aNil))))
   (B_law_joined_5))
def B_law_joined_3 : Sf := (sSeq (sSet 4 (eTupOf (eL (lComp (iR (eV 0)) 1 [] (gN 0) tOK (eTup (aCons (eV 0) (aCons (eIntOf (eOfT (eB2 gEq (eV 0) (eC (.int 0))))) aNil)))))))
   (B_law_joined_4))
def B_law_joined_2 : Sf := (sSeq (sIf (eB2 gEq (eMod (eDiv (eV 1) (eC (.int 48))) (eC (.int 2))) (eC (.int 1))) (sSet 2 (eL (lRevOf (iL (eV 2))))) sNil)
   (B_law_joined_3))
def B_law_joined_1 : Sf := (sSeq (sSet 3 (eCall 2 d_law_turn (aCons (eV 1) (aCons (eV 0) aNil))))
   (B_law_joined_2))
def B_law_joined_0 : Sf := (sSeq (sSet 2 (eL (lCall 1 d_law_base (aCons (eV 0) aNil))))
   (B_law_joined_1))
def b_law_joined : Sf :=
   (B_law_joined_0)
def d_law_joined : List D -> Option (List D) := fnL 10 b_law_joined
theorem ok_law_joined (T : Txt K mg) : FnOk P w K mg base CX0 2 T.f_law_joined T.fd_law_joined ["_law_dims", "_law_number"] (spL K 2 d_law_joined) :=
 ok_fnL (k := 1) T.F_law_joined sc_law_joined fun cdv A outer s H E hr =>
   (pss_consF (f := (sSet 2 (eL (lCall 1 d_law_base (aCons (eV 0) aNil))))) (g := (B_law_joined_1)) (ps_setF 2 sc_law_joined.nd (pf_l (pl_call (ok_law_base T) (hr.mono (by omega)) T.m_law_base T.F_law_base.kp T.b_law_base rfl (pa_consF (pf_v 0) pa_nilF))))
     (pss_consF (f := (sSet 3 (eCall 2 d_law_turn (aCons (eV 1) (aCons (eV 0) aNil))))) (g := (B_law_joined_2)) (ps_setF 3 sc_law_joined.nd (pf_call (ok_law_turn T) (hr.mono (by omega)) T.m_law_turn T.F_law_turn.kp T.b_law_turn rfl (pa_consF (pf_v 1) (pa_consF (pf_v 0) pa_nilF))))
     (pss_consF (f := (sIf (eB2 gEq (eMod (eDiv (eV 1) (eC (.int 48))) (eC (.int 2))) (eC (.int 1))) (sSet 2 (eL (lRevOf (iL (eV 2))))) sNil)) (g := (B_law_joined_3)) (ps_ifF (pt_cmpF cm_eq (pf_mod (pf_div (pf_v 1) pf_int) pf_int) pf_int) (pss_oneF (ps_setF 2 sc_law_joined.nd (pf_l (pl_listRev rfl rfl T.z_list rfl T.z_reversed (src_l (pf_v 2)))))) pss_nilF)
     (pss_consF (f := (sSet 4 (eTupOf (eL (lComp (iR (eV 0)) 1 [] (gN 0) tOK (eTup (aCons (eV 0) (aCons (eIntOf (eOfT (eB2 gEq (eV 0) (eC (.int 0))))) aNil)))))))) (g := (B_law_joined_4)) (ps_setF 4 sc_law_joined.nd (pf_tupOf rfl T.z_tuple (pf_l (pl_comp (defScope s_law_joined) ["_law_dims", "_law_number", "_law_base_here", "_law_turn_here", "_law_mirror", "_law_parts", "_law_bits", "_law_corner", "_law_inner", "_law_lies"] ["_law_axis"] [] [] (go_n 0) (pi_r rfl T.z_range (pf_v 0)) rfl rfl rfl (by decide +kernel) (fun _ _ _ _ => (pg_n 0 (show (List.Nodup (α := PySem.Str) ["_law_axis"]) from by decide +kernel))) (fun _ _ _ _ => pifs_nilF) (fun _ _ _ _ => (pf_tup (pa_consF (pf_v 0) (pa_consF (pf_intOf rfl T.z_int (pf_cmp cm_eq (pf_v 0) pf_int)) pa_nilF))))))))
     (pss_consF (f := (sSet 4 (eCall 2 d_law_after (aCons (eV 3) (aCons (eCall 2 d_law_after (aCons (eV 4) (aCons (eCall 1 d_law_undone (aCons (eV 3) aNil)) aNil))) aNil))))) (g := (B_law_joined_5)) (ps_setF 4 sc_law_joined.nd (pf_call (ok_law_after T) (hr.mono (by omega)) T.m_law_after T.F_law_after.kp T.b_law_after rfl (pa_consF (pf_v 3) (pa_consF (pf_call (ok_law_after T) (hr.mono (by omega)) T.m_law_after T.F_law_after.kp T.b_law_after rfl (pa_consF (pf_v 4) (pa_consF (pf_call (ok_law_undone T) (hr.mono (by omega)) T.m_law_undone T.F_law_undone.kp T.b_law_undone rfl (pa_consF (pf_v 3) pa_nilF)) pa_nilF))) pa_nilF))))
     (pss_consF (f := (sOwn 5 (lDisp aNil))) (g := (B_law_joined_6)) (ps_own 5 sc_law_joined.nd (pl_disp pa_nilF))
     (pss_consF (f := (sSet 6 (eDiv (eV 1) (eC (.int 96))))) (g := (B_law_joined_7)) (ps_setF 6 sc_law_joined.nd (pf_div (pf_v 1) pf_int))
     (pss_consF (f := (sFor (iL (eV 2)) (gT (gsCons (gN 7) (gsCons (gN 8) gsNil))) (L1_law_joined_0))) (g := (B_law_joined_8)) (ps_forF PassesOwn.never rfl (pi_l (pf_v 2)) (pg_t 2 rfl (pgs_consF (pg_n 7 sc_law_joined.nd) (pgs_consF (pg_n 8 sc_law_joined.nd) pgs_nilF)) (gs_len1 (gs_len1 gs_len0))) (pss_consF (f := (sSet 9 (eCall 2 d_law_after (aCons (eV 3) (aCons (eCall 2 d_law_after (aCons (eV 8) (aCons (eCall 1 d_law_undone (aCons (eV 3) aNil)) aNil))) aNil))))) (g := (L1_law_joined_1)) (ps_setF 9 sc_law_joined.nd (pf_call (ok_law_after T) (hr.mono (by omega)) T.m_law_after T.F_law_after.kp T.b_law_after rfl (pa_consF (pf_v 3) (pa_consF (pf_call (ok_law_after T) (hr.mono (by omega)) T.m_law_after T.F_law_after.kp T.b_law_after rfl (pa_consF (pf_v 8) (pa_consF (pf_call (ok_law_undone T) (hr.mono (by omega)) T.m_law_undone T.F_law_undone.kp T.b_law_undone rfl (pa_consF (pf_v 3) pa_nilF)) pa_nilF))) pa_nilF))))
     (pss_consF (f := (sIf (eB2 gEq (eMod (eV 6) (eC (.int 2))) (eC (.int 1))) (sSet 9 (eCall 2 d_law_after (aCons (eV 9) (aCons (eV 4) aNil)))) sNil)) (g := (L1_law_joined_2)) (ps_ifF (pt_cmpF cm_eq (pf_mod (pf_v 6) pf_int) pf_int) (pss_oneF (ps_setF 9 sc_law_joined.nd (pf_call (ok_law_after T) (hr.mono (by omega)) T.m_law_after T.F_law_after.kp T.b_law_after rfl (pa_consF (pf_v 9) (pa_consF (pf_v 4) pa_nilF))))) pss_nilF)
     (pss_consF (f := (sApp 5 (eTup (aCons (eCall 2 d_law_turned (aCons (eV 3) (aCons (eV 7) aNil))) (aCons (eV 9) (aCons (eOfT (eB2 gEq (eMod (eV 6) (eC (.int 2))) (eC (.int 1)))) aNil)))))) (g := (L1_law_joined_3)) (ps_app 5 (pe_bm PySem.F.plainAttrs_list PySem.F.slot_list_append PySem.F.type_list_append mt_append (pv 5) (pa_cons (pf_tup (pa_consF (pf_call (ok_law_turned T) (hr.mono (by omega)) T.m_law_turned T.F_law_turned.kp T.b_law_turned rfl (pa_consF (pf_v 3) (pa_consF (pf_v 7) pa_nilF))) (pa_consF (pf_v 9) (pa_consF (pf_cmp cm_eq (pf_mod (pf_v 6) pf_int) pf_int) pa_nilF)))) pa_nil)))
     (pss_oneF (ps_setF 6 sc_law_joined.nd (pf_div (pf_v 6) pf_int)))))))
     (pss_oneF (ps_retO 5))))))))))
theorem sc_law_altered : FnScope ["_law_dims", "_law_cell", "_law_number", "_law_parts", "_law_at", "_law_other", "_law_corner", "_law_turn_here", "_law_back"] ["_law_dims", "_law_cell"] (defScope s_law_altered) := ⟨rfl, rfl, rfl, by decide +kernel, rfl, by decide +kernel, by decide +kernel⟩
def B_law_altered_6 : Sf := (sRetO 3)
def B_law_altered_5 : Sf := (sSeq (sIf (eB2 gEq (eMod (eV 5) (eC (.int 3))) (eC (.int 0))) (sItem 3 (eV 4) (eTup (aCons (eV 6) (aCons (eV 7) (aCons (eOfT (tNotF (tB1 (eV 8)))) aNil))))) (sItem 3 (eV 4) (eTup (aCons (eV 6) (aCons (eCall 2 d_law_turn (aCons (eDiv (eV 5) (eC (.int 3))) (aCons (eV 0) aNil))) (aCons (eOfT (eB2 gEq (eMod (eDiv (eV 5) (eC (.int 200))) (eC (.int 2))) (eC (.int 1)))) aNil))))))
   (B_law_altered_6))
def B_law_altered_4 : Sf := (sSeq (sAsg (eIxO 3 (eV 4)) (gT (gsCons (gN 6) (gsCons (gN 7) (gsCons (gN 8) gsNil)))))
   (B_law_altered_5))
def B_law_altered_3 : Sf := (sSeq (sSet 5 (eCall 2 d_law_mix (aCons (eV 1) (aCons (eC (.int 39373)) aNil))))
   (B_law_altered_4))
def B_law_altered_2 : Sf := (sSeq (sSet 4 (eMod (eV 2) (eLenO 3)))
   (B_law_altered_3))
def B_law_altered_1 : Sf := (sSeq (sOwn 3 (lCall 2 d_law_joined (aCons (eV 0) (aCons (eDiv (eV 2) (eC (.int 8))) aNil))))
   (B_law_altered_2))
def B_law_altered_0 : Sf := (sSeq (sSet 2 (eCall 2 d_law_mix (aCons (eV 1) (aCons (eC (.int 16807)) aNil))))
   (B_law_altered_1))
def b_law_altered : Sf :=
   (B_law_altered_0)
def d_law_altered : List D -> Option (List D) := fnL 9 b_law_altered
theorem ok_law_altered (T : Txt K mg) : FnOk P w K mg base CX0 3 T.f_law_altered T.fd_law_altered ["_law_dims", "_law_cell"] (spL K 2 d_law_altered) :=
 ok_fnL (k := 2) T.F_law_altered sc_law_altered fun cdv A outer s H E hr =>
   (pss_consF (f := (sSet 2 (eCall 2 d_law_mix (aCons (eV 1) (aCons (eC (.int 16807)) aNil))))) (g := (B_law_altered_1)) (ps_setF 2 sc_law_altered.nd (pf_call (ok_law_mix T) (hr.mono (by omega)) T.m_law_mix T.F_law_mix.kp T.b_law_mix rfl (pa_consF (pf_v 1) (pa_consF pf_int pa_nilF))))
     (pss_consF (f := (sOwn 3 (lCall 2 d_law_joined (aCons (eV 0) (aCons (eDiv (eV 2) (eC (.int 8))) aNil))))) (g := (B_law_altered_2)) (ps_own 3 sc_law_altered.nd (pl_call (ok_law_joined T) (hr.mono (by omega)) T.m_law_joined T.F_law_joined.kp T.b_law_joined rfl (pa_consF (pf_v 0) (pa_consF (pf_div (pf_v 2) pf_int) pa_nilF))))
     (pss_consF (f := (sSet 4 (eMod (eV 2) (eLenO 3)))) (g := (B_law_altered_3)) (ps_setF 4 sc_law_altered.nd (pf_mod (pf_v 2) (pf_lenO 3 rfl T.z_len)))
     (pss_consF (f := (sSet 5 (eCall 2 d_law_mix (aCons (eV 1) (aCons (eC (.int 39373)) aNil))))) (g := (B_law_altered_4)) (ps_setF 5 sc_law_altered.nd (pf_call (ok_law_mix T) (hr.mono (by omega)) T.m_law_mix T.F_law_mix.kp T.b_law_mix rfl (pa_consF (pf_v 1) (pa_consF pf_int pa_nilF))))
     (pss_consF (f := (sAsg (eIxO 3 (eV 4)) (gT (gsCons (gN 6) (gsCons (gN 7) (gsCons (gN 8) gsNil)))))) (g := (B_law_altered_5)) (ps_asgF (pf_ixO 3 (pf_v 4)) (pg_t 3 rfl (pgs_consF (pg_n 6 sc_law_altered.nd) (pgs_consF (pg_n 7 sc_law_altered.nd) (pgs_consF (pg_n 8 sc_law_altered.nd) pgs_nilF))) (gs_len1 (gs_len1 (gs_len1 gs_len0)))))
     (pss_consF (f := (sIf (eB2 gEq (eMod (eV 5) (eC (.int 3))) (eC (.int 0))) (sItem 3 (eV 4) (eTup (aCons (eV 6) (aCons (eV 7) (aCons (eOfT (tNotF (tB1 (eV 8)))) aNil))))) (sItem 3 (eV 4) (eTup (aCons (eV 6) (aCons (eCall 2 d_law_turn (aCons (eDiv (eV 5) (eC (.int 3))) (aCons (eV 0) aNil))) (aCons (eOfT (eB2 gEq (eMod (eDiv (eV 5) (eC (.int 200))) (eC (.int 2))) (eC (.int 1)))) aNil))))))) (g := (B_law_altered_6)) (ps_ifF (pt_cmpF cm_eq (pf_mod (pf_v 5) pf_int) pf_int) (pss_oneF (ps_item 3 (pf_tup (pa_consF (pf_v 6) (pa_consF (pf_v 7) (pa_consF (pf_not (pf_v 8)) pa_nilF)))) (pf_v 4))) (pss_oneF (ps_item 3 (pf_tup (pa_consF (pf_v 6) (pa_consF (pf_call (ok_law_turn T) (hr.mono (by omega)) T.m_law_turn T.F_law_turn.kp T.b_law_turn rfl (pa_consF (pf_div (pf_v 5) pf_int) (pa_consF (pf_v 0) pa_nilF))) (pa_consF (pf_cmp cm_eq (pf_mod (pf_div (pf_v 5) pf_int) pf_int) pf_int) pa_nilF)))) (pf_v 4))))
     (pss_oneF (ps_retO 3))))))))
theorem sc_law_corners : FnScope ["_law_dims", "_law_corners_here"] ["_law_dims"] (defScope s_law_corners) := ⟨rfl, rfl, rfl, by decide +kernel, rfl, by decide +kernel, by decide +kernel⟩
def B_law_corners_2 : Sf := (sRetO 1)
def B_law_corners_1 : Sf := (sSeq (sIf (eB2 gEq (eV 0) (eC (.int 3))) (sFrz 1 (sOwn 1 (lCat (lComp (iL (eV 1)) 2 [] (gT (gsCons (gN 0) (gsCons (gN 1) gsNil))) tOK (eTup (aCons (eV 0) (aCons (eV 1) (aCons (eC (.int 0)) aNil))))) (lComp (iL (eV 1)) 2 [] (gT (gsCons (gN 0) (gsCons (gN 1) gsNil))) tOK (eTup (aCons (eV 0) (aCons (eV 1) (aCons (eC (.int 1)) aNil)))))))) sNil)
   (B_law_corners_2))
def B_law_corners_0 : Sf := (sSeq (sOwn 1 (lDisp (aCons (eTup (aCons (eC (.int 0)) (aCons (eC (.int 0)) aNil))) (aCons (eTup (aCons (eC (.int 1)) (aCons (eC (.int 0)) aNil))) (aCons (eTup (aCons (eC (.int 0)) (aCons (eC (.int 1)) aNil))) (aCons (eTup (aCons (eC (.int 1)) (aCons (eC (.int 1)) aNil))) aNil))))))
   (B_law_corners_1))
def b_law_corners : Sf :=
   (B_law_corners_0)
def d_law_corners : List D -> Option (List D) := fnL 2 b_law_corners
theorem ok_law_corners (T : Txt K mg) : FnOk P w K mg base CX0 1 T.f_law_corners T.fd_law_corners ["_law_dims"] (spL K 1 d_law_corners) :=
 ok_fnL (k := 0) T.F_law_corners sc_law_corners fun cdv A outer s H E hr =>
   (pss_consF (f := (sOwn 1 (lDisp (aCons (eTup (aCons (eC (.int 0)) (aCons (eC (.int 0)) aNil))) (aCons (eTup (aCons (eC (.int 1)) (aCons (eC (.int 0)) aNil))) (aCons (eTup (aCons (eC (.int 0)) (aCons (eC (.int 1)) aNil))) (aCons (eTup (aCons (eC (.int 1)) (aCons (eC (.int 1)) aNil))) aNil))))))) (g := (B_law_corners_1)) (ps_own 1 sc_law_corners.nd (pl_disp (pa_consF (pf_tup (pa_consF pf_int (pa_consF pf_int pa_nilF))) (pa_consF (pf_tup (pa_consF pf_int (pa_consF pf_int pa_nilF))) (pa_consF (pf_tup (pa_consF pf_int (pa_consF pf_int pa_nilF))) (pa_consF (pf_tup (pa_consF pf_int (pa_consF pf_int pa_nilF))) pa_nilF))))))
     (pss_consF (f := (sIf (eB2 gEq (eV 0) (eC (.int 3))) (sFrz 1 (sOwn 1 (lCat (lComp (iL (eV 1)) 2 [] (gT (gsCons (gN 0) (gsCons (gN 1) gsNil))) tOK (eTup (aCons (eV 0) (aCons (eV 1) (aCons (eC (.int 0)) aNil))))) (lComp (iL (eV 1)) 2 [] (gT (gsCons (gN 0) (gsCons (gN 1) gsNil))) tOK (eTup (aCons (eV 0) (aCons (eV 1) (aCons (eC (.int 1)) aNil)))))))) sNil)) (g := (B_law_corners_2)) (ps_ifF (pt_cmpF cm_eq (pf_v 0) pf_int) (pss_oneF (ps_frz 1 (ps_own 1 sc_law_corners.nd (pl_cat (pl_comp (defScope s_law_corners) ["_law_dims", "_law_corners_here"] ["_law_x", "_law_y"] [] [] (go_t (gso_cons (go_n 0) (gso_cons (go_n 1) gso_nil))) (pi_l (pf_v 1)) rfl rfl rfl (by decide +kernel) (fun _ _ _ _ => (pg_t 2 rfl (pgs_consF (pg_n 0 (show (List.Nodup (α := PySem.Str) ["_law_x", "_law_y"]) from by decide +kernel)) (pgs_consF (pg_n 1 (show (List.Nodup (α := PySem.Str) ["_law_x", "_law_y"]) from by decide +kernel)) pgs_nilF)) (gs_len1 (gs_len1 gs_len0)))) (fun _ _ _ _ => pifs_nilF) (fun _ _ _ _ => (pf_tup (pa_consF (pf_v 0) (pa_consF (pf_v 1) (pa_consF pf_int pa_nilF)))))) (pl_comp (defScope s_law_corners) ["_law_dims", "_law_corners_here"] ["_law_x", "_law_y"] [] [] (go_t (gso_cons (go_n 0) (gso_cons (go_n 1) gso_nil))) (pi_l (pf_v 1)) rfl rfl rfl (by decide +kernel) (fun _ _ _ _ => (pg_t 2 rfl (pgs_consF (pg_n 0 (show (List.Nodup (α := PySem.Str) ["_law_x", "_law_y"]) from by decide +kernel)) (pgs_consF (pg_n 1 (show (List.Nodup (α := PySem.Str) ["_law_x", "_law_y"]) from by decide +kernel)) pgs_nilF)) (gs_len1 (gs_len1 gs_len0)))) (fun _ _ _ _ => pifs_nilF) (fun _ _ _ _ => (pf_tup (pa_consF (pf_v 0) (pa_consF (pf_v 1) (pa_consF pf_int pa_nilF)))))))))) pss_nilF)
     (pss_oneF (ps_retO 1))))
theorem sc_law_loose : FnScope ["_law_dims", "_law_cell", "_law_left", "_law_parts", "_law_number", "_law_corner"] ["_law_dims", "_law_cell"] (defScope s_law_loose) := ⟨rfl, rfl, rfl, by decide +kernel, rfl, by decide +kernel, by decide +kernel⟩
def B_law_loose_3 : Sf := (sRetO 3)
def B_law_loose_2 : Sf := (sSeq (whileF (tOwnNe 2) (sSeq (sSet 4 (eCall 2 d_law_mix (aCons (eV 1) (aCons (eAdd (eC (.int 48271)) (eMul (eC (.int 997)) (eLenO 2))) aNil))))
   (sSeq (sPop 5 2 (eMod (eV 4) (eLenO 2)))
   (sApp 3 (eTup (aCons (eV 5) (aCons (eCall 2 d_law_turn (aCons (eDiv (eV 4) (eC (.int 8))) (aCons (eV 0) aNil))) (aCons (eOfT (eB2 gEq (eMod (eDiv (eV 4) (eC (.int 800))) (eC (.int 2))) (eC (.int 1)))) aNil))))))) 100)
   (B_law_loose_3))
def B_law_loose_1 : Sf := (sSeq (sOwn 3 (lDisp aNil))
   (B_law_loose_2))
def B_law_loose_0 : Sf := (sSeq (sOwn 2 (lCall 1 d_law_corners (aCons (eV 0) aNil)))
   (B_law_loose_1))
def b_law_loose : Sf :=
   (B_law_loose_0)
def d_law_loose : List D -> Option (List D) := fnL 6 b_law_loose
theorem ok_law_loose (T : Txt K mg) : FnOk P w K mg base CX0 2 T.f_law_loose T.fd_law_loose ["_law_dims", "_law_cell"] (spL K 2 d_law_loose) :=
 ok_fnL (k := 1) T.F_law_loose sc_law_loose fun cdv A outer s H E hr =>
   (pss_consF (f := (sOwn 2 (lCall 1 d_law_corners (aCons (eV 0) aNil)))) (g := (B_law_loose_1)) (ps_own 2 sc_law_loose.nd (pl_call (ok_law_corners T) (hr.mono (by omega)) T.m_law_corners T.F_law_corners.kp T.b_law_corners rfl (pa_consF (pf_v 0) pa_nilF)))
     (pss_consF (f := (sOwn 3 (lDisp aNil))) (g := (B_law_loose_2)) (ps_own 3 sc_law_loose.nd (pl_disp pa_nilF))
     (pss_consF (f := (whileF (tOwnNe 2) (sSeq (sSet 4 (eCall 2 d_law_mix (aCons (eV 1) (aCons (eAdd (eC (.int 48271)) (eMul (eC (.int 997)) (eLenO 2))) aNil))))
   (sSeq (sPop 5 2 (eMod (eV 4) (eLenO 2)))
   (sApp 3 (eTup (aCons (eV 5) (aCons (eCall 2 d_law_turn (aCons (eDiv (eV 4) (eC (.int 8))) (aCons (eV 0) aNil))) (aCons (eOfT (eB2 gEq (eMod (eDiv (eV 4) (eC (.int 800))) (eC (.int 2))) (eC (.int 1)))) aNil))))))) 100)) (g := (B_law_loose_3)) (ps_whileF 100 PassesOwn.never (pt_ownNe 2 hr) (pss_consF (ps_setF 4 sc_law_loose.nd (pf_call (ok_law_mix T) (hr.mono (by omega)) T.m_law_mix T.F_law_mix.kp T.b_law_mix rfl (pa_consF (pf_v 1) (pa_consF (pf_add pf_int (pf_mul pf_int (pf_lenO 2 rfl T.z_len))) pa_nilF))))
     (pss_consF (ps_popF 5 2 sc_law_loose.nd (pe_bm PySem.F.plainAttrs_list PySem.F.slot_list_pop PySem.F.type_list_pop mt_popAt (pv 2) (pa_cons (pf_mod (pf_v 4) (pf_lenO 2 rfl T.z_len)) pa_nil)))
     (pss_oneF (ps_app 3 (pe_bm PySem.F.plainAttrs_list PySem.F.slot_list_append PySem.F.type_list_append mt_append (pv 3) (pa_cons (pf_tup (pa_consF (pf_v 5) (pa_consF (pf_call (ok_law_turn T) (hr.mono (by omega)) T.m_law_turn T.F_law_turn.kp T.b_law_turn rfl (pa_consF (pf_div (pf_v 4) pf_int) (pa_consF (pf_v 0) pa_nilF))) (pa_consF (pf_cmp cm_eq (pf_mod (pf_div (pf_v 4) pf_int) pf_int) pf_int) pa_nilF)))) pa_nil)))))))
     (pss_oneF (ps_retO 3)))))
theorem sc_law_drawn : FnScope ["_law_dims", "_law_cell", "_law_number"] ["_law_dims", "_law_cell"] (defScope s_law_drawn) := ⟨rfl, rfl, rfl, by decide +kernel, rfl, by decide +kernel, by decide +kernel⟩
def B_law_drawn_3 : Sf := (sRetL (lCall 2 d_law_altered (aCons (eV 0) (aCons (eV 1) aNil))))
def B_law_drawn_2 : Sf := (sSeq (sIf (eB2 gEq (eMod (eV 2) (eC (.int 4))) (eC (.int 1))) (sRetL (lCall 2 d_law_joined (aCons (eV 0) (aCons (eDiv (eV 2) (eC (.int 4))) aNil)))) sNil)
   (B_law_drawn_3))
def B_law_drawn_1 : Sf := (sSeq (sIf (eB2 gEq (eMod (eV 2) (eC (.int 4))) (eC (.int 0))) (sRetL (lCall 2 d_law_loose (aCons (eV 0) (aCons (eV 1) aNil)))) sNil)
   (B_law_drawn_2))
def B_law_drawn_0 : Sf := (sSeq (sSet 2 (eCall 2 d_law_mix (aCons (eV 1) (aCons (eC (.int 40692)) aNil))))
   (B_law_drawn_1))
def b_law_drawn : Sf :=
   (B_law_drawn_0)
def d_law_drawn : List D -> Option (List D) := fnL 3 b_law_drawn
theorem ok_law_drawn (T : Txt K mg) : FnOk P w K mg base CX0 4 T.f_law_drawn T.fd_law_drawn ["_law_dims", "_law_cell"] (spL K 2 d_law_drawn) :=
 ok_fnL (k := 3) T.F_law_drawn sc_law_drawn fun cdv A outer s H E hr =>
   (pss_consF (f := (sSet 2 (eCall 2 d_law_mix (aCons (eV 1) (aCons (eC (.int 40692)) aNil))))) (g := (B_law_drawn_1)) (ps_setF 2 sc_law_drawn.nd (pf_call (ok_law_mix T) (hr.mono (by omega)) T.m_law_mix T.F_law_mix.kp T.b_law_mix rfl (pa_consF (pf_v 1) (pa_consF pf_int pa_nilF))))
     (pss_consF (f := (sIf (eB2 gEq (eMod (eV 2) (eC (.int 4))) (eC (.int 0))) (sRetL (lCall 2 d_law_loose (aCons (eV 0) (aCons (eV 1) aNil)))) sNil)) (g := (B_law_drawn_2)) (ps_ifF (pt_cmpF cm_eq (pf_mod (pf_v 2) pf_int) pf_int) (pss_oneF (ps_retL (pl_call (ok_law_loose T) (hr.mono (by omega)) T.m_law_loose T.F_law_loose.kp T.b_law_loose rfl (pa_consF (pf_v 0) (pa_consF (pf_v 1) pa_nilF))))) pss_nilF)
     (pss_consF (f := (sIf (eB2 gEq (eMod (eV 2) (eC (.int 4))) (eC (.int 1))) (sRetL (lCall 2 d_law_joined (aCons (eV 0) (aCons (eDiv (eV 2) (eC (.int 4))) aNil)))) sNil)) (g := (B_law_drawn_3)) (ps_ifF (pt_cmpF cm_eq (pf_mod (pf_v 2) pf_int) pf_int) (pss_oneF (ps_retL (pl_call (ok_law_joined T) (hr.mono (by omega)) T.m_law_joined T.F_law_joined.kp T.b_law_joined rfl (pa_consF (pf_v 0) (pa_consF (pf_div (pf_v 2) pf_int) pa_nilF))))) pss_nilF)
     (pss_oneF (ps_retL (pl_call (ok_law_altered T) (hr.mono (by omega)) T.m_law_altered T.F_law_altered.kp T.b_law_altered rfl (pa_consF (pf_v 0) (pa_consF (pf_v 1) pa_nilF))))))))
theorem sc_full : FnScope ["dims", "level", "places", "halving"] ["dims", "level"] (defScope s_full) := ⟨rfl, rfl, rfl, by decide +kernel, rfl, by decide +kernel, by decide +kernel⟩
def L1_full_0 : Sf := (sSet 2 (eMul (eV 2) (eC (.int 2))))
def B_full_2 : Sf := (sRet (eV 2))
def B_full_1 : Sf := (sSeq (sFor (iR (eMul (eV 0) (eV 1))) (gN 3) (L1_full_0))
   (B_full_2))
def B_full_0 : Sf := (sSeq (sSet 2 (eC (.int 1)))
   (B_full_1))
def b_full : Sf :=
   (B_full_0)
def d_full : List D -> Option D := fnF 4 b_full
theorem ok_full (T : Txt K mg) : FnOk P w K mg base CX0 1 T.f_full T.fd_full ["dims", "level"] (spF K 2 d_full) :=
 ok_fn (k := 0) T.F_full sc_full fun cdv A outer s H E hr =>
   (pss_consF (f := (sSet 2 (eC (.int 1)))) (g := (B_full_1)) (ps_setF 2 sc_full.nd pf_int)
     (pss_consF (f := (sFor (iR (eMul (eV 0) (eV 1))) (gN 3) (L1_full_0))) (g := (B_full_2)) (ps_forF PassesOwn.never rfl (pi_r rfl T.z_range (pf_mul (pf_v 0) (pf_v 1))) (pg_n 3 sc_full.nd) (pss_oneF (ps_setF 2 sc_full.nd (pf_mul (pf_v 2) pf_int))))
     (pss_oneF (ps_retF (pf_v 2)))))
theorem sc_still : FnScope ["dims"] ["dims"] (defScope s_still) := ⟨rfl, rfl, rfl, by decide +kernel, rfl, by decide +kernel, by decide +kernel⟩
def B_still_0 : Sf := (sRet (eTupOf (eL (lComp (iR (eV 0)) 1 [] (gN 0) tOK (eTup (aCons (eV 0) (aCons (eC (.int 0)) aNil)))))))
def b_still : Sf :=
   (B_still_0)
def d_still : List D -> Option D := fnF 1 b_still
theorem ok_still (T : Txt K mg) : FnOk P w K mg base CX0 1 T.f_still T.fd_still ["dims"] (spF K 1 d_still) :=
 ok_fn (k := 0) T.F_still sc_still fun cdv A outer s H E hr =>
   (pss_oneF (ps_retF (pf_tupOf rfl T.z_tuple (pf_l (pl_comp (defScope s_still) ["dims"] ["axis"] [] [] (go_n 0) (pi_r rfl T.z_range (pf_v 0)) rfl rfl rfl (by decide +kernel) (fun _ _ _ _ => (pg_n 0 (show (List.Nodup (α := PySem.Str) ["axis"]) from by decide +kernel))) (fun _ _ _ _ => pifs_nilF) (fun _ _ _ _ => (pf_tup (pa_consF (pf_v 0) (pa_consF pf_int pa_nilF)))))))))
theorem sc_first_state : FnScope ["dims"] ["dims"] (defScope s_first_state) := ⟨rfl, rfl, rfl, by decide +kernel, rfl, by decide +kernel, by decide +kernel⟩
def B_first_state_0 : Sf := (sRet (eTup (aCons (eCall 1 d_still (aCons (eV 0) aNil)) (aCons (eC (.bl false)) aNil))))
def b_first_state : Sf :=
   (B_first_state_0)
def d_first_state : List D -> Option D := fnF 1 b_first_state
theorem ok_first_state (T : Txt K mg) : FnOk P w K mg base CX0 2 T.f_first_state T.fd_first_state ["dims"] (spF K 1 d_first_state) :=
 ok_fn (k := 1) T.F_first_state sc_first_state fun cdv A outer s H E hr =>
   (pss_oneF (ps_retF (pf_tup (pa_consF (pf_call (ok_still T) (hr.mono (by omega)) T.m_still T.F_still.kp T.b_still rfl (pa_consF (pf_v 0) pa_nilF)) (pa_consF pf_bl pa_nilF)))))
theorem sc_digits_of : FnScope ["number", "base", "many", "digits", "step"] ["number", "base", "many"] (defScope s_digits_of) := ⟨rfl, rfl, rfl, by decide +kernel, rfl, by decide +kernel, by decide +kernel⟩
def L1_digits_of_1 : Sf := (sSet 0 (eDiv (eV 0) (eV 1)))
def L1_digits_of_0 : Sf := (sSeq (sApp 3 (eMod (eV 0) (eV 1)))
   (L1_digits_of_1))
def B_digits_of_2 : Sf := (sFrz 3 (sRetL (lRev1 (iL (eV 3)) (eNeg (eC (.int 1))))))
def B_digits_of_1 : Sf := (sSeq (sFor (iR (eV 2)) (gN 4) (L1_digits_of_0))
   (B_digits_of_2))
def B_digits_of_0 : Sf := (sSeq (sOwn 3 (lDisp aNil))
   (B_digits_of_1))
def b_digits_of : Sf :=
   (B_digits_of_0)
def d_digits_of : List D -> Option (List D) := fnL 5 b_digits_of
theorem ok_digits_of (T : Txt K mg) : FnOk P w K mg base CX0 1 T.f_digits_of T.fd_digits_of ["number", "base", "many"] (spL K 3 d_digits_of) :=
 ok_fnL (k := 0) T.F_digits_of sc_digits_of fun cdv A outer s H E hr =>
   (pss_consF (f := (sOwn 3 (lDisp aNil))) (g := (B_digits_of_1)) (ps_own 3 sc_digits_of.nd (pl_disp pa_nilF))
     (pss_consF (f := (sFor (iR (eV 2)) (gN 4) (L1_digits_of_0))) (g := (B_digits_of_2)) (ps_forF PassesOwn.never rfl (pi_r rfl T.z_range (pf_v 2)) (pg_n 4 sc_digits_of.nd) (pss_consF (f := (sApp 3 (eMod (eV 0) (eV 1)))) (g := (L1_digits_of_1)) (ps_app 3 (pe_bm PySem.F.plainAttrs_list PySem.F.slot_list_append PySem.F.type_list_append mt_append (pv 3) (pa_cons (pf_mod (pf_v 0) (pf_v 1)) pa_nil)))
     (pss_oneF (ps_setF 0 sc_digits_of.nd (pf_div (pf_v 0) (pf_v 1))))))
     (pss_oneF (ps_frz 3 (ps_retL (pl_rev1 (src_l (pf_v 3)) (pf_neg pf_int)))))))
theorem sc_walked : FnScope ["curve", "back", "number"] ["curve", "back", "number"] (defScope s_walked) := ⟨rfl, rfl, rfl, by decide +kernel, rfl, by decide +kernel, by decide +kernel⟩
def B_walked_0 : Sf := (sRet (eIf (tB1 (eV 1)) (eSub (eSub (eLen (eFld "Curve" "parts" (eV 0))) (eC (.int 1))) (eV 2)) (eV 2)))
def b_walked : Sf :=
   (B_walked_0)
def d_walked : List D -> Option D := fnF 3 b_walked
theorem ok_walked (T : Txt K mg) : FnOk P w K mg base CX0 1 T.f_walked T.fd_walked ["curve", "back", "number"] (spF K 3 d_walked) :=
 ok_fn (k := 0) T.F_walked sc_walked fun cdv A outer s H E hr =>
   (pss_oneF (ps_retF (pf_if (pt_valF (pf_v 1)) (pf_sub (pf_sub (pf_len rfl T.z_len (pf_fld T.ca_Curve T.cl_Curve T.n_Curve_parts (pf_v 0))) pf_int) (pf_v 2)) (pf_v 2))))
theorem sc_after : FnScope ["one", "other"] ["one", "other"] (defScope s_after) := ⟨rfl, rfl, rfl, by decide +kernel, rfl, by decide +kernel, by decide +kernel⟩
def B_after_0 : Sf := (sRet (eTupOf (eL (lComp (iT (eV 0)) 2 [1] (gT (gsCons (gN 0) (gsCons (gN 1) gsNil))) tOK (eTup (aCons (eIx (eIx (eV 2) (eV 0)) (eC (.int 0))) (aCons (eXor (eIx (eIx (eV 2) (eV 0)) (eC (.int 1))) (eV 1)) aNil)))))))
def b_after : Sf :=
   (B_after_0)
def d_after : List D -> Option D := fnF 2 b_after
theorem ok_after (T : Txt K mg) : FnOk P w K mg base CX0 1 T.f_after T.fd_after ["one", "other"] (spF K 2 d_after) :=
 ok_fn (k := 0) T.F_after sc_after fun cdv A outer s H E hr =>
   (pss_oneF (ps_retF (pf_tupOf rfl T.z_tuple (pf_l (pl_comp (defScope s_after) ["one", "other"] ["axis", "flip"] ["other"] [1] (go_t (gso_cons (go_n 0) (gso_cons (go_n 1) gso_nil))) (pi_t (pf_v 0)) rfl rfl rfl (by decide +kernel) (fun _ _ _ _ => (pg_t 2 rfl (pgs_consF (pg_n 0 (show (List.Nodup (α := PySem.Str) ["axis", "flip", "other"]) from by decide +kernel)) (pgs_consF (pg_n 1 (show (List.Nodup (α := PySem.Str) ["axis", "flip", "other"]) from by decide +kernel)) pgs_nilF)) (gs_len1 (gs_len1 gs_len0)))) (fun _ _ _ _ => pifs_nilF) (fun _ _ _ _ => (pf_tup (pa_consF (pf_ix (pf_ix (pf_v 2) (pf_v 0)) pf_int) (pa_consF (pf_xor (pf_ix (pf_ix (pf_v 2) (pf_v 0)) pf_int) (pf_v 1)) pa_nilF)))))))))
theorem sc_turned : FnScope ["turn", "corner"] ["turn", "corner"] (defScope s_turned) := ⟨rfl, rfl, rfl, by decide +kernel, rfl, by decide +kernel, by decide +kernel⟩
def B_turned_0 : Sf := (sRet (eTupOf (eL (lComp (iT (eV 0)) 2 [1] (gT (gsCons (gN 0) (gsCons (gN 1) gsNil))) tOK (eXor (eIx (eV 2) (eV 0)) (eV 1))))))
def b_turned : Sf :=
   (B_turned_0)
def d_turned : List D -> Option D := fnF 2 b_turned
theorem ok_turned (T : Txt K mg) : FnOk P w K mg base CX0 1 T.f_turned T.fd_turned ["turn", "corner"] (spF K 2 d_turned) :=
 ok_fn (k := 0) T.F_turned sc_turned fun cdv A outer s H E hr =>
   (pss_oneF (ps_retF (pf_tupOf rfl T.z_tuple (pf_l (pl_comp (defScope s_turned) ["turn", "corner"] ["axis", "flip"] ["corner"] [1] (go_t (gso_cons (go_n 0) (gso_cons (go_n 1) gso_nil))) (pi_t (pf_v 0)) rfl rfl rfl (by decide +kernel) (fun _ _ _ _ => (pg_t 2 rfl (pgs_consF (pg_n 0 (show (List.Nodup (α := PySem.Str) ["axis", "flip", "corner"]) from by decide +kernel)) (pgs_consF (pg_n 1 (show (List.Nodup (α := PySem.Str) ["axis", "flip", "corner"]) from by decide +kernel)) pgs_nilF)) (gs_len1 (gs_len1 gs_len0)))) (fun _ _ _ _ => pifs_nilF) (fun _ _ _ _ => (pf_xor (pf_ix (pf_v 2) (pf_v 0)) (pf_v 1))))))))
theorem sc_part_at : FnScope ["curve", "state", "digit", "turn", "back", "part", "inner"] ["curve", "state", "digit"] (defScope s_part_at) := ⟨rfl, rfl, rfl, by decide +kernel, rfl, by decide +kernel, by decide +kernel⟩
def B_part_at_3 : Sf := (sRet (eTup (aCons (eCall 2 d_turned (aCons (eV 3) (aCons (eFld "Part" "corner" (eV 5)) aNil))) (aCons (eV 6) aNil))))
def B_part_at_2 : Sf := (sSeq (sSet 6 (eTup (aCons (eCall 2 d_after (aCons (eV 3) (aCons (eFld "Part" "turn" (eV 5)) aNil))) (aCons (eOfT (eB2 gNe (eV 4) (eFld "Part" "back" (eV 5)))) aNil))))
   (B_part_at_3))
def B_part_at_1 : Sf := (sSeq (sSet 5 (eIx (eFld "Curve" "parts" (eV 0)) (eCall 3 d_walked (aCons (eV 0) (aCons (eV 4) (aCons (eV 2) aNil))))))
   (B_part_at_2))
def B_part_at_0 : Sf := (sSeq (sAsg (eV 1) (gT (gsCons (gN 3) (gsCons (gN 4) gsNil))))
   (B_part_at_1))
def b_part_at : Sf :=
   (B_part_at_0)
def d_part_at : List D -> Option D := fnF 7 b_part_at
theorem ok_part_at (T : Txt K mg) : FnOk P w K mg base CX0 2 T.f_part_at T.fd_part_at ["curve", "state", "digit"] (spF K 3 d_part_at) :=
 ok_fn (k := 1) T.F_part_at sc_part_at fun cdv A outer s H E hr =>
   (pss_consF (f := (sAsg (eV 1) (gT (gsCons (gN 3) (gsCons (gN 4) gsNil))))) (g := (B_part_at_1)) (ps_asgF (pf_v 1) (pg_t 2 rfl (pgs_consF (pg_n 3 sc_part_at.nd) (pgs_consF (pg_n 4 sc_part_at.nd) pgs_nilF)) (gs_len1 (gs_len1 gs_len0))))
     (pss_consF (f := (sSet 5 (eIx (eFld "Curve" "parts" (eV 0)) (eCall 3 d_walked (aCons (eV 0) (aCons (eV 4) (aCons (eV 2) aNil))))))) (g := (B_part_at_2)) (ps_setF 5 sc_part_at.nd (pf_ix (pf_fld T.ca_Curve T.cl_Curve T.n_Curve_parts (pf_v 0)) (pf_call (ok_walked T) (hr.mono (by omega)) T.m_walked T.F_walked.kp T.b_walked rfl (pa_consF (pf_v 0) (pa_consF (pf_v 4) (pa_consF (pf_v 2) pa_nilF))))))
     (pss_consF (f := (sSet 6 (eTup (aCons (eCall 2 d_after (aCons (eV 3) (aCons (eFld "Part" "turn" (eV 5)) aNil))) (aCons (eOfT (eB2 gNe (eV 4) (eFld "Part" "back" (eV 5)))) aNil))))) (g := (B_part_at_3)) (ps_setF 6 sc_part_at.nd (pf_tup (pa_consF (pf_call (ok_after T) (hr.mono (by omega)) T.m_after T.F_after.kp T.b_after rfl (pa_consF (pf_v 3) (pa_consF (pf_fld T.ca_Part T.cl_Part T.n_Part_turn (pf_v 5)) pa_nilF))) (pa_consF (pf_cmp cm_ne (pf_v 4) (pf_fld T.ca_Part T.cl_Part T.n_Part_back (pf_v 5))) pa_nilF))))
     (pss_oneF (ps_retF (pf_tup (pa_consF (pf_call (ok_turned T) (hr.mono (by omega)) T.m_turned T.F_turned.kp T.b_turned rfl (pa_consF (pf_v 3) (pa_consF (pf_fld T.ca_Part T.cl_Part T.n_Part_corner (pf_v 5)) pa_nilF))) (pa_consF (pf_v 6) pa_nilF))))))))
theorem sc_deeper : FnScope ["place", "corner"] ["place", "corner"] (defScope s_deeper) := ⟨rfl, rfl, rfl, by decide +kernel, rfl, by decide +kernel, by decide +kernel⟩
def B_deeper_0 : Sf := (sRet (eTupOf (eL (lComp (iZip (eV 0) (eV 1)) 2 [] (gT (gsCons (gN 0) (gsCons (gN 1) gsNil))) tOK (eAdd (eMul (eC (.int 2)) (eV 0)) (eV 1))))))
def b_deeper : Sf :=
   (B_deeper_0)
def d_deeper : List D -> Option D := fnF 2 b_deeper
theorem ok_deeper (T : Txt K mg) : FnOk P w K mg base CX0 1 T.f_deeper T.fd_deeper ["place", "corner"] (spF K 2 d_deeper) :=
 ok_fn (k := 0) T.F_deeper sc_deeper fun cdv A outer s H E hr =>
   (pss_oneF (ps_retF (pf_tupOf rfl T.z_tuple (pf_l (pl_comp (defScope s_deeper) ["place", "corner"] ["along", "bit"] [] [] (go_t (gso_cons (go_n 0) (gso_cons (go_n 1) gso_nil))) (pi_zip rfl T.z_zip (pf_v 0) (pf_v 1)) rfl rfl rfl (by decide +kernel) (fun _ _ _ _ => (pg_t 2 rfl (pgs_consF (pg_n 0 (show (List.Nodup (α := PySem.Str) ["along", "bit"]) from by decide +kernel)) (pgs_consF (pg_n 1 (show (List.Nodup (α := PySem.Str) ["along", "bit"]) from by decide +kernel)) pgs_nilF)) (gs_len1 (gs_len1 gs_len0)))) (fun _ _ _ _ => pifs_nilF) (fun _ _ _ _ => (pf_add (pf_mul pf_int (pf_v 0)) (pf_v 1))))))))
theorem sc_place_at : FnScope ["curve", "level", "number", "state", "place", "digit", "corner"] ["curve", "level", "number"] (defScope s_place_at) := ⟨rfl, rfl, rfl, by decide +kernel, rfl, by decide +kernel, by decide +kernel⟩
def L1_place_at_1 : Sf := (sSet 4 (eCall 2 d_deeper (aCons (eV 4) (aCons (eV 6) aNil))))
def L1_place_at_0 : Sf := (sSeq (sAsg (eCall 3 d_part_at (aCons (eV 0) (aCons (eV 3) (aCons (eV 5) aNil)))) (gT (gsCons (gN 6) (gsCons (gN 3) gsNil))))
   (L1_place_at_1))
def B_place_at_4 : Sf := (sRet (eV 4))
def B_place_at_3 : Sf := (sSeq (sFor (lCall 3 d_digits_of (aCons (eV 2) (aCons (eLen (eFld "Curve" "parts" (eV 0))) (aCons (eV 1) aNil)))) (gN 5) (L1_place_at_0))
   (B_place_at_4))
def B_place_at_2 : Sf := (sSeq (sSet 4 (eTRep (eTup (aCons (eC (.int 0)) aNil)) (eFld "Curve" "dims" (eV 0))))
   (B_place_at_3))
def B_place_at_1 : Sf := (sSeq (sSet 3 (eCall 1 d_first_state (aCons (eFld "Curve" "dims" (eV 0)) aNil)))
   (B_place_at_2))
def B_place_at_0 : Sf := (sSeq (sIf (tNotF (eB3 gLe gLt (eC (.int 0)) (eV 2) (eCall 2 d_full (aCons (eFld "Curve" "dims" (eV 0)) (aCons (eV 1) aNil))))) (fun _ => none) sNil)
   (B_place_at_1))
def b_place_at : Sf :=
   (B_place_at_0)
def d_place_at : List D -> Option D := fnF 7 b_place_at
def xb_place_at : List B -> Option Str := (xIf (tNotF (eB3 gLe gLt (eC (.int 0)) (eV 2) (eCall 2 d_full (aCons (eFld "Curve" "dims" (eV 0)) (aCons (eV 1) aNil))))) (xRaise "OffFloor" qNil) xNil)
def x_place_at : List D -> Option Str := fnX 7 xb_place_at
theorem ok_place_at (T : Txt K mg) : FnOk P w K mg base (CXq P w) 3 T.f_place_at T.fd_place_at ["curve", "level", "number"] (spQ K 3 d_place_at x_place_at) :=
 ok_fnX (N := ["curve", "level", "number", "state", "place", "digit", "corner"]) (ps := ["curve", "level", "number"]) (k := 2) (body := b_place_at) (xb := xb_place_at) T.F_place_at sc_place_at (fun cdv A outer s H E hr =>
   (pss_consF (f := (sIf (tNotF (eB3 gLe gLt (eC (.int 0)) (eV 2) (eCall 2 d_full (aCons (eFld "Curve" "dims" (eV 0)) (aCons (eV 1) aNil))))) (fun _ => none) sNil)) (g := (B_place_at_1)) (ps_ifF (pt_notF (pt_chainF cm_le cm_lt pf_int (pf_v 2) (pf_call (ok_full T) (hr.mono (by omega)) T.m_full T.F_full.kp T.b_full rfl (pa_consF (pf_fld T.ca_Curve T.cl_Curve T.n_Curve_dims (pf_v 0)) (pa_consF (pf_v 1) pa_nilF))))) (pss_oneF ps_noneF) pss_nilF)
     (pss_consF (f := (sSet 3 (eCall 1 d_first_state (aCons (eFld "Curve" "dims" (eV 0)) aNil)))) (g := (B_place_at_2)) (ps_setF 3 sc_place_at.nd (pf_call (ok_first_state T) (hr.mono (by omega)) T.m_first_state T.F_first_state.kp T.b_first_state rfl (pa_consF (pf_fld T.ca_Curve T.cl_Curve T.n_Curve_dims (pf_v 0)) pa_nilF)))
     (pss_consF (f := (sSet 4 (eTRep (eTup (aCons (eC (.int 0)) aNil)) (eFld "Curve" "dims" (eV 0))))) (g := (B_place_at_3)) (ps_setF 4 sc_place_at.nd (pf_trep (pf_tup (pa_consF pf_int pa_nilF)) (pf_fld T.ca_Curve T.cl_Curve T.n_Curve_dims (pf_v 0))))
     (pss_consF (f := (sFor (lCall 3 d_digits_of (aCons (eV 2) (aCons (eLen (eFld "Curve" "parts" (eV 0))) (aCons (eV 1) aNil)))) (gN 5) (L1_place_at_0))) (g := (B_place_at_4)) (ps_forF PassesOwn.never rfl (pi_lr (pl_call (ok_digits_of T) (hr.mono (by omega)) T.m_digits_of T.F_digits_of.kp T.b_digits_of rfl (pa_consF (pf_v 2) (pa_consF (pf_len rfl T.z_len (pf_fld T.ca_Curve T.cl_Curve T.n_Curve_parts (pf_v 0))) (pa_consF (pf_v 1) pa_nilF))))) (pg_n 5 sc_place_at.nd) (pss_consF (f := (sAsg (eCall 3 d_part_at (aCons (eV 0) (aCons (eV 3) (aCons (eV 5) aNil)))) (gT (gsCons (gN 6) (gsCons (gN 3) gsNil))))) (g := (L1_place_at_1)) (ps_asgF (pf_call (ok_part_at T) (hr.mono (by omega)) T.m_part_at T.F_part_at.kp T.b_part_at rfl (pa_consF (pf_v 0) (pa_consF (pf_v 3) (pa_consF (pf_v 5) pa_nilF)))) (pg_t 2 rfl (pgs_consF (pg_n 6 sc_place_at.nd) (pgs_consF (pg_n 3 sc_place_at.nd) pgs_nilF)) (gs_len1 (gs_len1 gs_len0))))
     (pss_oneF (ps_setF 4 sc_place_at.nd (pf_call (ok_deeper T) (hr.mono (by omega)) T.m_deeper T.F_deeper.kp T.b_deeper rfl (pa_consF (pf_v 4) (pa_consF (pf_v 6) pa_nilF)))))))
     (pss_oneF (ps_retF (pf_v 4))))))))
   (fun cdv A outer s H E hr => (px_head (px_ifX (pt_notF (pt_chainF cm_le cm_lt pf_int (pf_v 2) (pf_call (ok_full T) (hr.mono (by omega)) T.m_full T.F_full.kp T.b_full rfl (pa_consF (pf_fld T.ca_Curve T.cl_Curve T.n_Curve_dims (pf_v 0)) (pa_consF (pf_v 1) pa_nilF))))) (px_head (px_raiseX T.ca_OffFloor T.xc_OffFloor rfl T.mc_OffFloor T.kc_OffFloor rfl rfl throwsQ any_c)) px_nilX)))
theorem ok_places_around (T : Txt K mg) : FnOk P w K mg base CX0 1 T.f_places_around T.fd_places_around ["place"] (spF K 1 fun _ => none) := fn_never
theorem sc_neighbours : FnScope ["curve", "level", "number", "around"] ["curve", "level", "number"] (defScope s_neighbours) := ⟨rfl, rfl, rfl, by decide +kernel, rfl, by decide +kernel, by decide +kernel⟩
def b_neighbours : Sf :=
   (fun _ => none)
def d_neighbours : List D -> Option D := fnF 4 b_neighbours
def xb_neighbours : List B -> Option Str := (xCall 3 x_place_at (aCons (eV 0) (aCons (eV 1) (aCons (eV 2) aNil))))
def x_neighbours : List D -> Option Str := fnX 4 xb_neighbours
theorem ok_neighbours (T : Txt K mg) : FnOk P w K mg base (CXq P w) 4 T.f_neighbours T.fd_neighbours ["curve", "level", "number"] (spQ K 3 d_neighbours x_neighbours) :=
 ok_fnX (N := ["curve", "level", "number", "around"]) (ps := ["curve", "level", "number"]) (k := 3) (body := b_neighbours) (xb := xb_neighbours) T.F_neighbours sc_neighbours (fun cdv A outer s H E hr =>
   pss_noneF)
   (fun cdv A outer s H E hr => (px_head (px_set 3 sc_neighbours.nd (px_arg (ok_places_around T) pass0 (hr.mono (by omega)) T.m_places_around T.F_places_around.kp T.b_places_around rfl (px_callX (ok_place_at T) passesQ (hr.mono (by omega)) T.m_place_at T.F_place_at.kp T.b_place_at rfl (pa_consF (pf_v 0) (pa_consF (pf_v 1) (pa_consF (pf_v 2) pa_nilF))))))))
theorem sc_has_place : FnScope ["dims", "level", "place", "side"] ["dims", "level", "place"] (defScope s_has_place) := ⟨rfl, rfl, rfl, by decide +kernel, rfl, by decide +kernel, by decide +kernel⟩
def B_has_place_1 : Sf := (sRet (eAndV (eOfT (eB2 gEq (eLen (eV 2)) (eV 0))) (eAll (eL (lComp (iT (eV 2)) 1 [3] (gN 0) tOK (eOfT (eB3 gLe gLt (eC (.int 0)) (eV 0) (eV 1))))))))
def B_has_place_0 : Sf := (sSeq (sSet 3 (eCall 2 d_full (aCons (eC (.int 1)) (aCons (eV 1) aNil))))
   (B_has_place_1))
def b_has_place : Sf :=
   (B_has_place_0)
def d_has_place : List D -> Option D := fnF 4 b_has_place
theorem ok_has_place (T : Txt K mg) : FnOk P w K mg base CX0 2 T.f_has_place T.fd_has_place ["dims", "level", "place"] (spF K 3 d_has_place) :=
 ok_fn (k := 1) T.F_has_place sc_has_place fun cdv A outer s H E hr =>
   (pss_consF (f := (sSet 3 (eCall 2 d_full (aCons (eC (.int 1)) (aCons (eV 1) aNil))))) (g := (B_has_place_1)) (ps_setF 3 sc_has_place.nd (pf_call (ok_full T) (hr.mono (by omega)) T.m_full T.F_full.kp T.b_full rfl (pa_consF pf_int (pa_consF (pf_v 1) pa_nilF))))
     (pss_oneF (ps_retF (pf_and (pf_cmp cm_eq (pf_len rfl T.z_len (pf_v 2)) (pf_v 0)) (pf_one (pf_all rfl rfl T.z_all (pf_l (pl_comp (defScope s_has_place) ["dims", "level", "place", "side"] ["along"] ["side"] [3] (go_n 0) (pi_t (pf_v 2)) rfl rfl rfl (by decide +kernel) (fun _ _ _ _ => (pg_n 0 (show (List.Nodup (α := PySem.Str) ["along", "side"]) from by decide +kernel))) (fun _ _ _ _ => pifs_nilF) (fun _ _ _ _ => (pf_chain cm_le cm_lt pf_int (pf_v 0) (pf_v 1)))))))))))
theorem sc_ask_place : FnScope ["dims", "level", "place"] ["dims", "level", "place"] (defScope s_ask_place) := ⟨rfl, rfl, rfl, by decide +kernel, rfl, by decide +kernel, by decide +kernel⟩
def B_ask_place_0 : Sf := (sIf (tNotF (tB1 (eCall 3 d_has_place (aCons (eV 0) (aCons (eV 1) (aCons (eV 2) aNil)))))) (fun _ => none) sNil)
def b_ask_place : Sf :=
   (B_ask_place_0)
def d_ask_place : List D -> Option D := fnF 3 b_ask_place
def xb_ask_place : List B -> Option Str := (xIf (tNotF (tB1 (eCall 3 d_has_place (aCons (eV 0) (aCons (eV 1) (aCons (eV 2) aNil)))))) (xRaise "OffFloor" qNil) xNil)
def x_ask_place : List D -> Option Str := fnX 3 xb_ask_place
theorem ok_ask_place (T : Txt K mg) : FnOk P w K mg base (CXq P w) 3 T.f_ask_place T.fd_ask_place ["dims", "level", "place"] (spQ K 3 d_ask_place x_ask_place) :=
 ok_fnX (N := ["dims", "level", "place"]) (ps := ["dims", "level", "place"]) (k := 2) (body := b_ask_place) (xb := xb_ask_place) T.F_ask_place sc_ask_place (fun cdv A outer s H E hr =>
   (pss_oneF (ps_ifF (pt_notF (pt_valF (pf_call (ok_has_place T) (hr.mono (by omega)) T.m_has_place T.F_has_place.kp T.b_has_place rfl (pa_consF (pf_v 0) (pa_consF (pf_v 1) (pa_consF (pf_v 2) pa_nilF)))))) (pss_oneF ps_noneF) pss_nilF)))
   (fun cdv A outer s H E hr => (px_head (px_ifX (pt_notF (pt_valF (pf_call (ok_has_place T) (hr.mono (by omega)) T.m_has_place T.F_has_place.kp T.b_has_place rfl (pa_consF (pf_v 0) (pa_consF (pf_v 1) (pa_consF (pf_v 2) pa_nilF)))))) (px_head (px_raiseX T.ca_OffFloor T.xc_OffFloor rfl T.mc_OffFloor T.kc_OffFloor rfl rfl throwsQ any_c)) px_nilX)))
theorem sc_undone : FnScope ["turn", "pairs", "bit", "axis", "flip"] ["turn"] (defScope s_undone) := ⟨rfl, rfl, rfl, by decide +kernel, rfl, by decide +kernel, by decide +kernel⟩
def L1_undone_1 : Sf := (sItem 1 (eV 3) (eTup (aCons (eV 2) (aCons (eV 4) aNil))))
def L1_undone_0 : Sf := (sSeq (sAsg (eIx (eV 0) (eV 2)) (gT (gsCons (gN 3) (gsCons (gN 4) gsNil))))
   (L1_undone_1))
def B_undone_2 : Sf := (sFrz 1 (sRet (eTupOf (eV 1))))
def B_undone_1 : Sf := (sSeq (sFor (iR (eLen (eV 0))) (gN 2) (L1_undone_0))
   (B_undone_2))
def B_undone_0 : Sf := (sSeq (sOwn 1 (lListOf (eV 0)))
   (B_undone_1))
def b_undone : Sf :=
   (B_undone_0)
def d_undone : List D -> Option D := fnF 5 b_undone
theorem ok_undone (T : Txt K mg) : FnOk P w K mg base CX0 1 T.f_undone T.fd_undone ["turn"] (spF K 1 d_undone) :=
 ok_fn (k := 0) T.F_undone sc_undone fun cdv A outer s H E hr =>
   (pss_consF (f := (sOwn 1 (lListOf (eV 0)))) (g := (B_undone_1)) (ps_own 1 sc_undone.nd (pl_listOf rfl T.z_list (pf_v 0)))
     (pss_consF (f := (sFor (iR (eLen (eV 0))) (gN 2) (L1_undone_0))) (g := (B_undone_2)) (ps_forF PassesOwn.never rfl (pi_r rfl T.z_range (pf_len rfl T.z_len (pf_v 0))) (pg_n 2 sc_undone.nd) (pss_consF (f := (sAsg (eIx (eV 0) (eV 2)) (gT (gsCons (gN 3) (gsCons (gN 4) gsNil))))) (g := (L1_undone_1)) (ps_asgF (pf_ix (pf_v 0) (pf_v 2)) (pg_t 2 rfl (pgs_consF (pg_n 3 sc_undone.nd) (pgs_consF (pg_n 4 sc_undone.nd) pgs_nilF)) (gs_len1 (gs_len1 gs_len0))))
     (pss_oneF (ps_item 1 (pf_tup (pa_consF (pf_v 2) (pa_consF (pf_v 4) pa_nilF))) (pf_v 3)))))
     (pss_oneF (ps_frz 1 (ps_retF (pf_tupOf rfl T.z_tuple (pf_v 1)))))))
theorem sc_digit_at : FnScope ["curve", "state", "corner", "turn", "back", "own", "corners"] ["curve", "state", "corner"] (defScope s_digit_at) := ⟨rfl, rfl, rfl, by decide +kernel, rfl, by decide +kernel, by decide +kernel⟩
def B_digit_at_3 : Sf := (sFrz 6 (sRet (eCall 3 d_walked (aCons (eV 0) (aCons (eV 4) (aCons (eIndex (iL (eV 6)) (eV 5)) aNil))))))
def B_digit_at_2 : Sf := (sSeq (sOwn 6 (lComp (iL (eFld "Curve" "parts" (eV 0))) 1 [] (gN 0) tOK (eFld "Part" "corner" (eV 0))))
   (B_digit_at_3))
def B_digit_at_1 : Sf := (sSeq (sSet 5 (eCall 2 d_turned (aCons (eCall 1 d_undone (aCons (eV 3) aNil)) (aCons (eV 2) aNil))))
   (B_digit_at_2))
def B_digit_at_0 : Sf := (sSeq (sAsg (eV 1) (gT (gsCons (gN 3) (gsCons (gN 4) gsNil))))
   (B_digit_at_1))
def b_digit_at : Sf :=
   (B_digit_at_0)
def d_digit_at : List D -> Option D := fnF 7 b_digit_at
theorem ok_digit_at (T : Txt K mg) : FnOk P w K mg base CX0 2 T.f_digit_at T.fd_digit_at ["curve", "state", "corner"] (spF K 3 d_digit_at) :=
 ok_fn (k := 1) T.F_digit_at sc_digit_at fun cdv A outer s H E hr =>
   (pss_consF (f := (sAsg (eV 1) (gT (gsCons (gN 3) (gsCons (gN 4) gsNil))))) (g := (B_digit_at_1)) (ps_asgF (pf_v 1) (pg_t 2 rfl (pgs_consF (pg_n 3 sc_digit_at.nd) (pgs_consF (pg_n 4 sc_digit_at.nd) pgs_nilF)) (gs_len1 (gs_len1 gs_len0))))
     (pss_consF (f := (sSet 5 (eCall 2 d_turned (aCons (eCall 1 d_undone (aCons (eV 3) aNil)) (aCons (eV 2) aNil))))) (g := (B_digit_at_2)) (ps_setF 5 sc_digit_at.nd (pf_call (ok_turned T) (hr.mono (by omega)) T.m_turned T.F_turned.kp T.b_turned rfl (pa_consF (pf_call (ok_undone T) (hr.mono (by omega)) T.m_undone T.F_undone.kp T.b_undone rfl (pa_consF (pf_v 3) pa_nilF)) (pa_consF (pf_v 2) pa_nilF))))
     (pss_consF (f := (sOwn 6 (lComp (iL (eFld "Curve" "parts" (eV 0))) 1 [] (gN 0) tOK (eFld "Part" "corner" (eV 0))))) (g := (B_digit_at_3)) (ps_compOwn (defScope s_digit_at) ["curve", "state", "corner", "turn", "back", "own", "corners"] ["part"] [] [] (go_n 0) 6 sc_digit_at.nd rfl rfl (pi_l (pf_fld T.ca_Curve T.cl_Curve T.n_Curve_parts (pf_v 0))) rfl rfl rfl (by decide +kernel) (fun _ _ _ _ => (pg_n 0 (show (List.Nodup (α := PySem.Str) ["part"]) from by decide +kernel))) (fun _ _ _ _ => pifs_nilF) (fun _ _ _ _ => (pf_fld T.ca_Part T.cl_Part T.n_Part_corner (pf_v 0))))
     (pss_oneF (ps_frz 6 (ps_retF (pf_call (ok_walked T) (hr.mono (by omega)) T.m_walked T.F_walked.kp T.b_walked rfl (pa_consF (pf_v 0) (pa_consF (pf_v 4) (pa_consF (pf_index hr (pe_bm PySem.F.plainAttrs_list PySem.F.slot_list_index PySem.F.type_list_index (mt_index hr) (src_l (pf_v 6)) (pa_cons (pf_v 5) pa_nil))) pa_nilF))))))))))
theorem sc_number_at : FnScope ["curve", "level", "place", "state", "number", "half", "corner", "digit"] ["curve", "level", "place"] (defScope s_number_at) := ⟨rfl, rfl, rfl, by decide +kernel, rfl, by decide +kernel, by decide +kernel⟩
def B_number_at_5 : Sf := (sRet (eV 4))
def B_number_at_4 : Sf := (sSeq (whileF (eB2 gGt (eV 5) (eC (.int 0))) (sSeq (sSet 6 (eTupOf (eL (lComp (iT (eV 2)) 1 [5] (gN 0) tOK (eMod (eDivB (eV 0) (eV 1)) (eC (.int 2)))))))
   (sSeq (sSet 7 (eCall 3 d_digit_at (aCons (eV 0) (aCons (eV 3) (aCons (eV 6) aNil)))))
   (sSeq (sSet 4 (eAdd (eMul (eV 4) (eLen (eFld "Curve" "parts" (eV 0)))) (eV 7)))
   (sSeq (sSet 3 (eIx (eCall 3 d_part_at (aCons (eV 0) (aCons (eV 3) (aCons (eV 7) aNil)))) (eC (.int 1))))
   (sSet 5 (eDivB (eV 5) (eC (.int 2)))))))) 100)
   (B_number_at_5))
def B_number_at_3 : Sf := (sSeq (sSet 5 (eDivB (eCall 2 d_full (aCons (eC (.int 1)) (aCons (eV 1) aNil))) (eC (.int 2))))
   (B_number_at_4))
def B_number_at_2 : Sf := (sSeq (sSet 4 (eC (.int 0)))
   (B_number_at_3))
def B_number_at_1 : Sf := (sSeq (sSet 3 (eCall 1 d_first_state (aCons (eFld "Curve" "dims" (eV 0)) aNil)))
   (B_number_at_2))
def B_number_at_0 : Sf := (sSeq (sDrop (eCall 3 d_ask_place (aCons (eFld "Curve" "dims" (eV 0)) (aCons (eV 1) (aCons (eV 2) aNil)))))
   (B_number_at_1))
def b_number_at : Sf :=
   (B_number_at_0)
def d_number_at : List D -> Option D := fnF 8 b_number_at
def xb_number_at : List B -> Option Str := (xCall 3 x_ask_place (aCons (eFld "Curve" "dims" (eV 0)) (aCons (eV 1) (aCons (eV 2) aNil))))
def x_number_at : List D -> Option Str := fnX 8 xb_number_at
theorem ok_number_at (T : Txt K mg) : FnOk P w K mg base (CXq P w) 4 T.f_number_at T.fd_number_at ["curve", "level", "place"] (spQ K 3 d_number_at x_number_at) :=
 ok_fnX (N := ["curve", "level", "place", "state", "number", "half", "corner", "digit"]) (ps := ["curve", "level", "place"]) (k := 3) (body := b_number_at) (xb := xb_number_at) T.F_number_at sc_number_at (fun cdv A outer s H E hr =>
   (pss_consF (f := (sDrop (eCall 3 d_ask_place (aCons (eFld "Curve" "dims" (eV 0)) (aCons (eV 1) (aCons (eV 2) aNil)))))) (g := (B_number_at_1)) (ps_exprF (pf_callQ (ok_ask_place T) (hr.mono (by omega)) T.m_ask_place T.F_ask_place.kp T.b_ask_place rfl (pa_consF (pf_fld T.ca_Curve T.cl_Curve T.n_Curve_dims (pf_v 0)) (pa_consF (pf_v 1) (pa_consF (pf_v 2) pa_nilF)))))
     (pss_consF (f := (sSet 3 (eCall 1 d_first_state (aCons (eFld "Curve" "dims" (eV 0)) aNil)))) (g := (B_number_at_2)) (ps_setF 3 sc_number_at.nd (pf_call (ok_first_state T) (hr.mono (by omega)) T.m_first_state T.F_first_state.kp T.b_first_state rfl (pa_consF (pf_fld T.ca_Curve T.cl_Curve T.n_Curve_dims (pf_v 0)) pa_nilF)))
     (pss_consF (f := (sSet 4 (eC (.int 0)))) (g := (B_number_at_3)) (ps_setF 4 sc_number_at.nd pf_int)
     (pss_consF (f := (sSet 5 (eDivB (eCall 2 d_full (aCons (eC (.int 1)) (aCons (eV 1) aNil))) (eC (.int 2))))) (g := (B_number_at_4)) (ps_setF 5 sc_number_at.nd (pf_divB (pf_call (ok_full T) (hr.mono (by omega)) T.m_full T.F_full.kp T.b_full rfl (pa_consF pf_int (pa_consF (pf_v 1) pa_nilF))) pf_int))
     (pss_consF (f := (whileF (eB2 gGt (eV 5) (eC (.int 0))) (sSeq (sSet 6 (eTupOf (eL (lComp (iT (eV 2)) 1 [5] (gN 0) tOK (eMod (eDivB (eV 0) (eV 1)) (eC (.int 2)))))))
   (sSeq (sSet 7 (eCall 3 d_digit_at (aCons (eV 0) (aCons (eV 3) (aCons (eV 6) aNil)))))
   (sSeq (sSet 4 (eAdd (eMul (eV 4) (eLen (eFld "Curve" "parts" (eV 0)))) (eV 7)))
   (sSeq (sSet 3 (eIx (eCall 3 d_part_at (aCons (eV 0) (aCons (eV 3) (aCons (eV 7) aNil)))) (eC (.int 1))))
   (sSet 5 (eDivB (eV 5) (eC (.int 2)))))))) 100)) (g := (B_number_at_5)) (ps_whileF 100 PassesOwn.never (pt_cmpF cm_gt (pf_v 5) pf_int) (pss_consF (ps_setF 6 sc_number_at.nd (pf_tupOf rfl T.z_tuple (pf_l (pl_comp (defScope s_number_at) ["curve", "level", "place", "state", "number", "half", "corner", "digit"] ["along"] ["half"] [5] (go_n 0) (pi_t (pf_v 2)) rfl rfl rfl (by decide +kernel) (fun _ _ _ _ => (pg_n 0 (show (List.Nodup (α := PySem.Str) ["along", "half"]) from by decide +kernel))) (fun _ _ _ _ => pifs_nilF) (fun _ _ _ _ => (pf_mod (pf_divB (pf_v 0) (pf_v 1)) pf_int))))))
     (pss_consF (ps_setF 7 sc_number_at.nd (pf_call (ok_digit_at T) (hr.mono (by omega)) T.m_digit_at T.F_digit_at.kp T.b_digit_at rfl (pa_consF (pf_v 0) (pa_consF (pf_v 3) (pa_consF (pf_v 6) pa_nilF)))))
     (pss_consF (ps_setF 4 sc_number_at.nd (pf_add (pf_mul (pf_v 4) (pf_len rfl T.z_len (pf_fld T.ca_Curve T.cl_Curve T.n_Curve_parts (pf_v 0)))) (pf_v 7)))
     (pss_consF (ps_setF 3 sc_number_at.nd (pf_ix (pf_call (ok_part_at T) (hr.mono (by omega)) T.m_part_at T.F_part_at.kp T.b_part_at rfl (pa_consF (pf_v 0) (pa_consF (pf_v 3) (pa_consF (pf_v 7) pa_nilF)))) pf_int))
     (pss_oneF (ps_setF 5 sc_number_at.nd (pf_divB (pf_v 5) pf_int))))))))
     (pss_oneF (ps_retF (pf_v 4)))))))))
   (fun cdv A outer s H E hr => (px_head (px_expr (px_callX (ok_ask_place T) passesQ (hr.mono (by omega)) T.m_ask_place T.F_ask_place.kp T.b_ask_place rfl (pa_consF (pf_fld T.ca_Curve T.cl_Curve T.n_Curve_dims (pf_v 0)) (pa_consF (pf_v 1) (pa_consF (pf_v 2) pa_nilF)))))))
theorem sc_law_refused : FnScope ["_law_curve_here", "_law_level_here", "_law_which", "_law_asked", "_law_caught", "e"] ["_law_curve_here", "_law_level_here", "_law_which", "_law_asked"] (defScope s_law_refused) := ⟨rfl, rfl, rfl, by decide +kernel, rfl, by decide +kernel, by decide +kernel⟩
def B_law_refused_3 : Sf := (sRet (eOfT (tNotF (tB1 (eIsX ty_0 (eV 4))))))
def B_law_refused_2 : Sf := (sSeq (sIf (tOrF (tNotF (tB1 (eIsX tb_OffFloor (eV 4)))) (tNotF (tB1 (eIsX tb_ValueError (eV 4))))) (sRet (eC (.bl false))) sNil)
   (B_law_refused_3))
def B_law_refused_1 : Sf := (sSeq (sTry ["OffFloor"] (xIf (eB2 gEq (eV 2) (eC (.int 0))) (xCall 3 x_place_at (aCons (eV 0) (aCons (eV 1) (aCons (eV 3) aNil)))) (xIf (eB2 gEq (eV 2) (eC (.int 1))) (xCall 3 x_neighbours (aCons (eV 0) (aCons (eV 1) (aCons (eV 3) aNil)))) (xCall 3 x_number_at (aCons (eV 0) (aCons (eV 1) (aCons (eV 3) aNil)))))) 5 (sSet 4 (eV 5)))
   (B_law_refused_2))
def B_law_refused_0 : Sf := (sSeq (sSet 4 (eC .non))
   (B_law_refused_1))
def b_law_refused : Sf :=
   (B_law_refused_0)
def d_law_refused : List D -> Option D := fnF 6 b_law_refused
theorem ok_law_refused (T : Txt K mg) : FnOk P w K mg base CX0 5 T.f_law_refused T.fd_law_refused ["_law_curve_here", "_law_level_here", "_law_which", "_law_asked"] (spF K 4 d_law_refused) :=
 ok_fn (k := 4) T.F_law_refused sc_law_refused fun cdv A outer s H E hr =>
   (pss_consF (f := (sSet 4 (eC .non))) (g := (B_law_refused_1)) (ps_setF 4 sc_law_refused.nd pf_non)
     (pss_consF (f := (sTry ["OffFloor"] (xIf (eB2 gEq (eV 2) (eC (.int 0))) (xCall 3 x_place_at (aCons (eV 0) (aCons (eV 1) (aCons (eV 3) aNil)))) (xIf (eB2 gEq (eV 2) (eC (.int 1))) (xCall 3 x_neighbours (aCons (eV 0) (aCons (eV 1) (aCons (eV 3) aNil)))) (xCall 3 x_number_at (aCons (eV 0) (aCons (eV 1) (aCons (eV 3) aNil)))))) 5 (sSet 4 (eV 5)))) (g := (B_law_refused_2)) (ps_tryX (i := 5) (exy_YardError T) (pxb_ifX noxe (pt_cmpF cm_eq (pf_v 2) pf_int) (pxb_callX noxe (ok_place_at T) (hr.mono (by omega)) T.m_place_at T.F_place_at.kp T.b_place_at rfl (pa_consF (pf_v 0) (pa_consF (pf_v 1) (pa_consF (pf_v 3) pa_nilF)))) (pxb_ifX noxe (pt_cmpF cm_eq (pf_v 2) pf_int) (pxb_callX noxe (ok_neighbours T) (hr.mono (by omega)) T.m_neighbours T.F_neighbours.kp T.b_neighbours rfl (pa_consF (pf_v 0) (pa_consF (pf_v 1) (pa_consF (pf_v 3) pa_nilF)))) (pxb_callX noxe (ok_number_at T) (hr.mono (by omega)) T.m_number_at T.F_number_at.kp T.b_number_at rfl (pa_consF (pf_v 0) (pa_consF (pf_v 1) (pa_consF (pf_v 3) pa_nilF)))))) rfl rfl rfl T.mc_YardError sc_law_refused.nd (fun _ => (pss_oneF (ps_setF 4 sc_law_refused.nd (pf_v 5)))))
     (pss_consF (f := (sIf (tOrF (tNotF (tB1 (eIsX tb_OffFloor (eV 4)))) (tNotF (tB1 (eIsX tb_ValueError (eV 4))))) (sRet (eC (.bl false))) sNil)) (g := (B_law_refused_3)) (ps_ifF (pt_w (pw_orF (pt_notF (pt_valF (pf_isx (isx_OffFloor T) T.mc_OffFloor rfl rfl T.z_isinstance (pf_v 4)))) (pw_or1F (pt_notF (pt_valF (pf_isxB (T := "ValueError") (TT := "ValueError") rfl (isx_ValueError T) T.z_ValueError rfl rfl T.z_isinstance (pf_v 4))))))) (pss_oneF (ps_retF pf_bl)) pss_nilF)
     (pss_oneF (ps_retF (pf_not (pf_isy (cs := [T.C_BadBox, T.C_NoEntry, T.C_NoThing, T.C_TextError, T.C_TooWide, T.C_Twice, T.C_Unmet]) (isy_0 T) (pa_cs_cons (pe_glob (v := .ref T.C_BadBox) rfl T.mc_BadBox rfl) (pa_cs_cons (pe_glob (v := .ref T.C_NoEntry) rfl T.mc_NoEntry rfl) (pa_cs_cons (pe_glob (v := .ref T.C_NoThing) rfl T.mc_NoThing rfl) (pa_cs_cons (pe_glob (v := .ref T.C_TextError) rfl T.mc_TextError rfl) (pa_cs_cons (pe_glob (v := .ref T.C_TooWide) rfl T.mc_TooWide rfl) (pa_cs_cons (pe_glob (v := .ref T.C_Twice) rfl T.mc_Twice rfl) (pa_cs_cons (pe_glob (v := .ref T.C_Unmet) rfl T.mc_Unmet rfl) pa_cs_nil))))))) (Nat.le_of_ble_eq_true rfl) rfl T.z_isinstance (pf_v 4))))))))
theorem sc_law_same : FnScope ["_law_found", "_law_due", "_law_k"] ["_law_found", "_law_due"] (defScope s_law_same) := ⟨rfl, rfl, rfl, by decide +kernel, rfl, by decide +kernel, by decide +kernel⟩
def L1_law_same_0 (self : List D -> Option D) : Sf := (sIf (tNotF (tB1 (eCall 2 self (aCons (eIx (eV 0) (eV 2)) (aCons (eIx (eV 1) (eV 2)) aNil))))) (sRet (eC (.bl false))) sNil)
def B_law_same_9 (self : List D -> Option D) : Sf := (sRet (eC (.bl true)))
def B_law_same_8 (self : List D -> Option D) : Sf := (sSeq (sFor (iR (eLen (eV 1))) (gN 2) (L1_law_same_0 self))
   (B_law_same_9 self))
def B_law_same_7 (self : List D -> Option D) : Sf := (sSeq (sIf (eB2 gNe (eLen (eV 0)) (eLen (eV 1))) (sRet (eC (.bl false))) sNil)
   (B_law_same_8 self))
def B_law_same_6 (self : List D -> Option D) : Sf := (sSeq (sIf (tAndF (tB1 (isTy isTup (eV 1))) (tNotF (tB1 (isTy isTup (eV 0))))) (sRet (eC (.bl false))) sNil)
   (B_law_same_7 self))
def B_law_same_5 (self : List D -> Option D) : Sf := (sSeq (sIf (tAndF (tB1 (isTy isLst (eV 1))) (tNotF (tB1 (isTy isLst (eV 0))))) (sRet (eC (.bl false))) sNil)
   (B_law_same_6 self))
def B_law_same_4 (self : List D -> Option D) : Sf := (sSeq (sIf (tB1 (isTy isStr (eV 1))) (sRet (eAndV (isTy isStr (eV 0)) (eOfT (eB2 gEq (eV 0) (eV 1))))) sNil)
   (B_law_same_5 self))
def B_law_same_3 (self : List D -> Option D) : Sf := (sSeq (sIf (tB1 (isTy isInt (eV 1))) (sRet (eAndV (isTy isInt (eV 0)) (eAndV (eOfT (tNotF (tB1 (isTy isBool (eV 0))))) (eOfT (eB2 gEq (eV 0) (eV 1)))))) sNil)
   (B_law_same_4 self))
def B_law_same_2 (self : List D -> Option D) : Sf := (sSeq (sIf (eB2 gIsC (eV 1) (eC (.bl false))) (sRet (eOfT (eB2 gIsC (eV 0) (eC (.bl false))))) sNil)
   (B_law_same_3 self))
def B_law_same_1 (self : List D -> Option D) : Sf := (sSeq (sIf (eB2 gIsC (eV 1) (eC (.bl true))) (sRet (eOfT (eB2 gIsC (eV 0) (eC (.bl true))))) sNil)
   (B_law_same_2 self))
def B_law_same_0 (self : List D -> Option D) : Sf := (sSeq (sIf (eB2 gIsC (eV 1) (eC .non)) (sRet (eOfT (eB2 gIsC (eV 0) (eC .non)))) sNil)
   (B_law_same_1 self))
def b_law_same (self : List D -> Option D) : Sf :=
   (B_law_same_0 self)
def d_law_sameN : Nat -> List D -> Option D
 | 0, _ => none
 | n + 1, ds => fnF 3 (b_law_same (d_law_sameN n)) ds
abbrev d_law_same : List D -> Option D := d_law_sameN 3
theorem okN_law_same (T : Txt K mg) : ∀ n : Nat, FnOk P w K mg base CX0 (1 + n) T.f_law_same T.fd_law_same ["_law_found", "_law_due"] (spF K 2 (d_law_sameN n))
 | 0 => fn_never
 | n + 1 => by
   have IH := okN_law_same T n
   exact ok_fn (k := 1 + n) (body := b_law_same (d_law_sameN n)) T.F_law_same sc_law_same fun cdv A outer s H E hr => (pss_consF (f := (sIf (eB2 gIsC (eV 1) (eC .non)) (sRet (eOfT (eB2 gIsC (eV 0) (eC .non)))) sNil)) (g := (B_law_same_1 (d_law_sameN n))) (ps_ifF (pt_cmpF cm_isC (pf_v 1) pf_non) (pss_oneF (ps_retF (pf_cmp cm_isC (pf_v 0) pf_non))) pss_nilF)
     (pss_consF (f := (sIf (eB2 gIsC (eV 1) (eC (.bl true))) (sRet (eOfT (eB2 gIsC (eV 0) (eC (.bl true))))) sNil)) (g := (B_law_same_2 (d_law_sameN n))) (ps_ifF (pt_cmpF cm_isC (pf_v 1) pf_bl) (pss_oneF (ps_retF (pf_cmp cm_isC (pf_v 0) pf_bl))) pss_nilF)
     (pss_consF (f := (sIf (eB2 gIsC (eV 1) (eC (.bl false))) (sRet (eOfT (eB2 gIsC (eV 0) (eC (.bl false))))) sNil)) (g := (B_law_same_3 (d_law_sameN n))) (ps_ifF (pt_cmpF cm_isC (pf_v 1) pf_bl) (pss_oneF (ps_retF (pf_cmp cm_isC (pf_v 0) pf_bl))) pss_nilF)
     (pss_consF (f := (sIf (tB1 (isTy isInt (eV 1))) (sRet (eAndV (isTy isInt (eV 0)) (eAndV (eOfT (tNotF (tB1 (isTy isBool (eV 0))))) (eOfT (eB2 gEq (eV 0) (eV 1)))))) sNil)) (g := (B_law_same_4 (d_law_sameN n))) (ps_ifF (pt_valF (pf_isi (T := "int") (TT := "int") rfl hq_int rfl T.z_isinstance rfl T.z_int (pf_v 1))) (pss_oneF (ps_retF (pf_and (pf_isi (T := "int") (TT := "int") rfl hq_int rfl T.z_isinstance rfl T.z_int (pf_v 0)) (pf_and (pf_not (pf_isi (T := "bool") (TT := "bool") rfl hq_bool rfl T.z_isinstance rfl T.z_bool (pf_v 0))) (pf_one (pf_cmp cm_eq (pf_v 0) (pf_v 1))))))) pss_nilF)
     (pss_consF (f := (sIf (tB1 (isTy isStr (eV 1))) (sRet (eAndV (isTy isStr (eV 0)) (eOfT (eB2 gEq (eV 0) (eV 1))))) sNil)) (g := (B_law_same_5 (d_law_sameN n))) (ps_ifF (pt_valF (pf_isi (T := "str") (TT := "str") rfl hq_str rfl T.z_isinstance rfl T.z_str (pf_v 1))) (pss_oneF (ps_retF (pf_and (pf_isi (T := "str") (TT := "str") rfl hq_str rfl T.z_isinstance rfl T.z_str (pf_v 0)) (pf_one (pf_cmp cm_eq (pf_v 0) (pf_v 1)))))) pss_nilF)
     (pss_consF (f := (sIf (tAndF (tB1 (isTy isLst (eV 1))) (tNotF (tB1 (isTy isLst (eV 0))))) (sRet (eC (.bl false))) sNil)) (g := (B_law_same_6 (d_law_sameN n))) (ps_ifF (pt_w (pw_andF (pt_valF (pf_isi (T := "list") (TT := "list") rfl hq_lst rfl T.z_isinstance rfl T.z_list (pf_v 1))) (pw_and1F (pt_notF (pt_valF (pf_isi (T := "list") (TT := "list") rfl hq_lst rfl T.z_isinstance rfl T.z_list (pf_v 0))))))) (pss_oneF (ps_retF pf_bl)) pss_nilF)
     (pss_consF (f := (sIf (tAndF (tB1 (isTy isTup (eV 1))) (tNotF (tB1 (isTy isTup (eV 0))))) (sRet (eC (.bl false))) sNil)) (g := (B_law_same_7 (d_law_sameN n))) (ps_ifF (pt_w (pw_andF (pt_valF (pf_isi (T := "tuple") (TT := "tuple") rfl hq_tup rfl T.z_isinstance rfl T.z_tuple (pf_v 1))) (pw_and1F (pt_notF (pt_valF (pf_isi (T := "tuple") (TT := "tuple") rfl hq_tup rfl T.z_isinstance rfl T.z_tuple (pf_v 0))))))) (pss_oneF (ps_retF pf_bl)) pss_nilF)
     (pss_consF (f := (sIf (eB2 gNe (eLen (eV 0)) (eLen (eV 1))) (sRet (eC (.bl false))) sNil)) (g := (B_law_same_8 (d_law_sameN n))) (ps_ifF (pt_cmpF cm_ne (pf_len rfl T.z_len (pf_v 0)) (pf_len rfl T.z_len (pf_v 1))) (pss_oneF (ps_retF pf_bl)) pss_nilF)
     (pss_consF (f := (sFor (iR (eLen (eV 1))) (gN 2) (L1_law_same_0 (d_law_sameN n)))) (g := (B_law_same_9 (d_law_sameN n))) (ps_forF PassesOwn.never rfl (pi_r rfl T.z_range (pf_len rfl T.z_len (pf_v 1))) (pg_n 2 sc_law_same.nd) (pss_oneF (ps_ifF (pt_notF (pt_valF (pf_call IH (hr.mono (by omega)) T.m_law_same T.F_law_same.kp T.b_law_same rfl (pa_consF (pf_ix (pf_v 0) (pf_v 2)) (pa_consF (pf_ix (pf_v 1) (pf_v 2)) pa_nilF))))) (pss_oneF (ps_retF pf_bl)) pss_nilF)))
     (pss_oneF (ps_retF pf_bl)))))))))))
theorem ok_law_same (T : Txt K mg) : FnOk P w K mg base CX0 4 T.f_law_same T.fd_law_same ["_law_found", "_law_due"] (spF K 2 d_law_same) := okN_law_same T 3
theorem sc_law : FnScope ["_law_script", "_law_cell", "_law_number", "_law_dims", "_law_level_here", "_law_curve_here", "_law_side", "_law_k", "_law_most", "_law_asked", "_law_place"] ["_law_script"] (defScope s_law) := ⟨rfl, rfl, rfl, by decide +kernel, rfl, by decide +kernel, by decide +kernel⟩
def L2_law_0 : Sf := (sSet 6 (eAdd (eV 6) (eV 6)))
def L1_law_12 : Sf := (sIf (tNotF (tB1 (eCall 2 d_law_same (aCons (eCall 3 d_number_at (aCons (eV 5) (aCons (eV 4) (aCons (eCall 3 d_place_at (aCons (eV 5) (aCons (eV 4) (aCons (eV 8) aNil)))) aNil)))) (aCons (eV 8) aNil))))) (sRet (eC (.bl false))) sNil)
def L1_law_11 : Sf := (sSeq (sFrz 10 (sIf (tNotF (tB1 (eCall 4 d_law_refused (aCons (eV 5) (aCons (eV 4) (aCons (eC (.int 2)) (aCons (eTupOf (eV 10)) aNil))))))) (sRet (eC (.bl false))) sNil))
   (L1_law_12))
def L1_law_10 : Sf := (sSeq (sItem 10 (eMod (eDiv (eV 2) (eC (.int 6400))) (eV 3)) (eCall 4 d_law_off (aCons (eC (.int 0)) (aCons (eSub (eV 6) (eC (.int 1))) (aCons (eDiv (eV 2) (eC (.int 1600))) (aCons (eMod (eMulW (eV 1) (eC (.int 7046029254386353131))) (ePow (eC (.int 10)) (eC (.int 20)))) aNil))))))
   (L1_law_11))
def L1_law_9 : Sf := (sSeq (sOwn 10 (lComp (iR (eV 3)) 1 [6, 1] (gN 0) tOK (eMod (eMulW (eV 2) (ePow (eAdd (eC (.int 48271)) (eV 0)) (eC (.int 5)))) (eV 1))))
   (L1_law_10))
def L1_law_8 : Sf := (sSeq (sIf (tOrF (tNotF (tB1 (eCall 4 d_law_refused (aCons (eV 5) (aCons (eV 4) (aCons (eC (.int 0)) (aCons (eV 9) aNil))))))) (tNotF (tB1 (eCall 4 d_law_refused (aCons (eV 5) (aCons (eV 4) (aCons (eC (.int 1)) (aCons (eV 9) aNil)))))))) (sRet (eC (.bl false))) sNil)
   (L1_law_9))
def L1_law_7 : Sf := (sSeq (sSet 9 (eCall 4 d_law_off (aCons (eC (.int 0)) (aCons (eV 8) (aCons (eDiv (eV 2) (eC (.int 1600))) (aCons (eMod (eMulW (eV 1) (ePow (eC (.int 7046029254386353131)) (eC (.int 3)))) (ePow (eC (.int 10)) (eC (.int 40)))) aNil))))))
   (L1_law_8))
def L1_law_6 : Sf := (sSeq (sSet 8 (eSub (eCall 2 d_full (aCons (eV 3) (aCons (eV 4) aNil))) (eC (.int 1))))
   (L1_law_7))
def L1_law_5 : Sf := (sSeq (sFor (iR (eV 4)) (gN 7) (L2_law_0))
   (L1_law_6))
def L1_law_4 : Sf := (sSeq (sSet 6 (eC (.int 1)))
   (L1_law_5))
def L1_law_3 : Sf := (sSeq (sSet 5 (eCall 3 d_law_curve (aCons (eV 3) (aCons (eOfT (eB2 gEq (eMod (eDiv (eV 2) (eC (.int 800))) (eC (.int 2))) (eC (.int 1)))) (aCons (eL (lCall 2 d_law_drawn (aCons (eV 3) (aCons (eV 1) aNil)))) aNil)))))
   (L1_law_4))
def L1_law_2 : Sf := (sSeq (sSet 4 (eCall 1 d_law_level (aCons (eDiv (eV 2) (eC (.int 2))) aNil)))
   (L1_law_3))
def L1_law_1 : Sf := (sSeq (sSet 3 (eAdd (eC (.int 2)) (eMod (eV 2) (eC (.int 2)))))
   (L1_law_2))
def L1_law_0 : Sf := (sSeq (sSet 2 (eCall 2 d_law_mix (aCons (eV 1) (aCons (eC (.int 69621)) aNil))))
   (L1_law_1))
def B_law_1 : Sf := (sRet (eC (.bl true)))
def B_law_0 : Sf := (sSeq (sFor (lCat (lSlice (eV 0) oNo (oSome (eC (.int 10)))) (lDisp (aCons (eC (.int 14)) aNil))) (gN 1) (L1_law_0))
   (B_law_1))
def b_law : Sf :=
   (B_law_0)
def d_law : List D -> Option D := fnF 11 b_law
theorem ok_law (T : Txt K mg) : FnOk P w K mg base CX0 6 T.f_law T.fd_law ["_law_script"] (spF K 1 d_law) :=
 ok_fn (k := 5) T.F_law sc_law fun cdv A outer s H E hr =>
   (pss_consF (f := (sFor (lCat (lSlice (eV 0) oNo (oSome (eC (.int 10)))) (lDisp (aCons (eC (.int 14)) aNil))) (gN 1) (L1_law_0))) (g := (B_law_1)) (ps_forF PassesOwn.never rfl (pi_lr (pl_cat (pl_slice (pf_v 0) po_no (po_sm pf_int)) (pl_disp (pa_consF pf_int pa_nilF)))) (pg_n 1 sc_law.nd) (pss_consF (f := (sSet 2 (eCall 2 d_law_mix (aCons (eV 1) (aCons (eC (.int 69621)) aNil))))) (g := (L1_law_1)) (ps_setF 2 sc_law.nd (pf_call (ok_law_mix T) (hr.mono (by omega)) T.m_law_mix T.F_law_mix.kp T.b_law_mix rfl (pa_consF (pf_v 1) (pa_consF pf_int pa_nilF))))
     (pss_consF (f := (sSet 3 (eAdd (eC (.int 2)) (eMod (eV 2) (eC (.int 2)))))) (g := (L1_law_2)) (ps_setF 3 sc_law.nd (pf_add pf_int (pf_mod (pf_v 2) pf_int)))
     (pss_consF (f := (sSet 4 (eCall 1 d_law_level (aCons (eDiv (eV 2) (eC (.int 2))) aNil)))) (g := (L1_law_3)) (ps_setF 4 sc_law.nd (pf_call (ok_law_level T) (hr.mono (by omega)) T.m_law_level T.F_law_level.kp T.b_law_level rfl (pa_consF (pf_div (pf_v 2) pf_int) pa_nilF)))
     (pss_consF (f := (sSet 5 (eCall 3 d_law_curve (aCons (eV 3) (aCons (eOfT (eB2 gEq (eMod (eDiv (eV 2) (eC (.int 800))) (eC (.int 2))) (eC (.int 1)))) (aCons (eL (lCall 2 d_law_drawn (aCons (eV 3) (aCons (eV 1) aNil)))) aNil)))))) (g := (L1_law_4)) (ps_setF 5 sc_law.nd (pf_call (ok_law_curve T) (hr.mono (by omega)) T.m_law_curve T.F_law_curve.kp T.b_law_curve rfl (pa_consF (pf_v 3) (pa_consF (pf_cmp cm_eq (pf_mod (pf_div (pf_v 2) pf_int) pf_int) pf_int) (pa_consF (pf_l (pl_call (ok_law_drawn T) (hr.mono (by omega)) T.m_law_drawn T.F_law_drawn.kp T.b_law_drawn rfl (pa_consF (pf_v 3) (pa_consF (pf_v 1) pa_nilF)))) pa_nilF)))))
     (pss_consF (f := (sSet 6 (eC (.int 1)))) (g := (L1_law_5)) (ps_setF 6 sc_law.nd pf_int)
     (pss_consF (f := (sFor (iR (eV 4)) (gN 7) (L2_law_0))) (g := (L1_law_6)) (ps_forF PassesOwn.never rfl (pi_r rfl T.z_range (pf_v 4)) (pg_n 7 sc_law.nd) (pss_oneF (ps_setF 6 sc_law.nd (pf_add (pf_v 6) (pf_v 6)))))
     (pss_consF (f := (sSet 8 (eSub (eCall 2 d_full (aCons (eV 3) (aCons (eV 4) aNil))) (eC (.int 1))))) (g := (L1_law_7)) (ps_setF 8 sc_law.nd (pf_sub (pf_call (ok_full T) (hr.mono (by omega)) T.m_full T.F_full.kp T.b_full rfl (pa_consF (pf_v 3) (pa_consF (pf_v 4) pa_nilF))) pf_int))
     (pss_consF (f := (sSet 9 (eCall 4 d_law_off (aCons (eC (.int 0)) (aCons (eV 8) (aCons (eDiv (eV 2) (eC (.int 1600))) (aCons (eMod (eMulW (eV 1) (ePow (eC (.int 7046029254386353131)) (eC (.int 3)))) (ePow (eC (.int 10)) (eC (.int 40)))) aNil))))))) (g := (L1_law_8)) (ps_setF 9 sc_law.nd (pf_call (ok_law_off T) (hr.mono (by omega)) T.m_law_off T.F_law_off.kp T.b_law_off rfl (pa_consF pf_int (pa_consF (pf_v 8) (pa_consF (pf_div (pf_v 2) pf_int) (pa_consF (pf_mod (pf_mulW (pf_v 1) (pf_pow pf_int pf_int)) (pf_pow pf_int pf_int)) pa_nilF))))))
     (pss_consF (f := (sIf (tOrF (tNotF (tB1 (eCall 4 d_law_refused (aCons (eV 5) (aCons (eV 4) (aCons (eC (.int 0)) (aCons (eV 9) aNil))))))) (tNotF (tB1 (eCall 4 d_law_refused (aCons (eV 5) (aCons (eV 4) (aCons (eC (.int 1)) (aCons (eV 9) aNil)))))))) (sRet (eC (.bl false))) sNil)) (g := (L1_law_9)) (ps_ifF (pt_w (pw_orF (pt_notF (pt_valF (pf_call (ok_law_refused T) (hr.mono (by omega)) T.m_law_refused T.F_law_refused.kp T.b_law_refused rfl (pa_consF (pf_v 5) (pa_consF (pf_v 4) (pa_consF pf_int (pa_consF (pf_v 9) pa_nilF))))))) (pw_or1F (pt_notF (pt_valF (pf_call (ok_law_refused T) (hr.mono (by omega)) T.m_law_refused T.F_law_refused.kp T.b_law_refused rfl (pa_consF (pf_v 5) (pa_consF (pf_v 4) (pa_consF pf_int (pa_consF (pf_v 9) pa_nilF)))))))))) (pss_oneF (ps_retF pf_bl)) pss_nilF)
     (pss_consF (f := (sOwn 10 (lComp (iR (eV 3)) 1 [6, 1] (gN 0) tOK (eMod (eMulW (eV 2) (ePow (eAdd (eC (.int 48271)) (eV 0)) (eC (.int 5)))) (eV 1))))) (g := (L1_law_10)) (ps_compOwn (defScope s_law) ["_law_script", "_law_cell", "_law_number", "_law_dims", "_law_level_here", "_law_curve_here", "_law_side", "_law_k", "_law_most", "_law_asked", "_law_place"] ["_law_k"] ["_law_side", "_law_cell"] [6, 1] (go_n 0) 10 sc_law.nd rfl rfl (pi_r rfl T.z_range (pf_v 3)) rfl rfl rfl (by decide +kernel) (fun _ _ _ _ => (pg_n 0 (show (List.Nodup (α := PySem.Str) ["_law_k", "_law_side", "_law_cell"]) from by decide +kernel))) (fun _ _ _ _ => pifs_nilF) (fun _ _ _ _ => (pf_mod (pf_mulW (pf_v 2) (pf_pow (pf_add pf_int (pf_v 0)) pf_int)) (pf_v 1))))
     (pss_consF (f := (sItem 10 (eMod (eDiv (eV 2) (eC (.int 6400))) (eV 3)) (eCall 4 d_law_off (aCons (eC (.int 0)) (aCons (eSub (eV 6) (eC (.int 1))) (aCons (eDiv (eV 2) (eC (.int 1600))) (aCons (eMod (eMulW (eV 1) (eC (.int 7046029254386353131))) (ePow (eC (.int 10)) (eC (.int 20)))) aNil))))))) (g := (L1_law_11)) (ps_item 10 (pf_call (ok_law_off T) (hr.mono (by omega)) T.m_law_off T.F_law_off.kp T.b_law_off rfl (pa_consF pf_int (pa_consF (pf_sub (pf_v 6) pf_int) (pa_consF (pf_div (pf_v 2) pf_int) (pa_consF (pf_mod (pf_mulW (pf_v 1) pf_int) (pf_pow pf_int pf_int)) pa_nilF))))) (pf_mod (pf_div (pf_v 2) pf_int) (pf_v 3)))
     (pss_consF (f := (sFrz 10 (sIf (tNotF (tB1 (eCall 4 d_law_refused (aCons (eV 5) (aCons (eV 4) (aCons (eC (.int 2)) (aCons (eTupOf (eV 10)) aNil))))))) (sRet (eC (.bl false))) sNil))) (g := (L1_law_12)) (ps_frz 10 (ps_ifF (pt_notF (pt_valF (pf_call (ok_law_refused T) (hr.mono (by omega)) T.m_law_refused T.F_law_refused.kp T.b_law_refused rfl (pa_consF (pf_v 5) (pa_consF (pf_v 4) (pa_consF pf_int (pa_consF (pf_tupOf rfl T.z_tuple (pf_v 10)) pa_nilF))))))) (pss_oneF (ps_retF pf_bl)) pss_nilF))
     (pss_oneF (ps_ifF (pt_notF (pt_valF (pf_call (ok_law_same T) (hr.mono (by omega)) T.m_law_same T.F_law_same.kp T.b_law_same rfl (pa_consF (pf_callQ (ok_number_at T) (hr.mono (by omega)) T.m_number_at T.F_number_at.kp T.b_number_at rfl (pa_consF (pf_v 5) (pa_consF (pf_v 4) (pa_consF (pf_callQ (ok_place_at T) (hr.mono (by omega)) T.m_place_at T.F_place_at.kp T.b_place_at rfl (pa_consF (pf_v 5) (pa_consF (pf_v 4) (pa_consF (pf_v 8) pa_nilF)))) pa_nilF)))) (pa_consF (pf_v 8) pa_nilF))))) (pss_oneF (ps_retF pf_bl)) pss_nilF)))))))))))))))
     (pss_oneF (ps_retF pf_bl)))
end
open PySem.W
theorem all_mk {l : OpenLaw} {w : World} {K : Frag} {h : Heap} {mg : Str -> Option Value} {fa : Addr}
   {f0 : Addr} {od0 an0 : Option Addr} {sl0 : Array (Option Value)} {oc0 kV0 dc0 pm0 cd0 ct0 : Value}
   {f1 : Addr} {od1 an1 : Option Addr} {sl1 : Array (Option Value)} {oc1 kV1 dc1 pm1 cd1 ct1 : Value}
   {f2 : Addr} {od2 an2 : Option Addr} {sl2 : Array (Option Value)} {oc2 kV2 dc2 pm2 cd2 ct2 : Value}
   {f3 : Addr} {od3 an3 : Option Addr} {sl3 : Array (Option Value)} {oc3 kV3 dc3 pm3 cd3 ct3 : Value}
   {f4 : Addr} {od4 an4 : Option Addr} {sl4 : Array (Option Value)} {oc4 kV4 dc4 pm4 cd4 ct4 : Value}
   {f5 : Addr} {od5 an5 : Option Addr} {sl5 : Array (Option Value)} {oc5 kV5 dc5 pm5 cd5 ct5 : Value}
   {f6 : Addr} {od6 an6 : Option Addr} {sl6 : Array (Option Value)} {oc6 kV6 dc6 pm6 cd6 ct6 : Value}
   {f7 : Addr} {od7 an7 : Option Addr} {sl7 : Array (Option Value)} {oc7 kV7 dc7 pm7 cd7 ct7 : Value}
   {f8 : Addr} {od8 an8 : Option Addr} {sl8 : Array (Option Value)} {oc8 kV8 dc8 pm8 cd8 ct8 : Value}
   {f9 : Addr} {od9 an9 : Option Addr} {sl9 : Array (Option Value)} {oc9 kV9 dc9 pm9 cd9 ct9 : Value}
   {f10 : Addr} {od10 an10 : Option Addr} {sl10 : Array (Option Value)} {oc10 kV10 dc10 pm10 cd10 ct10 : Value}
   {f11 : Addr} {od11 an11 : Option Addr} {sl11 : Array (Option Value)} {oc11 kV11 dc11 pm11 cd11 ct11 : Value}
   {f12 : Addr} {od12 an12 : Option Addr} {sl12 : Array (Option Value)} {oc12 kV12 dc12 pm12 cd12 ct12 : Value}
   {f13 : Addr} {od13 an13 : Option Addr} {sl13 : Array (Option Value)} {oc13 kV13 dc13 pm13 cd13 ct13 : Value}
   {f14 : Addr} {od14 an14 : Option Addr} {sl14 : Array (Option Value)} {oc14 kV14 dc14 pm14 cd14 ct14 : Value}
   {f15 : Addr} {od15 an15 : Option Addr} {sl15 : Array (Option Value)} {oc15 kV15 dc15 pm15 cd15 ct15 : Value}
   {f16 : Addr} {od16 an16 : Option Addr} {sl16 : Array (Option Value)} {oc16 kV16 dc16 pm16 cd16 ct16 : Value}
   {f17 : Addr} {od17 an17 : Option Addr} {sl17 : Array (Option Value)} {oc17 kV17 dc17 pm17 cd17 ct17 : Value}
   {f18 : Addr} {od18 an18 : Option Addr} {sl18 : Array (Option Value)} {oc18 kV18 dc18 pm18 cd18 ct18 : Value}
   {f19 : Addr} {od19 an19 : Option Addr} {sl19 : Array (Option Value)} {oc19 kV19 dc19 pm19 cd19 ct19 : Value}
   {f20 : Addr} {od20 an20 : Option Addr} {sl20 : Array (Option Value)} {oc20 kV20 dc20 pm20 cd20 ct20 : Value}
   {f21 : Addr} {od21 an21 : Option Addr} {sl21 : Array (Option Value)} {oc21 kV21 dc21 pm21 cd21 ct21 : Value}
   {f22 : Addr} {od22 an22 : Option Addr} {sl22 : Array (Option Value)} {oc22 kV22 dc22 pm22 cd22 ct22 : Value}
   {f23 : Addr} {od23 an23 : Option Addr} {sl23 : Array (Option Value)} {oc23 kV23 dc23 pm23 cd23 ct23 : Value}
   {f24 : Addr} {od24 an24 : Option Addr} {sl24 : Array (Option Value)} {oc24 kV24 dc24 pm24 cd24 ct24 : Value}
   {f25 : Addr} {od25 an25 : Option Addr} {sl25 : Array (Option Value)} {oc25 kV25 dc25 pm25 cd25 ct25 : Value}
   {f26 : Addr} {od26 an26 : Option Addr} {sl26 : Array (Option Value)} {oc26 kV26 dc26 pm26 cd26 ct26 : Value}
   {f27 : Addr} {od27 an27 : Option Addr} {sl27 : Array (Option Value)} {oc27 kV27 dc27 pm27 cd27 ct27 : Value}
   {f28 : Addr} {od28 an28 : Option Addr} {sl28 : Array (Option Value)} {oc28 kV28 dc28 pm28 cd28 ct28 : Value}
   {f29 : Addr} {od29 an29 : Option Addr} {sl29 : Array (Option Value)} {oc29 kV29 dc29 pm29 cd29 ct29 : Value}
   {f30 : Addr} {od30 an30 : Option Addr} {sl30 : Array (Option Value)} {oc30 kV30 dc30 pm30 cd30 ct30 : Value}
   {f31 : Addr} {od31 an31 : Option Addr} {sl31 : Array (Option Value)} {oc31 kV31 dc31 pm31 cd31 ct31 : Value}
   {f32 : Addr} {od32 an32 : Option Addr} {sl32 : Array (Option Value)} {oc32 kV32 dc32 pm32 cd32 ct32 : Value}
   {f33 : Addr} {od33 an33 : Option Addr} {sl33 : Array (Option Value)} {oc33 kV33 dc33 pm33 cd33 ct33 : Value}
   {cC0 cF0 : Addr} {codi0 cani0 : Option Addr} {csl0 : Array (Option Value)} {coc0 ckV0 cdc0 cpm0 ccd0 cct0 : Value}
   {cC1 cF1 : Addr} {codi1 cani1 : Option Addr} {csl1 : Array (Option Value)} {coc1 ckV1 cdc1 cpm1 ccd1 cct1 : Value}
   {xC0 : Addr}
   {xC1 : Addr}
   {xC2 : Addr}
   {xC3 : Addr}
   {xC4 : Addr}
   {xC5 : Addr}
   {xC6 : Addr}
   {xC7 : Addr}
   {xC8 : Addr} (X : K.In h) (G : h.Ns mainGlobals mg) (hfa : mg "law" = some (.ref fa))
   (a0 : nsIn K mainGlobals "_law_mix" = some (some (.ref f0))) (l0 : K.lookup f0 = some ⟨oc0, od0, .func (fnOf "_law_mix" "_law_mix" (defArgs s_law_mix) (defBody s_law_mix) (defScope s_law_mix) .none kV0 dc0 pm0 an0 cd0 ct0), sl0⟩) (c0 : codeIn K cd0 "_law_mix" = true) (k0 : keepIn K (.ref f0) = true)
   (a1 : nsIn K mainGlobals "_law_level" = some (some (.ref f1))) (l1 : K.lookup f1 = some ⟨oc1, od1, .func (fnOf "_law_level" "_law_level" (defArgs s_law_level) (defBody s_law_level) (defScope s_law_level) .none kV1 dc1 pm1 an1 cd1 ct1), sl1⟩) (c1 : codeIn K cd1 "_law_level" = true) (k1 : keepIn K (.ref f1) = true)
   (a2 : nsIn K mainGlobals "_law_curve" = some (some (.ref f2))) (l2 : K.lookup f2 = some ⟨oc2, od2, .func (fnOf "_law_curve" "_law_curve" (defArgs s_law_curve) (defBody s_law_curve) (defScope s_law_curve) .none kV2 dc2 pm2 an2 cd2 ct2), sl2⟩) (c2 : codeIn K cd2 "_law_curve" = true) (k2 : keepIn K (.ref f2) = true)
   (a3 : nsIn K mainGlobals "_law_off" = some (some (.ref f3))) (l3 : K.lookup f3 = some ⟨oc3, od3, .func (fnOf "_law_off" "_law_off" (defArgs s_law_off) (defBody s_law_off) (defScope s_law_off) .none kV3 dc3 pm3 an3 cd3 ct3), sl3⟩) (c3 : codeIn K cd3 "_law_off" = true) (k3 : keepIn K (.ref f3) = true)
   (a4 : nsIn K mainGlobals "_law_base" = some (some (.ref f4))) (l4 : K.lookup f4 = some ⟨oc4, od4, .func (fnOf "_law_base" "_law_base" (defArgs s_law_base) (defBody s_law_base) (defScope s_law_base) .none kV4 dc4 pm4 an4 cd4 ct4), sl4⟩) (c4 : codeIn K cd4 "_law_base" = true) (k4 : keepIn K (.ref f4) = true)
   (a5 : nsIn K mainGlobals "_law_turn" = some (some (.ref f5))) (l5 : K.lookup f5 = some ⟨oc5, od5, .func (fnOf "_law_turn" "_law_turn" (defArgs s_law_turn) (defBody s_law_turn) (defScope s_law_turn) .none kV5 dc5 pm5 an5 cd5 ct5), sl5⟩) (c5 : codeIn K cd5 "_law_turn" = true) (k5 : keepIn K (.ref f5) = true)
   (a6 : nsIn K mainGlobals "_law_after" = some (some (.ref f6))) (l6 : K.lookup f6 = some ⟨oc6, od6, .func (fnOf "_law_after" "_law_after" (defArgs s_law_after) (defBody s_law_after) (defScope s_law_after) .none kV6 dc6 pm6 an6 cd6 ct6), sl6⟩) (c6 : codeIn K cd6 "_law_after" = true) (k6 : keepIn K (.ref f6) = true)
   (a7 : nsIn K mainGlobals "_law_undone" = some (some (.ref f7))) (l7 : K.lookup f7 = some ⟨oc7, od7, .func (fnOf "_law_undone" "_law_undone" (defArgs s_law_undone) (defBody s_law_undone) (defScope s_law_undone) .none kV7 dc7 pm7 an7 cd7 ct7), sl7⟩) (c7 : codeIn K cd7 "_law_undone" = true) (k7 : keepIn K (.ref f7) = true)
   (a8 : nsIn K mainGlobals "_law_turned" = some (some (.ref f8))) (l8 : K.lookup f8 = some ⟨oc8, od8, .func (fnOf "_law_turned" "_law_turned" (defArgs s_law_turned) (defBody s_law_turned) (defScope s_law_turned) .none kV8 dc8 pm8 an8 cd8 ct8), sl8⟩) (c8 : codeIn K cd8 "_law_turned" = true) (k8 : keepIn K (.ref f8) = true)
   (a9 : nsIn K mainGlobals "_law_joined" = some (some (.ref f9))) (l9 : K.lookup f9 = some ⟨oc9, od9, .func (fnOf "_law_joined" "_law_joined" (defArgs s_law_joined) (defBody s_law_joined) (defScope s_law_joined) .none kV9 dc9 pm9 an9 cd9 ct9), sl9⟩) (c9 : codeIn K cd9 "_law_joined" = true) (k9 : keepIn K (.ref f9) = true)
   (a10 : nsIn K mainGlobals "_law_altered" = some (some (.ref f10))) (l10 : K.lookup f10 = some ⟨oc10, od10, .func (fnOf "_law_altered" "_law_altered" (defArgs s_law_altered) (defBody s_law_altered) (defScope s_law_altered) .none kV10 dc10 pm10 an10 cd10 ct10), sl10⟩) (c10 : codeIn K cd10 "_law_altered" = true) (k10 : keepIn K (.ref f10) = true)
   (a11 : nsIn K mainGlobals "_law_corners" = some (some (.ref f11))) (l11 : K.lookup f11 = some ⟨oc11, od11, .func (fnOf "_law_corners" "_law_corners" (defArgs s_law_corners) (defBody s_law_corners) (defScope s_law_corners) .none kV11 dc11 pm11 an11 cd11 ct11), sl11⟩) (c11 : codeIn K cd11 "_law_corners" = true) (k11 : keepIn K (.ref f11) = true)
   (a12 : nsIn K mainGlobals "_law_loose" = some (some (.ref f12))) (l12 : K.lookup f12 = some ⟨oc12, od12, .func (fnOf "_law_loose" "_law_loose" (defArgs s_law_loose) (defBody s_law_loose) (defScope s_law_loose) .none kV12 dc12 pm12 an12 cd12 ct12), sl12⟩) (c12 : codeIn K cd12 "_law_loose" = true) (k12 : keepIn K (.ref f12) = true)
   (a13 : nsIn K mainGlobals "_law_drawn" = some (some (.ref f13))) (l13 : K.lookup f13 = some ⟨oc13, od13, .func (fnOf "_law_drawn" "_law_drawn" (defArgs s_law_drawn) (defBody s_law_drawn) (defScope s_law_drawn) .none kV13 dc13 pm13 an13 cd13 ct13), sl13⟩) (c13 : codeIn K cd13 "_law_drawn" = true) (k13 : keepIn K (.ref f13) = true)
   (a14 : nsIn K mainGlobals "full" = some (some (.ref f14))) (l14 : K.lookup f14 = some ⟨oc14, od14, .func (fnOf "full" "full" (defArgs s_full) (defBody s_full) (defScope s_full) .none kV14 dc14 pm14 an14 cd14 ct14), sl14⟩) (c14 : codeIn K cd14 "full" = true) (k14 : keepIn K (.ref f14) = true)
   (a15 : nsIn K mainGlobals "still" = some (some (.ref f15))) (l15 : K.lookup f15 = some ⟨oc15, od15, .func (fnOf "still" "still" (defArgs s_still) (defBody s_still) (defScope s_still) .none kV15 dc15 pm15 an15 cd15 ct15), sl15⟩) (c15 : codeIn K cd15 "still" = true) (k15 : keepIn K (.ref f15) = true)
   (a16 : nsIn K mainGlobals "first_state" = some (some (.ref f16))) (l16 : K.lookup f16 = some ⟨oc16, od16, .func (fnOf "first_state" "first_state" (defArgs s_first_state) (defBody s_first_state) (defScope s_first_state) .none kV16 dc16 pm16 an16 cd16 ct16), sl16⟩) (c16 : codeIn K cd16 "first_state" = true) (k16 : keepIn K (.ref f16) = true)
   (a17 : nsIn K mainGlobals "digits_of" = some (some (.ref f17))) (l17 : K.lookup f17 = some ⟨oc17, od17, .func (fnOf "digits_of" "digits_of" (defArgs s_digits_of) (defBody s_digits_of) (defScope s_digits_of) .none kV17 dc17 pm17 an17 cd17 ct17), sl17⟩) (c17 : codeIn K cd17 "digits_of" = true) (k17 : keepIn K (.ref f17) = true)
   (a18 : nsIn K mainGlobals "walked" = some (some (.ref f18))) (l18 : K.lookup f18 = some ⟨oc18, od18, .func (fnOf "walked" "walked" (defArgs s_walked) (defBody s_walked) (defScope s_walked) .none kV18 dc18 pm18 an18 cd18 ct18), sl18⟩) (c18 : codeIn K cd18 "walked" = true) (k18 : keepIn K (.ref f18) = true)
   (a19 : nsIn K mainGlobals "after" = some (some (.ref f19))) (l19 : K.lookup f19 = some ⟨oc19, od19, .func (fnOf "after" "after" (defArgs s_after) (defBody s_after) (defScope s_after) .none kV19 dc19 pm19 an19 cd19 ct19), sl19⟩) (c19 : codeIn K cd19 "after" = true) (k19 : keepIn K (.ref f19) = true)
   (a20 : nsIn K mainGlobals "turned" = some (some (.ref f20))) (l20 : K.lookup f20 = some ⟨oc20, od20, .func (fnOf "turned" "turned" (defArgs s_turned) (defBody s_turned) (defScope s_turned) .none kV20 dc20 pm20 an20 cd20 ct20), sl20⟩) (c20 : codeIn K cd20 "turned" = true) (k20 : keepIn K (.ref f20) = true)
   (a21 : nsIn K mainGlobals "part_at" = some (some (.ref f21))) (l21 : K.lookup f21 = some ⟨oc21, od21, .func (fnOf "part_at" "part_at" (defArgs s_part_at) (defBody s_part_at) (defScope s_part_at) .none kV21 dc21 pm21 an21 cd21 ct21), sl21⟩) (c21 : codeIn K cd21 "part_at" = true) (k21 : keepIn K (.ref f21) = true)
   (a22 : nsIn K mainGlobals "deeper" = some (some (.ref f22))) (l22 : K.lookup f22 = some ⟨oc22, od22, .func (fnOf "deeper" "deeper" (defArgs s_deeper) (defBody s_deeper) (defScope s_deeper) .none kV22 dc22 pm22 an22 cd22 ct22), sl22⟩) (c22 : codeIn K cd22 "deeper" = true) (k22 : keepIn K (.ref f22) = true)
   (a23 : nsIn K mainGlobals "place_at" = some (some (.ref f23))) (l23 : K.lookup f23 = some ⟨oc23, od23, .func (fnOf "place_at" "place_at" (defArgs s_place_at) (defBody s_place_at) (defScope s_place_at) .none kV23 dc23 pm23 an23 cd23 ct23), sl23⟩) (c23 : codeIn K cd23 "place_at" = true) (k23 : keepIn K (.ref f23) = true)
   (a24 : nsIn K mainGlobals "places_around" = some (some (.ref f24))) (l24 : K.lookup f24 = some ⟨oc24, od24, .func (fnOf "places_around" "places_around" (defArgs s_places_around) (defBody s_places_around) (defScope s_places_around) .none kV24 dc24 pm24 an24 cd24 ct24), sl24⟩) (c24 : codeIn K cd24 "places_around" = true) (k24 : keepIn K (.ref f24) = true)
   (a25 : nsIn K mainGlobals "neighbours" = some (some (.ref f25))) (l25 : K.lookup f25 = some ⟨oc25, od25, .func (fnOf "neighbours" "neighbours" (defArgs s_neighbours) (defBody s_neighbours) (defScope s_neighbours) .none kV25 dc25 pm25 an25 cd25 ct25), sl25⟩) (c25 : codeIn K cd25 "neighbours" = true) (k25 : keepIn K (.ref f25) = true)
   (a26 : nsIn K mainGlobals "has_place" = some (some (.ref f26))) (l26 : K.lookup f26 = some ⟨oc26, od26, .func (fnOf "has_place" "has_place" (defArgs s_has_place) (defBody s_has_place) (defScope s_has_place) .none kV26 dc26 pm26 an26 cd26 ct26), sl26⟩) (c26 : codeIn K cd26 "has_place" = true) (k26 : keepIn K (.ref f26) = true)
   (a27 : nsIn K mainGlobals "ask_place" = some (some (.ref f27))) (l27 : K.lookup f27 = some ⟨oc27, od27, .func (fnOf "ask_place" "ask_place" (defArgs s_ask_place) (defBody s_ask_place) (defScope s_ask_place) .none kV27 dc27 pm27 an27 cd27 ct27), sl27⟩) (c27 : codeIn K cd27 "ask_place" = true) (k27 : keepIn K (.ref f27) = true)
   (a28 : nsIn K mainGlobals "undone" = some (some (.ref f28))) (l28 : K.lookup f28 = some ⟨oc28, od28, .func (fnOf "undone" "undone" (defArgs s_undone) (defBody s_undone) (defScope s_undone) .none kV28 dc28 pm28 an28 cd28 ct28), sl28⟩) (c28 : codeIn K cd28 "undone" = true) (k28 : keepIn K (.ref f28) = true)
   (a29 : nsIn K mainGlobals "digit_at" = some (some (.ref f29))) (l29 : K.lookup f29 = some ⟨oc29, od29, .func (fnOf "digit_at" "digit_at" (defArgs s_digit_at) (defBody s_digit_at) (defScope s_digit_at) .none kV29 dc29 pm29 an29 cd29 ct29), sl29⟩) (c29 : codeIn K cd29 "digit_at" = true) (k29 : keepIn K (.ref f29) = true)
   (a30 : nsIn K mainGlobals "number_at" = some (some (.ref f30))) (l30 : K.lookup f30 = some ⟨oc30, od30, .func (fnOf "number_at" "number_at" (defArgs s_number_at) (defBody s_number_at) (defScope s_number_at) .none kV30 dc30 pm30 an30 cd30 ct30), sl30⟩) (c30 : codeIn K cd30 "number_at" = true) (k30 : keepIn K (.ref f30) = true)
   (a31 : nsIn K mainGlobals "_law_refused" = some (some (.ref f31))) (l31 : K.lookup f31 = some ⟨oc31, od31, .func (fnOf "_law_refused" "_law_refused" (defArgs s_law_refused) (defBody s_law_refused) (defScope s_law_refused) .none kV31 dc31 pm31 an31 cd31 ct31), sl31⟩) (c31 : codeIn K cd31 "_law_refused" = true) (k31 : keepIn K (.ref f31) = true)
   (a32 : nsIn K mainGlobals "_law_same" = some (some (.ref f32))) (l32 : K.lookup f32 = some ⟨oc32, od32, .func (fnOf "_law_same" "_law_same" (defArgs s_law_same) (defBody s_law_same) (defScope s_law_same) .none kV32 dc32 pm32 an32 cd32 ct32), sl32⟩) (c32 : codeIn K cd32 "_law_same" = true) (k32 : keepIn K (.ref f32) = true)
   (a33 : nsIn K mainGlobals "law" = some (some (.ref f33))) (l33 : K.lookup f33 = some ⟨oc33, od33, .func (fnOf "law" "law" (defArgs s_law) (defBody s_law) (defScope s_law) .none kV33 dc33 pm33 an33 cd33 ct33), sl33⟩) (c33 : codeIn K cd33 "law" = true) (k33 : keepIn K (.ref f33) = true)
   (ca0 : nsIn K mainGlobals "Curve" = some (some (.ref cC0))) (ci0 : findIn K (.ref cC0) "__init__" = some (some (.ref cF0))) (cn0 : isFn K (.ref cF0) = true) (cl0 : K.lookup cF0 = some ⟨coc0, codi0, .func (fnOf "__init__" "Curve.__init__" (defArgs si_Curve) (defBody si_Curve) (defScope si_Curve) .none ckV0 cdc0 cpm0 cani0 ccd0 cct0), csl0⟩) (cc0 : codeIn K ccd0 "Curve.__init__" = true) (ck0 : keepIn K (.ref cF0) = true)
   (cpg0 : plainGet K cC0 Str.empty = true) (chd0 : hasDictIn K cC0 = true) (cpo0 : plainOver K cC0 = true) (csa0 : findIn K (.ref cC0) "__setattr__" = some (some (.builtin "object.__setattr__"))) (cmk0 : makesIn K cC0 = true) (ckc0 : keepIn K (.ref cC0) = true)
   (cf0_dims : findIn K (.ref cC0) "dims" = some none)
   (cf0_joined : findIn K (.ref cC0) "joined" = some none)
   (cf0_name : findIn K (.ref cC0) "name" = some none)
   (cf0_parts : findIn K (.ref cC0) "parts" = some none)
   (ca1 : nsIn K mainGlobals "Part" = some (some (.ref cC1))) (ci1 : findIn K (.ref cC1) "__init__" = some (some (.ref cF1))) (cn1 : isFn K (.ref cF1) = true) (cl1 : K.lookup cF1 = some ⟨coc1, codi1, .func (fnOf "__init__" "Part.__init__" (defArgs si_Part) (defBody si_Part) (defScope si_Part) .none ckV1 cdc1 cpm1 cani1 ccd1 cct1), csl1⟩) (cc1 : codeIn K ccd1 "Part.__init__" = true) (ck1 : keepIn K (.ref cF1) = true)
   (cpg1 : plainGet K cC1 Str.empty = true) (chd1 : hasDictIn K cC1 = true) (cpo1 : plainOver K cC1 = true) (csa1 : findIn K (.ref cC1) "__setattr__" = some (some (.builtin "object.__setattr__"))) (cmk1 : makesIn K cC1 = true) (ckc1 : keepIn K (.ref cC1) = true)
   (cf1_back : findIn K (.ref cC1) "back" = some none)
   (cf1_corner : findIn K (.ref cC1) "corner" = some none)
   (cf1_turn : findIn K (.ref cC1) "turn" = some none)
   (xa0 : nsIn K mainGlobals "OffFloor" = some (some (.ref xC0)))
   (xk0 : xkitIn K xC0 = true)
   (xe0 : keepIn K (.ref xC0) = true)
   (xc0 : excIn K xC0 mroV "ValueError.__new__" = true)
   (xa1 : nsIn K mainGlobals "YardError" = some (some (.ref xC1)))
   (xa2 : nsIn K mainGlobals "BadBox" = some (some (.ref xC2)))
   (xa3 : nsIn K mainGlobals "NoEntry" = some (some (.ref xC3)))
   (xa4 : nsIn K mainGlobals "NoThing" = some (some (.ref xC4)))
   (xa5 : nsIn K mainGlobals "TextError" = some (some (.ref xC5)))
   (xa6 : nsIn K mainGlobals "TooWide" = some (some (.ref xC6)))
   (xa7 : nsIn K mainGlobals "Twice" = some (some (.ref xC7)))
   (xa8 : nsIn K mainGlobals "Unmet" = some (some (.ref xC8)))
   (ix_OffFloor : isxIn K (.ref xC0) [(xC0, true)] = true)
   (ix_ValueError : isxIn K (.type "ValueError") [(xC0, true)] = true)
   (iy_0 : isyIn K (refsW [xC2, xC3, xC4, xC5, xC6, xC7, xC8]) [(xC0, false)] = true)
   (em_YardError_OffFloor : exmOne K (.ref xC0) (.ref xC1) = some true)
   (z_ValueError : nsIn K mainGlobals "ValueError" = some none)
   (z_all : nsIn K mainGlobals "all" = some none)
   (z_bool : nsIn K mainGlobals "bool" = some none)
   (z_int : nsIn K mainGlobals "int" = some none)
   (z_isinstance : nsIn K mainGlobals "isinstance" = some none)
   (z_len : nsIn K mainGlobals "len" = some none)
   (z_list : nsIn K mainGlobals "list" = some none)
   (z_range : nsIn K mainGlobals "range" = some none)
   (z_reversed : nsIn K mainGlobals "reversed" = some none)
   (z_str : nsIn K mainGlobals "str" = some none)
   (z_tuple : nsIn K mainGlobals "tuple" = some none)
   (z_zip : nsIn K mainGlobals "zip" = some none) :
   ∃ fd : FuncData, (∀ (s : Shared) (v : Value), BindsTo s fd ⟨[v], []⟩ [("_law_script", v)]) /\ ∀ base : Heap, K.In base -> base.Ns mainGlobals mg -> FnOk l.prog w K mg base CX0 6 fa fd ["_law_script"] (spF K 1 d_law) := by
 have e := hfa.symm.trans (mg_of X G a33)
 cases e
 have F0 := fun_mk (st := s_law_mix) l0 c0 k0
 have b0 := F0.binds (ps := ["_law_cell", "_law_factor"]) fun _ _ _ _ _ _ us hl => match us, hl with | [_, _], _ => rfl
 have F1 := fun_mk (st := s_law_level) l1 c1 k1
 have b1 := F1.binds (ps := ["_law_number"]) fun _ _ _ _ _ _ us hl => match us, hl with | [_], _ => rfl
 have F2 := fun_mk (st := s_law_curve) l2 c2 k2
 have b2 := F2.binds (ps := ["_law_dims", "_law_joined_here", "_law_parts"]) fun _ _ _ _ _ _ us hl => match us, hl with | [_, _, _], _ => rfl
 have F3 := fun_mk (st := s_law_off) l3 c3 k3
 have b3 := F3.binds (ps := ["_law_low", "_law_high", "_law_draw", "_law_far"]) fun _ _ _ _ _ _ us hl => match us, hl with | [_, _, _, _], _ => rfl
 have F4 := fun_mk (st := s_law_base) l4 c4 k4
 have b4 := F4.binds (ps := ["_law_dims"]) fun _ _ _ _ _ _ us hl => match us, hl with | [_], _ => rfl
 have F5 := fun_mk (st := s_law_turn) l5 c5 k5
 have b5 := F5.binds (ps := ["_law_number", "_law_dims"]) fun _ _ _ _ _ _ us hl => match us, hl with | [_, _], _ => rfl
 have F6 := fun_mk (st := s_law_after) l6 c6 k6
 have b6 := F6.binds (ps := ["_law_one", "_law_other"]) fun _ _ _ _ _ _ us hl => match us, hl with | [_, _], _ => rfl
 have F7 := fun_mk (st := s_law_undone) l7 c7 k7
 have b7 := F7.binds (ps := ["_law_turn_here"]) fun _ _ _ _ _ _ us hl => match us, hl with | [_], _ => rfl
 have F8 := fun_mk (st := s_law_turned) l8 c8 k8
 have b8 := F8.binds (ps := ["_law_turn_here", "_law_corner"]) fun _ _ _ _ _ _ us hl => match us, hl with | [_, _], _ => rfl
 have F9 := fun_mk (st := s_law_joined) l9 c9 k9
 have b9 := F9.binds (ps := ["_law_dims", "_law_number"]) fun _ _ _ _ _ _ us hl => match us, hl with | [_, _], _ => rfl
 have F10 := fun_mk (st := s_law_altered) l10 c10 k10
 have b10 := F10.binds (ps := ["_law_dims", "_law_cell"]) fun _ _ _ _ _ _ us hl => match us, hl with | [_, _], _ => rfl
 have F11 := fun_mk (st := s_law_corners) l11 c11 k11
 have b11 := F11.binds (ps := ["_law_dims"]) fun _ _ _ _ _ _ us hl => match us, hl with | [_], _ => rfl
 have F12 := fun_mk (st := s_law_loose) l12 c12 k12
 have b12 := F12.binds (ps := ["_law_dims", "_law_cell"]) fun _ _ _ _ _ _ us hl => match us, hl with | [_, _], _ => rfl
 have F13 := fun_mk (st := s_law_drawn) l13 c13 k13
 have b13 := F13.binds (ps := ["_law_dims", "_law_cell"]) fun _ _ _ _ _ _ us hl => match us, hl with | [_, _], _ => rfl
 have F14 := fun_mk (st := s_full) l14 c14 k14
 have b14 := F14.binds (ps := ["dims", "level"]) fun _ _ _ _ _ _ us hl => match us, hl with | [_, _], _ => rfl
 have F15 := fun_mk (st := s_still) l15 c15 k15
 have b15 := F15.binds (ps := ["dims"]) fun _ _ _ _ _ _ us hl => match us, hl with | [_], _ => rfl
 have F16 := fun_mk (st := s_first_state) l16 c16 k16
 have b16 := F16.binds (ps := ["dims"]) fun _ _ _ _ _ _ us hl => match us, hl with | [_], _ => rfl
 have F17 := fun_mk (st := s_digits_of) l17 c17 k17
 have b17 := F17.binds (ps := ["number", "base", "many"]) fun _ _ _ _ _ _ us hl => match us, hl with | [_, _, _], _ => rfl
 have F18 := fun_mk (st := s_walked) l18 c18 k18
 have b18 := F18.binds (ps := ["curve", "back", "number"]) fun _ _ _ _ _ _ us hl => match us, hl with | [_, _, _], _ => rfl
 have F19 := fun_mk (st := s_after) l19 c19 k19
 have b19 := F19.binds (ps := ["one", "other"]) fun _ _ _ _ _ _ us hl => match us, hl with | [_, _], _ => rfl
 have F20 := fun_mk (st := s_turned) l20 c20 k20
 have b20 := F20.binds (ps := ["turn", "corner"]) fun _ _ _ _ _ _ us hl => match us, hl with | [_, _], _ => rfl
 have F21 := fun_mk (st := s_part_at) l21 c21 k21
 have b21 := F21.binds (ps := ["curve", "state", "digit"]) fun _ _ _ _ _ _ us hl => match us, hl with | [_, _, _], _ => rfl
 have F22 := fun_mk (st := s_deeper) l22 c22 k22
 have b22 := F22.binds (ps := ["place", "corner"]) fun _ _ _ _ _ _ us hl => match us, hl with | [_, _], _ => rfl
 have F23 := fun_mk (st := s_place_at) l23 c23 k23
 have b23 := F23.binds (ps := ["curve", "level", "number"]) fun _ _ _ _ _ _ us hl => match us, hl with | [_, _, _], _ => rfl
 have F24 := fun_mk (st := s_places_around) l24 c24 k24
 have b24 := F24.binds (ps := ["place"]) fun _ _ _ _ _ _ us hl => match us, hl with | [_], _ => rfl
 have F25 := fun_mk (st := s_neighbours) l25 c25 k25
 have b25 := F25.binds (ps := ["curve", "level", "number"]) fun _ _ _ _ _ _ us hl => match us, hl with | [_, _, _], _ => rfl
 have F26 := fun_mk (st := s_has_place) l26 c26 k26
 have b26 := F26.binds (ps := ["dims", "level", "place"]) fun _ _ _ _ _ _ us hl => match us, hl with | [_, _, _], _ => rfl
 have F27 := fun_mk (st := s_ask_place) l27 c27 k27
 have b27 := F27.binds (ps := ["dims", "level", "place"]) fun _ _ _ _ _ _ us hl => match us, hl with | [_, _, _], _ => rfl
 have F28 := fun_mk (st := s_undone) l28 c28 k28
 have b28 := F28.binds (ps := ["turn"]) fun _ _ _ _ _ _ us hl => match us, hl with | [_], _ => rfl
 have F29 := fun_mk (st := s_digit_at) l29 c29 k29
 have b29 := F29.binds (ps := ["curve", "state", "corner"]) fun _ _ _ _ _ _ us hl => match us, hl with | [_, _, _], _ => rfl
 have F30 := fun_mk (st := s_number_at) l30 c30 k30
 have b30 := F30.binds (ps := ["curve", "level", "place"]) fun _ _ _ _ _ _ us hl => match us, hl with | [_, _, _], _ => rfl
 have F31 := fun_mk (st := s_law_refused) l31 c31 k31
 have b31 := F31.binds (ps := ["_law_curve_here", "_law_level_here", "_law_which", "_law_asked"]) fun _ _ _ _ _ _ us hl => match us, hl with | [_, _, _, _], _ => rfl
 have F32 := fun_mk (st := s_law_same) l32 c32 k32
 have b32 := F32.binds (ps := ["_law_found", "_law_due"]) fun _ _ _ _ _ _ us hl => match us, hl with | [_, _], _ => rfl
 have F33 := fun_mk (st := s_law) l33 c33 k33
 have b33 := F33.binds (ps := ["_law_script"]) fun _ _ _ _ _ _ us hl => match us, hl with | [_], _ => rfl
 have cFF0 := fun_mk (st := si_Curve) cl0 cc0 ck0
 have cb0 := cFF0.binds (ps := ["self", "name", "dims", "joined", "parts"]) fun _ _ _ _ _ _ us hl => match us, hl with | [_, _, _, _, _], _ => rfl
 have cFF1 := fun_mk (st := si_Part) cl1 cc1 ck1
 have cb1 := cFF1.binds (ps := ["self", "corner", "turn", "back"]) fun _ _ _ _ _ _ us hl => match us, hl with | [_, _, _, _], _ => rfl
 exact ⟨fnOf "law" "law" (defArgs s_law) (defBody s_law) (defScope s_law) .none kV33 dc33 pm33 an33 cd33 ct33, fun s v => .of_eq rfl, fun base _ _ => ok_law (⟨_, _, F0, b0, mg_of X G a0, _, _, F1, b1, mg_of X G a1, _, _, F2, b2, mg_of X G a2, _, _, F3, b3, mg_of X G a3, _, _, F4, b4, mg_of X G a4, _, _, F5, b5, mg_of X G a5, _, _, F6, b6, mg_of X G a6, _, _, F7, b7, mg_of X G a7, _, _, F8, b8, mg_of X G a8, _, _, F9, b9, mg_of X G a9, _, _, F10, b10, mg_of X G a10, _, _, F11, b11, mg_of X G a11, _, _, F12, b12, mg_of X G a12, _, _, F13, b13, mg_of X G a13, _, _, F14, b14, mg_of X G a14, _, _, F15, b15, mg_of X G a15, _, _, F16, b16, mg_of X G a16, _, _, F17, b17, mg_of X G a17, _, _, F18, b18, mg_of X G a18, _, _, F19, b19, mg_of X G a19, _, _, F20, b20, mg_of X G a20, _, _, F21, b21, mg_of X G a21, _, _, F22, b22, mg_of X G a22, _, _, F23, b23, mg_of X G a23, _, _, F24, b24, mg_of X G a24, _, _, F25, b25, mg_of X G a25, _, _, F26, b26, mg_of X G a26, _, _, F27, b27, mg_of X G a27, _, _, F28, b28, mg_of X G a28, _, _, F29, b29, mg_of X G a29, _, _, F30, b30, mg_of X G a30, _, _, F31, b31, mg_of X G a31, _, _, F32, b32, mg_of X G a32, _, _, F33, b33, mg_of X G a33, _, _, _, ca0, ⟨cpg0, chd0, cpo0, csa0⟩, mg_of X G ca0, cFF0, cb0, ⟨cmk0, ci0, cn0, ckc0⟩, cf0_dims, cf0_joined, cf0_name, cf0_parts, _, _, _, ca1, ⟨cpg1, chd1, cpo1, csa1⟩, mg_of X G ca1, cFF1, cb1, ⟨cmk1, ci1, cn1, ckc1⟩, cf1_back, cf1_corner, cf1_turn, _, xa0, mg_of X G xa0, xkit_of xk0, xe0, xcls_of xc0, _, xa1, mg_of X G xa1, _, xa2, mg_of X G xa2, _, xa3, mg_of X G xa3, _, xa4, mg_of X G xa4, _, xa5, mg_of X G xa5, _, xa6, mg_of X G xa6, _, xa7, mg_of X G xa7, _, xa8, mg_of X G xa8, ix_OffFloor, ix_ValueError, iy_0, em_YardError_OffFloor, mg_none_of X G z_ValueError, mg_none_of X G z_all, mg_none_of X G z_bool, mg_none_of X G z_int, mg_none_of X G z_isinstance, mg_none_of X G z_len, mg_none_of X G z_list, mg_none_of X G z_range, mg_none_of X G z_reversed, mg_none_of X G z_str, mg_none_of X G z_tuple, mg_none_of X G z_zip⟩ : Txt K mg)⟩
theorem law_ok {K : Frag} {H : Hp} {a : Addr} {ns : List Int} (hS : SqL K H a (ns.map V.int)) (h : d_law [.lst (ns.map .int)] = some (.bl true)) : spF K 1 d_law [.ref a] H (fun v _ => v = .bl true) fun _ _ _ => False := by
 have rs : ∀ ns : List Int, Reps K H (ns.map .int) (ns.map V.int) := fun ns => by
   induction ns with
   | nil => exact reps_nil.mpr rfl
   | cons n r ih => exact reps_cons.mpr ⟨_, _, rfl, rep_int.mpr rfl, ih⟩
 exact ⟨H, [.lst (ns.map .int)], .bl true, Same.refl _, reps_cons.mpr ⟨_, _, rfl, rep_lst.mpr ⟨a, _, rfl, hS, rs ns⟩, reps_nil.mpr rfl⟩, rfl, h, fun v H' G' _ r => rep_bl.mp r⟩
end My
namespace My
open PySem L2
theorem upto2 : upto 0 2 = [.int 0, .int 1] := rfl
theorem upto3 : upto 0 3 = [.int 0, .int 1, .int 2] := rfl
theorem bit (x : Int) : x % 2 = 0 ∨ x % 2 = 1 := by omega
def Ord3 (a b c : Int) : Prop := (a = 0 /\ b = 1 /\ c = 2) ∨ (a = 0 /\ b = 2 /\ c = 1) ∨ (a = 1 /\ b = 0 /\ c = 2) ∨ (a = 1 /\ b = 2 /\ c = 0) ∨ (a = 2 /\ b = 0 /\ c = 1) ∨ (a = 2 /\ b = 1 /\ c = 0)
end My
namespace My
open PySem L2
abbrev Tn := List (Int × Int)
def encP (p : Int × Int) : D := .tup [.int p.1, .int p.2]
def encT (t : Tn) : D := .tup (t.map encP)
def encC (c : List Int) : D := .tup (c.map .int)
def turnedM (t : Tn) (c : List Int) : List Int := t.map fun p => Builtin.bitXor (c.getD p.1.toNat 0) p.2
def afterM (t u : Tn) : Tn := t.map fun p => ((u.getD p.1.toNat (0, 0)).1, Builtin.bitXor (u.getD p.1.toNat (0, 0)).2 p.2)
theorem mapF_pairs {elt : Ef} {h : Int × Int -> D} {rest : List B} : ∀ (t : Tn) (x0 x1 : B) (acc : List D), (∀ p ∈ t, elt (.fz (.int p.1) :: .fz (.int p.2) :: rest) = some (h p)) ->
   mapF (gT (gsCons (gN 0) (gsCons (gN 1) gsNil))) tOK elt (t.map encP) (x0 :: x1 :: rest) acc = some (acc ++ t.map h)
 | [], _, _, acc, _ => by simp [mapF]
 | p :: r, x0, x1, acc, hh => by
   rw [List.map_cons]
   unfold mapF
   have e1 : gT (gsCons (gN 0) (gsCons (gN 1) gsNil)) (encP p) (x0 :: x1 :: rest) = some (.fz (.int p.1) :: .fz (.int p.2) :: rest) := rfl
   rw [e1, Option.bind_some]
   have e2 : tOK (.fz (.int p.1) :: .fz (.int p.2) :: rest) = some true := rfl
   rw [e2, Option.bind_some, if_pos rfl, hh p List.mem_cons_self, Option.bind_some, mapF_pairs r _ _ _ fun q hq => hh q (List.mem_cons_of_mem _ hq)]
   simp
theorem atI_getD {α : Type} (xs : List α) (i : Int) (d : α) (h0 : 0 <= i) (h1 : i < xs.length) : atI xs i = some (xs.getD i.toNat d) := by
 unfold atI ixN
 rw [if_pos h0, if_pos h1]
 have : i.toNat < xs.length := by omega
 simp [List.getD, this]
def Fits (t : Tn) (n : Nat) : Prop := ∀ p ∈ t, 0 <= p.1 /\ p.1 < n
theorem okL_enc {t : List D} (h : t.length <= 1000) : okL t = some t := by
 unfold okL
 rw [if_pos (Nat.le_trans h (by decide))]
theorem atI_map {α β : Type} (f : α -> β) (xs : List α) (i : Int) : atI (xs.map f) i = (atI xs i).map f := by
 unfold atI
 rw [List.length_map]
 cases ixN xs.length i with
 | none => rfl
 | some j => simp
theorem turned_eq (t : Tn) (c : List Int) (h : Fits t c.length) (hl : t.length <= 1000) : d_turned [encT t, encC c] = some (encC (turnedM t c)) := by
 have e1 : startB 2 [encT t, encC c] = [.fz (encT t), .fz (encC c)] := rfl
 have e2 := mapF_pairs (elt := eXor (eIx (eV 2) (eV 0)) (eV 1)) (h := fun p => .int (Builtin.bitXor (c.getD p.1.toNat 0) p.2)) (rest := [.fz (encC c)]) t .no .no [] fun p hp => by
   obtain ⟨h0, h1⟩ := h p hp
   simp [eI, eIx, eV, getB, encC, atD, atI_map, atI_getD c p.1 0 h0 h1]
 have e3 : okL (t.map encP) = some (t.map encP) := okL_enc (by rw [List.length_map]; exact hl)
 have e4 : upB 2 [1] [.fz (encT t), .fz (encC c)] = [.no, .no, .fz (encC c)] := rfl
 unfold d_turned fnF
 rw [e1]
 have e5 : lComp (iT (eV 0)) 2 [1] (gT (gsCons (gN 0) (gsCons (gN 1) gsNil))) tOK (eXor (eIx (eV 2) (eV 0)) (eV 1)) [.fz (encT t), .fz (encC c)] = some (t.map fun p => D.int (Builtin.bitXor (c.getD p.1.toNat 0) p.2)) := by
   unfold lComp
   have e6 : iT (eV 0) [.fz (encT t), .fz (encC c)] = some (t.map encP) := rfl
   rw [e6, Option.bind_some, e3, Option.bind_some, e4, e2]
   simp
 simp only [b_turned, B_turned_0, sRet, eTupOf, eL, e5, Option.map_some, Option.bind_some, tupD, outD]
 simp only [encC, turnedM, List.map_map, Function.comp_def]
end My
namespace My
open PySem L2
theorem after_eq (t u : Tn) (h : Fits t u.length) (hl : t.length <= 1000) : d_after [encT t, encT u] = some (encT (afterM t u)) := by
 have e1 : startB 2 [encT t, encT u] = [.fz (encT t), .fz (encT u)] := rfl
 have e2 := mapF_pairs (elt := eTup (aCons (eIx (eIx (eV 2) (eV 0)) (eC (.int 0))) (aCons (eXor (eIx (eIx (eV 2) (eV 0)) (eC (.int 1))) (eV 1)) aNil))) (h := fun p => encP ((u.getD p.1.toNat (0, 0)).1, Builtin.bitXor (u.getD p.1.toNat (0, 0)).2 p.2)) (rest := [.fz (encT u)]) t .no .no [] fun p hp => by
   obtain ⟨h0, h1⟩ := h p hp
   have a0 : ∀ x y : D, atI [x, y] 0 = some x := fun _ _ => rfl
   have a1 : ∀ x y : D, atI [x, y] 1 = some y := fun _ _ => rfl
   simp [eI, eIx, eV, eC, getB, encT, atD, atI_map, atI_getD u p.1 (0, 0) h0 h1, encP, eTup, aCons, aNil, okL, lim, a0, a1]
 have e3 : okL (t.map encP) = some (t.map encP) := okL_enc (by rw [List.length_map]; exact hl)
 have e4 : upB 2 [1] [.fz (encT t), .fz (encT u)] = [.no, .no, .fz (encT u)] := rfl
 unfold d_after fnF
 rw [e1]
 have e5 : lComp (iT (eV 0)) 2 [1] (gT (gsCons (gN 0) (gsCons (gN 1) gsNil))) tOK (eTup (aCons (eIx (eIx (eV 2) (eV 0)) (eC (.int 0))) (aCons (eXor (eIx (eIx (eV 2) (eV 0)) (eC (.int 1))) (eV 1)) aNil))) [.fz (encT t), .fz (encT u)] = some (t.map fun p => encP ((u.getD p.1.toNat (0, 0)).1, Builtin.bitXor (u.getD p.1.toNat (0, 0)).2 p.2)) := by
   unfold lComp
   have e6 : iT (eV 0) [.fz (encT t), .fz (encT u)] = some (t.map encP) := rfl
   rw [e6, Option.bind_some, e3, Option.bind_some, e4, e2]
   simp
 simp only [b_after, B_after_0, sRet, eTupOf, eL, e5, Option.map_some, Option.bind_some, tupD, outD]
 simp only [encT, afterM, List.map_map, Function.comp_def]
end My
namespace My
open PySem L2
def bits : List Int := [0, 1]
def turnsM2 : List Tn := [((0 : Int), (1 : Int)), (1, 0)].flatMap fun o => bits.flatMap fun f => bits.map fun g => [(o.1, f), (o.2, g)]
def turnsM3 : List Tn := [((0 : Int), (1 : Int), (2 : Int)), (0, 2, 1), (1, 0, 2), (1, 2, 0), (2, 0, 1), (2, 1, 0)].flatMap fun o => bits.flatMap fun f => bits.flatMap fun g => bits.map fun h => [(o.1, f), (o.2.1, g), (o.2.2, h)]
theorem mem2 {a b f g : Int} (h1 : a = 0 /\ b = 1 ∨ a = 1 /\ b = 0) (h2 : f = 0 ∨ f = 1) (h3 : g = 0 ∨ g = 1) : [(a, f), (b, g)] ∈ turnsM2 := by
 rcases h1 with ⟨rfl, rfl⟩ | ⟨rfl, rfl⟩ <;> rcases h2 with rfl | rfl <;> rcases h3 with rfl | rfl <;> decide
theorem mem3 {a b c f g h : Int} (h1 : Ord3 a b c) (h2 : f = 0 ∨ f = 1) (h3 : g = 0 ∨ g = 1) (h4 : h = 0 ∨ h = 1) : [(a, f), (b, g), (c, h)] ∈ turnsM3 := by
 rcases h1 with ⟨rfl, rfl, rfl⟩ | ⟨rfl, rfl, rfl⟩ | ⟨rfl, rfl, rfl⟩ | ⟨rfl, rfl, rfl⟩ | ⟨rfl, rfl, rfl⟩ | ⟨rfl, rfl, rfl⟩ <;> rcases h2 with rfl | rfl <;> rcases h3 with rfl | rfl <;> rcases h4 with rfl | rfl <;> decide
theorem of_mem2 {t : Tn} (h : t ∈ turnsM2) : ∃ a b f g, (a = 0 /\ b = 1 ∨ a = 1 /\ b = 0) /\ (f = 0 ∨ f = 1) /\ (g = 0 ∨ g = 1) /\ t = [(a, f), (b, g)] := by
 simp only [turnsM2, bits, List.mem_flatMap, List.mem_map, List.mem_cons, List.not_mem_nil, or_false] at h
 obtain ⟨o, ho, f, hf, g, hg, rfl⟩ := h
 refine ⟨o.1, o.2, f, g, ?_, hf, hg, rfl⟩
 rcases ho with rfl | rfl
 · exact .inl ⟨rfl, rfl⟩
 · exact .inr ⟨rfl, rfl⟩
theorem of_mem3 {t : Tn} (h : t ∈ turnsM3) : ∃ a b c f g j, Ord3 a b c /\ (f = 0 ∨ f = 1) /\ (g = 0 ∨ g = 1) /\ (j = 0 ∨ j = 1) /\ t = [(a, f), (b, g), (c, j)] := by
 simp only [turnsM3, bits, List.mem_flatMap, List.mem_map, List.mem_cons, List.not_mem_nil, or_false] at h
 obtain ⟨o, ho, f, hf, g, hg, j, hj, rfl⟩ := h
 refine ⟨o.1, o.2.1, o.2.2, f, g, j, ?_, hf, hg, hj, rfl⟩
 unfold Ord3
 rcases ho with rfl | rfl | rfl | rfl | rfl | rfl <;> simp
structure Tr (n : Nat) (t : Tn) : Prop where
 len : t.length = n
 fits : Fits t n
 flip : ∀ p ∈ t, p.2 = 0 ∨ p.2 = 1
theorem tr2 {t : Tn} (h : t ∈ turnsM2) : Tr 2 t := by
 obtain ⟨a, b, f, g, h1, h2, h3, rfl⟩ := of_mem2 h
 refine ⟨rfl, fun p hp => ?_, fun p hp => ?_⟩
 · simp only [List.mem_cons, List.not_mem_nil, or_false] at hp
   rcases h1 with ⟨rfl, rfl⟩ | ⟨rfl, rfl⟩ <;> rcases hp with rfl | rfl <;> exact ⟨by simp, by simp⟩
 · simp only [List.mem_cons, List.not_mem_nil, or_false] at hp
   rcases hp with rfl | rfl
   · exact h2
   · exact h3
theorem tr3 {t : Tn} (h : t ∈ turnsM3) : Tr 3 t := by
 obtain ⟨a, b, c, f, g, j, h1, h2, h3, h4, rfl⟩ := of_mem3 h
 refine ⟨rfl, fun p hp => ?_, fun p hp => ?_⟩
 · simp only [List.mem_cons, List.not_mem_nil, or_false] at hp
   unfold Ord3 at h1
   rcases h1 with ⟨rfl, rfl, rfl⟩ | ⟨rfl, rfl, rfl⟩ | ⟨rfl, rfl, rfl⟩ | ⟨rfl, rfl, rfl⟩ | ⟨rfl, rfl, rfl⟩ | ⟨rfl, rfl, rfl⟩ <;> rcases hp with rfl | rfl | rfl <;> exact ⟨by simp, by simp⟩
 · simp only [List.mem_cons, List.not_mem_nil, or_false] at hp
   rcases hp with rfl | rfl | rfl
   · exact h2
   · exact h3
   · exact h4
def okT2 (t : Tn) : Bool := match t with | [(a, f), (b, g)] => (decide (a = 0) && decide (b = 1) || decide (a = 1) && decide (b = 0)) && (decide (f = 0) || decide (f = 1)) && (decide (g = 0) || decide (g = 1)) | _ => false
def okO3 (a b c : Int) : Bool := (decide (a = 0) && decide (b = 1) && decide (c = 2)) || (decide (a = 0) && decide (b = 2) && decide (c = 1)) || (decide (a = 1) && decide (b = 0) && decide (c = 2)) || (decide (a = 1) && decide (b = 2) && decide (c = 0)) || (decide (a = 2) && decide (b = 0) && decide (c = 1)) || (decide (a = 2) && decide (b = 1) && decide (c = 0))
def okT3 (t : Tn) : Bool := match t with | [(a, f), (b, g), (c, h)] => okO3 a b c && (decide (f = 0) || decide (f = 1)) && (decide (g = 0) || decide (g = 1)) && (decide (h = 0) || decide (h = 1)) | _ => false
theorem okT2_mem {t : Tn} (h : okT2 t = true) : t ∈ turnsM2 := by
 unfold okT2 at h
 split at h
 · simp only [Bool.and_eq_true, Bool.or_eq_true, decide_eq_true_eq] at h
   exact mem2 h.1.1 h.1.2 h.2
 · cases h
theorem okT3_mem {t : Tn} (h : okT3 t = true) : t ∈ turnsM3 := by
 unfold okT3 okO3 at h
 split at h
 · simp only [Bool.and_eq_true, Bool.or_eq_true, decide_eq_true_eq] at h
   obtain ⟨⟨⟨h1, h2⟩, h3⟩, h4⟩ := h
   refine mem3 ?_ h2 h3 h4
   unfold Ord3
   rcases h1 with ((((h1 | h1) | h1) | h1) | h1) | h1
   · exact .inl ⟨h1.1.1, h1.1.2, h1.2⟩
   · exact .inr (.inl ⟨h1.1.1, h1.1.2, h1.2⟩)
   · exact .inr (.inr (.inl ⟨h1.1.1, h1.1.2, h1.2⟩))
   · exact .inr (.inr (.inr (.inl ⟨h1.1.1, h1.1.2, h1.2⟩)))
   · exact .inr (.inr (.inr (.inr (.inl ⟨h1.1.1, h1.1.2, h1.2⟩))))
   · exact .inr (.inr (.inr (.inr (.inr ⟨h1.1.1, h1.1.2, h1.2⟩))))
 · cases h
theorem after_mem2 {t u : Tn} (ht : t ∈ turnsM2) (hu : u ∈ turnsM2) : afterM t u ∈ turnsM2 := by
 have key : (turnsM2.all fun t => turnsM2.all fun u => okT2 (afterM t u)) = true := by decide +kernel
 exact okT2_mem (List.all_eq_true.mp (List.all_eq_true.mp key t ht) u hu)
theorem after_mem3 {t u : Tn} (ht : t ∈ turnsM3) (hu : u ∈ turnsM3) : afterM t u ∈ turnsM3 := by
 have key : (turnsM3.all fun t => turnsM3.all fun u => okT3 (afterM t u)) = true := by decide +kernel
 exact okT3_mem (List.all_eq_true.mp (List.all_eq_true.mp key t ht) u hu)
def cornerM (k n : Nat) : List Int := (List.range n).map fun i => (((k >>> i) % 2 : Nat) : Int)
def cornersM (n : Nat) : List (List Int) := (List.range (2 ^ n)).map fun k => cornerM k n
def stillM (n : Nat) : Tn := (List.range n).map fun (i : Nat) => ((i : Int), (0 : Int))
def undoneM (t : Tn) : Tn := (List.range t.length).map fun (i : Nat) => match t.zipIdx.find? fun q => q.1.1 == (i : Int) with | some q => ((q.2 : Int), q.1.2) | none => (0, 0)
def undoneOk (n : Nat) (ok : Tn -> Bool) (t : Tn) : Bool := ok (undoneM t) && decide (afterM (undoneM t) t = stillM n) && decide (afterM t (undoneM t) = stillM n) && (cornersM n).all fun c => decide (turnedM (undoneM t) (turnedM t c) = c)
theorem undone_ok2 {t : Tn} (ht : t ∈ turnsM2) : undoneOk 2 okT2 t = true := List.all_eq_true.mp (show (turnsM2.all (undoneOk 2 okT2)) = true by decide +kernel) t ht
theorem undone_ok3 {t : Tn} (ht : t ∈ turnsM3) : undoneOk 3 okT3 t = true := List.all_eq_true.mp (show (turnsM3.all (undoneOk 3 okT3)) = true by decide +kernel) t ht
end My
namespace My
open PySem L2
theorem undone2 {t : Tn} (ht : t ∈ turnsM2) : d_undone [encT t] = some (encT (undoneM t)) := by
 obtain ⟨a, b, f, g, h1, h2, h3, rfl⟩ := of_mem2 ht
 rcases h1 with ⟨rfl, rfl⟩ | ⟨rfl, rfl⟩ <;> rcases h2 with rfl | rfl <;> rcases h3 with rfl | rfl <;> kernel_rfl
theorem undone3 {t : Tn} (ht : t ∈ turnsM3) : d_undone [encT t] = some (encT (undoneM t)) := by
 obtain ⟨a, b, c, f, g, j, h1, h2, h3, h4, rfl⟩ := of_mem3 ht
 rcases h1 with ⟨rfl, rfl, rfl⟩ | ⟨rfl, rfl, rfl⟩ | ⟨rfl, rfl, rfl⟩ | ⟨rfl, rfl, rfl⟩ | ⟨rfl, rfl, rfl⟩ | ⟨rfl, rfl, rfl⟩ <;> rcases h2 with rfl | rfl <;> rcases h3 with rfl | rfl <;> rcases h4 with rfl | rfl <;> kernel_rfl
def turnsM (n : Nat) : List Tn := if n = 2 then turnsM2 else turnsM3
section
variable {n : Nat} (hn : n = 2 ∨ n = 3)
include hn
theorem trM {t : Tn} (h : t ∈ turnsM n) : Tr n t := by
 rcases hn with rfl | rfl
 · exact tr2 h
 · exact tr3 h
theorem afterMem {t u : Tn} (h : t ∈ turnsM n) (h' : u ∈ turnsM n) : afterM t u ∈ turnsM n := by
 rcases hn with rfl | rfl
 · exact after_mem2 h h'
 · exact after_mem3 h h'
theorem undoneEq {t : Tn} (h : t ∈ turnsM n) : d_undone [encT t] = some (encT (undoneM t)) := by
 rcases hn with rfl | rfl
 · exact undone2 h
 · exact undone3 h
theorem undoneFacts {t : Tn} (h : t ∈ turnsM n) : undoneM t ∈ turnsM n /\ ∀ c ∈ cornersM n, turnedM (undoneM t) (turnedM t c) = c := by
 rcases hn with rfl | rfl
 · have q := undone_ok2 h
   unfold undoneOk at q
   simp only [Bool.and_eq_true, decide_eq_true_eq, List.all_eq_true] at q
   exact ⟨okT2_mem q.1.1.1, q.2⟩
 · have q := undone_ok3 h
   unfold undoneOk at q
   simp only [Bool.and_eq_true, decide_eq_true_eq, List.all_eq_true] at q
   exact ⟨okT3_mem q.1.1.1, q.2⟩
end
theorem turnedM_len (t : Tn) (c : List Int) : (turnedM t c).length = t.length := by simp [turnedM]
end My
namespace My
open PySem L2
def mixI (c f : Int) : Int := ((c * f + 12345) % 2147483647) * ((c * f + 12345) % 2147483647) % 2147483629 / 3
theorem mix_eq (c f : Int) (h1 : -18446744073709551616 < f) (h2 : f < 18446744073709551616) : d_law_mix [.int c, .int f] = some (.int (mixI c f)) := by
 have e1 : cMul c f = true := cMul_r h1 h2
 have e2 : cMul ((c * f + 12345) % 2147483647) ((c * f + 12345) % 2147483647) = true := cMul_l (by omega) (by omega)
 have d1 : decide ((0 : Int) < 2147483647) = true := rfl
 have d2 : decide ((0 : Int) < 2147483629) = true := rfl
 have d3 : (decide ((0 : Int) < 3) && decide ((3 : Int) < 1073741824)) = true := rfl
 simp only [d_law_mix, fnF, b_law_mix, B_law_mix_0, B_law_mix_1, startB, sSeq, sSet, sRet, eI, eV, eC, getB, List.map, List.length_cons, List.length_nil, List.replicate, List.cons_append, List.nil_append, List.getElem?_cons_zero, List.getElem?_cons_succ, Option.bind_some, Option.map_some, e1, e2, d1, d2, d3, if_true, outD, List.set, cDiv]
 rfl
mutual
def okS : Nat -> D -> Bool
 | 0, _ => false
 | _ + 1, .obj _ _ _ => false
 | _ + 1, .exc _ _ _ => false
 | n + 1, .tup ds => decide (ds.length <= 1000) && okSs n ds
 | n + 1, .lst ds => decide (ds.length <= 1000) && okSs n ds
 | _ + 1, _ => true
def okSs : Nat -> List D -> Bool
 | _, [] => true
 | n, d :: r => okS n d && okSs n r
end
theorem okSs_get {n : Nat} : ∀ {ds : List D} {i : Nat} {d : D}, okSs n ds = true -> ds[i]? = some d -> okS n d = true
 | [], _, _, _, h => by simp at h
 | x :: r, 0, _, h, e => by
   unfold okSs at h
   rw [Bool.and_eq_true] at h
   cases e
   exact h.1
 | x :: r, i + 1, _, h, e => by
   unfold okSs at h
   rw [Bool.and_eq_true] at h
   exact okSs_get h.2 (by simpa using e)
theorem same_loop {self : List D -> Option D} {d : D} {ds : List D} (hd : ∀ i : Nat, i < ds.length -> atD d (.int (0 + (i : Nat))) = ds[i]?) (hl : lenD d = some (.int ds.length)) (hz : ds.length <= 1000) (hs : ∀ x ∈ ds, self [x, x] = some (.bl true)) :
   (B_law_same_8 self [.fz d, .fz d, .no]).bind outD = some (.bl true) := by
 have c1 : decide (-1000000 <= ((ds.length : Nat) : Int)) = true := decide_eq_true (by omega)
 have c2 : decide (((ds.length : Nat) : Int) <= 1000000) = true := decide_eq_true (by omega)
 have src : iR (eLen (eV 1)) [.fz d, .fz d, .no] = some (upto 0 ds.length) := by
   simp only [iR, eLen, eV, getB, List.getElem?_cons_zero, List.getElem?_cons_succ, Option.bind_some, hl, c1, c2, Bool.and_true, if_true]
   rfl
 obtain ⟨ρ', e, x2, rfl⟩ := forF_all (g := gN 2) (body := L1_law_same_0 self) (P := fun ρ => ∃ x2, ρ = [.fz d, .fz d, x2]) (upto 0 ds.length) (fun y hy ρ hρ => by
     obtain ⟨i, hi, rfl⟩ := mem_upto hy
     obtain ⟨x2, rfl⟩ := hρ
     refine ⟨[.fz d, .fz d, .fz (.int (0 + (i : Nat)))], [.fz d, .fz d, .fz (.int (0 + (i : Nat)))], rfl, ?_, _, rfl⟩
     have a := hd i hi
     rw [List.getElem?_eq_getElem hi] at a
     have b := hs _ (List.getElem_mem hi)
     simp only [L1_law_same_0, sIf, tNotF, tB1, eCall, aCons, aNil, eIx, eV, getB, sNil, List.getElem?_cons_zero, List.getElem?_cons_succ, Option.bind_some, Option.map_some, List.length_cons, List.length_nil, if_true, a, b, Bool.not_true, Bool.false_eq_true, if_false]) [.fz d, .fz d, .no] ⟨_, rfl⟩
 have es : sFor (iR (eLen (eV 1))) (gN 2) (L1_law_same_0 self) [.fz d, .fz d, .no] = some (.nx [.fz d, .fz d, x2]) := by
   unfold sFor; rw [src, Option.bind_some]; exact e
 have q1 := fun r hk => seq_out (g := B_law_same_9 self) (r := r) es hk
 refine q1 _ ?_
 rfl
theorem same_refl : ∀ (n : Nat) (d : D), okS n d = true -> d_law_sameN n [d, d] = some (.bl true)
 | 0, _, h => by unfold okS at h; cases h
 | n + 1, d, h => by
   have ih := same_refl n
   cases d with
   | non => rfl
   | bl b => cases b <;> rfl
   | int i =>
     have g : gEq (.int i) (.int i) = some true := by show some (decide (i = i)) = _; rw [decide_eq_true rfl]
     show ((B_law_same_0 (d_law_sameN n)) [.fz (.int i), .fz (.int i), .no]).bind outD = _
     simp only [B_law_same_0, B_law_same_1, B_law_same_2, B_law_same_3, sSeq, sIf, sNil, sRet, eB2, gIsC, isNon, eV, eC, getB, tB1, isTy, isInt, isBool, eAndV, eOfT, tNotF, List.getElem?_cons_zero, List.getElem?_cons_succ, Option.bind_some, Option.map_some, g, if_true, Bool.false_eq_true, if_false, Bool.not_false, outD]
   | str i =>
     have g : gEq (.str i) (.str i) = some true := by show some (decide (i = i)) = _; rw [decide_eq_true rfl]
     show ((B_law_same_0 (d_law_sameN n)) [.fz (.str i), .fz (.str i), .no]).bind outD = _
     simp only [B_law_same_0, B_law_same_1, B_law_same_2, B_law_same_3, B_law_same_4, sSeq, sIf, sNil, sRet, eB2, gIsC, isNon, eV, eC, getB, tB1, isTy, isInt, isStr, eAndV, eOfT, List.getElem?_cons_zero, List.getElem?_cons_succ, Option.bind_some, Option.map_some, g, if_true, Bool.false_eq_true, if_false, outD]
   | tup ds =>
     unfold okS at h
     rw [Bool.and_eq_true] at h
     have hz := of_decide_eq_true h.1
     have g : gNe (.int (ds.length : Nat)) (.int (ds.length : Nat)) = some false := by show (some (decide _)).map _ = _; rw [decide_eq_true rfl]; rfl
     have r : d_law_sameN (n + 1) [.tup ds, .tup ds] = (B_law_same_8 (d_law_sameN n) [.fz (.tup ds), .fz (.tup ds), .no]).bind outD := by
       show ((B_law_same_0 (d_law_sameN n)) [.fz (.tup ds), .fz (.tup ds), .no]).bind outD = _
       simp only [B_law_same_0, B_law_same_1, B_law_same_2, B_law_same_3, B_law_same_4, B_law_same_5, B_law_same_6, B_law_same_7, sSeq, sIf, sNil, sRet, eB2, gIsC, isNon, eV, eC, getB, tB1, tAndF, tNotF, isTy, isInt, isStr, isLst, isTup, eLen, lenD, List.getElem?_cons_zero, List.getElem?_cons_succ, Option.bind_some, Option.map_some, g, if_true, Bool.false_eq_true, if_false, Bool.not_true]
     rw [r]
     refine same_loop (ds := ds) (fun i hi => ?_) rfl hz fun x hx => ?_
     · show atI ds _ = _
       rw [show (0 : Int) + ((i : Nat) : Int) = ((i : Nat) : Int) by omega, atI_nat (List.getElem?_eq_getElem hi), List.getElem?_eq_getElem hi]
     · obtain ⟨i, hi⟩ := List.getElem?_of_mem hx
       exact ih x (okSs_get h.2 hi)
   | lst ds =>
     unfold okS at h
     rw [Bool.and_eq_true] at h
     have hz := of_decide_eq_true h.1
     have g : gNe (.int (ds.length : Nat)) (.int (ds.length : Nat)) = some false := by show (some (decide _)).map _ = _; rw [decide_eq_true rfl]; rfl
     have r : d_law_sameN (n + 1) [.lst ds, .lst ds] = (B_law_same_8 (d_law_sameN n) [.fz (.lst ds), .fz (.lst ds), .no]).bind outD := by
       show ((B_law_same_0 (d_law_sameN n)) [.fz (.lst ds), .fz (.lst ds), .no]).bind outD = _
       simp only [B_law_same_0, B_law_same_1, B_law_same_2, B_law_same_3, B_law_same_4, B_law_same_5, B_law_same_6, B_law_same_7, sSeq, sIf, sNil, sRet, eB2, gIsC, isNon, eV, eC, getB, tB1, tAndF, tNotF, isTy, isInt, isStr, isLst, isTup, eLen, lenD, List.getElem?_cons_zero, List.getElem?_cons_succ, Option.bind_some, Option.map_some, g, if_true, Bool.false_eq_true, if_false, Bool.not_true]
     rw [r]
     refine same_loop (ds := ds) (fun i hi => ?_) rfl hz fun x hx => ?_
     · show atI ds _ = _
       rw [show (0 : Int) + ((i : Nat) : Int) = ((i : Nat) : Int) by omega, atI_nat (List.getElem?_eq_getElem hi), List.getElem?_eq_getElem hi]
     · obtain ⟨i, hi⟩ := List.getElem?_of_mem hx
       exact ih x (okSs_get h.2 hi)
   | obj a b ds => unfold okS at h; cases h
   | exc a b ds => unfold okS at h; cases h
structure Pt where
 c : List Int
 t : Tn
 b : Bool
def encPt (p : Pt) : D := .tup [encC p.c, encT p.t, .bl p.b]
def objPt (p : Pt) : D := .obj (Str.ofString "Part") [Str.ofString "corner", Str.ofString "turn", Str.ofString "back"] [encC p.c, encT p.t, .bl p.b]
def objCv (n : Int) (j : Bool) (ps : List Pt) : D := .obj (Str.ofString "Curve") [Str.ofString "name", Str.ofString "dims", Str.ofString "joined", Str.ofString "parts"] [.str (Str.ofString "fold"), .int n, .bl j, .lst (ps.map objPt)]
theorem f_corner (ρ : List B) (f : Ef) (p : Pt) (h : f ρ = some (objPt p)) : eFld (Str.ofString "Part") (Str.ofString "corner") f ρ = some (encC p.c) := by
 unfold eFld; rw [h]; rfl
theorem f_turn (ρ : List B) (f : Ef) (p : Pt) (h : f ρ = some (objPt p)) : eFld (Str.ofString "Part") (Str.ofString "turn") f ρ = some (encT p.t) := by
 unfold eFld; rw [h]; rfl
theorem f_back (ρ : List B) (f : Ef) (p : Pt) (h : f ρ = some (objPt p)) : eFld (Str.ofString "Part") (Str.ofString "back") f ρ = some (.bl p.b) := by
 unfold eFld; rw [h]; rfl
theorem f_parts (ρ : List B) (f : Ef) {n : Int} {j : Bool} {ps : List Pt} (h : f ρ = some (objCv n j ps)) : eFld (Str.ofString "Curve") (Str.ofString "parts") f ρ = some (.lst (ps.map objPt)) := by
 unfold eFld; rw [h]; rfl
structure PtsOk (n : Nat) (ps : List Pt) : Prop where
 perm : (ps.map (·.c)).Perm (cornersM n)
 turn : ∀ p ∈ ps, p.t ∈ turnsM n
theorem cornersM_nodup {n : Nat} (hn : n = 2 ∨ n = 3) : (cornersM n).Nodup := by
 rcases hn with rfl | rfl <;> decide +kernel
theorem cornersM_len {n : Nat} (hn : n = 2 ∨ n = 3) : ∀ c ∈ cornersM n, c.length = n := by
 rcases hn with rfl | rfl <;> decide +kernel
theorem cornersM_size (n : Nat) : (cornersM n).length = 2 ^ n := by simp [cornersM]
theorem PtsOk.len {n : Nat} {ps : List Pt} (h : PtsOk n ps) : ps.length = 2 ^ n := by
 have := h.perm.length_eq
 rw [List.length_map, cornersM_size] at this
 exact this
theorem PtsOk.small {n : Nat} {ps : List Pt} (hn : n = 2 ∨ n = 3) (h : PtsOk n ps) : ps.length <= 8 := by
 rw [h.len]
 rcases hn with rfl | rfl <;> decide
theorem turn_eq (q : Int) {n : Nat} (hn : n = 2 ∨ n = 3) : ∃ t ∈ turnsM n, d_law_turn [.int q, .int n] = some (encT t) := by
 have q1 : q / 1 = q := Int.ediv_one q
 rcases hn with rfl | rfl
 · rcases bit (q / 8) with h | h
   · refine ⟨[(0, q / 1 % 2), (1, q / 2 % 2)], mem2 (.inl ⟨rfl, rfl⟩) (bit _) (bit _), ?_⟩
     simp [d_law_turn, fnF, b_law_turn, B_law_turn_0, B_law_turn_1, B_law_turn_2, startB, sSeq, sSet, sIf, sRet, sNil, eI, eV, eC, getB, outD, cDiv, eL, lDisp, aNil, aCons, okL, lim, eB2, gEq, h, lComp, iR, upto2, upB, mapF, gN, tOK, eTup, eIx, atD, atI, ixN, eTupOf, tupD, encT, encP]
   · refine ⟨[(1, q / 1 % 2), (0, q / 2 % 2)], mem2 (.inr ⟨rfl, rfl⟩) (bit _) (bit _), ?_⟩
     simp [d_law_turn, fnF, b_law_turn, B_law_turn_0, B_law_turn_1, B_law_turn_2, startB, sSeq, sSet, sIf, sRet, sNil, eI, eV, eC, getB, outD, cDiv, eL, lDisp, aNil, aCons, okL, lim, eB2, gEq, h, lComp, iR, upto2, upB, mapF, gN, tOK, eTup, eIx, atD, atI, ixN, eTupOf, tupD, encT, encP]
 · have h6 : q / 8 % 6 = 0 ∨ q / 8 % 6 = 1 ∨ q / 8 % 6 = 2 ∨ q / 8 % 6 = 3 ∨ q / 8 % 6 = 4 ∨ q / 8 % 6 = 5 := by omega
   have key : ∀ a b c : Int, Ord3 a b c -> atD (.lst [.lst [.int 0, .int 1, .int 2], .lst [.int 0, .int 2, .int 1], .lst [.int 1, .int 0, .int 2], .lst [.int 1, .int 2, .int 0], .lst [.int 2, .int 0, .int 1], .lst [.int 2, .int 1, .int 0]]) (.int (q / 8 % 6)) = some (.lst [.int a, .int b, .int c]) -> ∃ t ∈ turnsM 3, d_law_turn [.int q, .int 3] = some (encT t) := fun a b c ho ha => by
     refine ⟨[(a, q / 1 % 2), (b, q / 2 % 2), (c, q / 4 % 2)], mem3 ho (bit _) (bit _) (bit _), ?_⟩
     have r : d_law_turn [.int q, .int 3] = (B_law_turn_2 [.fz (.int q), .fz (.int 3), .fz (.lst [.int a, .int b, .int c])]).bind outD := by
       have d6 : decide ((0 : Int) < 6) = true := rfl
       have o3 : ∀ x y z : D, okL [x, y, z] = some [x, y, z] := fun _ _ _ => rfl
       have o2 : ∀ x y : D, okL [x, y] = some [x, y] := fun _ _ => rfl
       have o6 : ∀ x y z u v w : D, okL [x, y, z, u, v, w] = some [x, y, z, u, v, w] := fun _ _ _ _ _ _ => rfl
       have g3 : gEq (.int 3) (.int 3) = some true := rfl
       have c8 : cDiv q 8 = true := rfl
       simp only [d_law_turn, fnF, b_law_turn, B_law_turn_0, B_law_turn_1, startB, sSeq, sSet, sIf, eI, eV, eC, getB, eL, lDisp, aNil, aCons, eB2, eIx, List.map_cons, List.map_nil, List.length_cons, List.length_nil, List.replicate, List.cons_append, List.nil_append, List.getElem?_cons_zero, List.getElem?_cons_succ, Option.bind_some, Option.map_some, o2, o3, o6, g3, c8, d6, if_true, ha, List.set]
     rw [r]
     simp [B_law_turn_2, sRet, eI, eV, eC, getB, outD, cDiv, eL, lDisp, aNil, aCons, okL, lim, lComp, iR, upto3, upB, mapF, gN, tOK, eTup, eIx, atD, atI, ixN, eTupOf, tupD, encT, encP]
   rcases h6 with h | h | h | h | h | h
   · exact key 0 1 2 (.inl ⟨rfl, rfl, rfl⟩) (by rw [h]; rfl)
   · exact key 0 2 1 (.inr (.inl ⟨rfl, rfl, rfl⟩)) (by rw [h]; rfl)
   · exact key 1 0 2 (.inr (.inr (.inl ⟨rfl, rfl, rfl⟩))) (by rw [h]; rfl)
   · exact key 1 2 0 (.inr (.inr (.inr (.inl ⟨rfl, rfl, rfl⟩)))) (by rw [h]; rfl)
   · exact key 2 0 1 (.inr (.inr (.inr (.inr (.inl ⟨rfl, rfl, rfl⟩))))) (by rw [h]; rfl)
   · exact key 2 1 0 (.inr (.inr (.inr (.inr (.inr ⟨rfl, rfl, rfl⟩))))) (by rw [h]; rfl)
theorem corners_eq {n : Nat} (hn : n = 2 ∨ n = 3) : d_law_corners [.int n] = some ((cornersM n).map encC) := by
 rcases hn with rfl | rfl <;> kernel_rfl
def looseBody : Sf := sSeq (sSet 4 (eCall 2 d_law_mix (aCons (eV 1) (aCons (eAdd (eC (.int 48271)) (eMul (eC (.int 997)) (eLenO 2))) aNil))))
   (sSeq (sPop 5 2 (eMod (eV 4) (eLenO 2)))
   (sApp 3 (eTup (aCons (eV 5) (aCons (eCall 2 d_law_turn (aCons (eDiv (eV 4) (eC (.int 8))) (aCons (eV 0) aNil))) (aCons (eOfT (eB2 gEq (eMod (eDiv (eV 4) (eC (.int 800))) (eC (.int 2))) (eC (.int 1)))) aNil))))))
theorem eraseIdx_perm {α : Type} : ∀ (l : List α) (i : Nat) (x : α), l[i]? = some x -> (x :: l.eraseIdx i).Perm l
 | [], _, _, h => by simp at h
 | a :: r, 0, x, h => by cases h; exact .refl _
 | a :: r, i + 1, x, h => by
   rw [List.getElem?_cons_succ] at h
   rw [List.eraseIdx_cons_succ]
   exact (List.Perm.swap a x _).trans (List.Perm.cons a (eraseIdx_perm r i x h))
theorem eraseIdx_map {α β : Type} (f : α -> β) : ∀ (l : List α) (i : Nat), (l.map f).eraseIdx i = (l.eraseIdx i).map f
 | [], _ => rfl
 | a :: r, 0 => rfl
 | a :: r, i + 1 => by rw [List.map_cons, List.eraseIdx_cons_succ, List.eraseIdx_cons_succ, List.map_cons, eraseIdx_map f r i]
theorem loose_turn {n : Nat} (hn : n = 2 ∨ n = 3) (cell : Int) (left : List (List Int)) (acc : List Pt) (x4 x5 : B) (h0 : left ≠ []) (hl : left.length <= 8) (ha : acc.length <= 8) (ht : ∀ p ∈ acc, p.t ∈ turnsM n) :
   ∃ (left' : List (List Int)) (acc' : List Pt) (y4 y5 : B), left'.length + 1 = left.length /\ acc'.length = acc.length + 1 /\ (acc'.map (·.c) ++ left').Perm (acc.map (·.c) ++ left) /\ (∀ p ∈ acc', p.t ∈ turnsM n) /\
     looseBody [.fz (.int n), .fz (.int cell), .ow (left.map encC), .ow (acc.map encPt), x4, x5] = some (.nx [.fz (.int n), .fz (.int cell), .ow (left'.map encC), .ow (acc'.map encPt), y4, y5]) := by
 have hpos : 0 < left.length := List.length_pos_iff.mpr h0
 have m1 : cMul 997 (left.length : Int) = true := cMul_l (by decide) (by decide)
 have hm := mix_eq cell (48271 + 997 * (left.length : Int)) (by omega) (by omega)
 generalize mixI cell (48271 + 997 * (left.length : Int)) = r at hm
 have i0 : 0 <= r % (left.length : Int) := Int.emod_nonneg _ (by omega)
 have i1 : r % (left.length : Int) < left.length := Int.emod_lt_of_pos _ (by omega)
 generalize hi : r % (left.length : Int) = iv at i0 i1
 have hlt : iv.toNat < left.length := by omega
 obtain ⟨t, tm, te⟩ := turn_eq (r / 8) hn
 have px := List.getElem?_eq_getElem hlt
 have pm := eraseIdx_perm left iv.toNat _ px
 generalize left[iv.toNat] = c at px pm
 refine ⟨left.eraseIdx iv.toNat, acc ++ [⟨c, t, decide (r / 800 % 2 = 1)⟩], .fz (.int r), .fz (encC c), ?_, ?_, ?_, ?_, ?_⟩
 · rw [List.length_eraseIdx_of_lt hlt]; omega
 · simp
 · rw [List.map_append, List.append_assoc]
   exact List.Perm.append_left _ pm
 · intro p hp
   rcases List.mem_append.mp hp with q | q
   · exact ht p q
   · rw [List.mem_singleton.mp q]; exact tm
 · have d1 : decide ((0 : Int) < (left.length : Nat)) = true := decide_eq_true (by omega)
   have d2 : decide ((0 : Int) < 2) = true := rfl
   have c8 : cDiv r 8 = true := rfl
   have c800 : cDiv r 800 = true := rfl
   have ix : ixN left.length iv = some iv.toNat := by unfold ixN; rw [if_pos i0, if_pos i1]
   have lz : left.length <= lim := by show left.length <= 100000; omega
   have az : acc.length < lim := by show acc.length < 100000; omega
   have gx : (left.map encC)[iv.toNat]? = some (encC c) := by rw [List.getElem?_map, px]; rfl
   have o3 : okL [encC c, encT t, .bl (decide (r / 800 % 2 = 1))] = some [encC c, encT t, .bl (decide (r / 800 % 2 = 1))] := rfl
   simp only [looseBody, sSeq, sSet, sPop, sApp, eCall, aCons, aNil, eI, eV, eC, getB, eLenO, eTup, eOfT, eB2, gEq, List.getElem?_cons_zero, List.getElem?_cons_succ, List.length_map, List.length_cons, List.length_nil, Option.bind_some, Option.map_some, m1, hm, d1, d2, hi, ix, if_pos lz, if_pos az, gx, c8, c800, te, o3, if_true, List.set, eraseIdx_map, List.map_append, List.map_cons, List.map_nil, encPt]
theorem loose_loop {n : Nat} (hn : n = 2 ∨ n = 3) (cell : Int) : ∀ (m fuel : Nat) (left : List (List Int)) (acc : List Pt) (x4 x5 : B), left.length = m -> m < fuel -> left.length + acc.length <= 8 -> (∀ p ∈ acc, p.t ∈ turnsM n) ->
   ∃ (acc' : List Pt) (y4 y5 : B), (acc'.map (·.c)).Perm (acc.map (·.c) ++ left) /\ (∀ p ∈ acc', p.t ∈ turnsM n) /\
     whileF (tOwnNe 2) looseBody fuel [.fz (.int n), .fz (.int cell), .ow (left.map encC), .ow (acc.map encPt), x4, x5] = some (.nx [.fz (.int n), .fz (.int cell), .ow [], .ow (acc'.map encPt), y4, y5])
 | 0, 0, _, _, _, _, _, hf, _, _ => by omega
 | m + 1, 0, _, _, _, _, _, hf, _, _ => by omega
 | 0, f + 1, left, acc, x4, x5, hm, _, _, ht => by
   have e : left = [] := List.eq_nil_of_length_eq_zero hm
   subst e
   exact ⟨acc, x4, x5, by rw [List.append_nil], ht, rfl⟩
 | m + 1, f + 1, left, acc, x4, x5, hm, hf, hs, ht => by
   have hne : left ≠ [] := fun z => by rw [z] at hm; simp at hm
   obtain ⟨left', acc', y4, y5, l1, l2, l3, l4, l5⟩ := loose_turn hn cell left acc x4 x5 hne (by omega) (by omega) ht
   obtain ⟨acc2, z4, z5, p1, p2, p3⟩ := loose_loop hn cell m f left' acc' y4 y5 (by omega) (by omega) (by omega) l4
   refine ⟨acc2, z4, z5, p1.trans l3, p2, ?_⟩
   have t : tOwnNe 2 [.fz (.int n), .fz (.int cell), .ow (left.map encC), .ow (acc.map encPt), x4, x5] = some true := by
     cases left with
     | nil => exact absurd rfl hne
     | cons a r => rfl
   rw [whileF, t, Option.bind_some, if_pos rfl, l5, Option.bind_some]
   exact p3
theorem loose_eq {n : Nat} (hn : n = 2 ∨ n = 3) (cell : Int) : ∃ ps : List Pt, PtsOk n ps /\ d_law_loose [.int n, .int cell] = some (ps.map encPt) := by
 have hl : (cornersM n).length + ([] : List Pt).length <= 8 := by rw [cornersM_size]; rcases hn with rfl | rfl <;> decide
 have hl2 : (cornersM n).length <= 8 := by simpa using hl
 obtain ⟨ps, y4, y5, p1, p2, p3⟩ := loose_loop hn cell _ 100 (cornersM n) [] .no .no rfl (by omega) hl (by simp)
 refine ⟨ps, ⟨p1, p2⟩, ?_⟩
 have hc := corners_eq hn
 have s0 : sOwn 2 (lCall 1 d_law_corners (aCons (eV 0) aNil)) [.fz (.int n), .fz (.int cell), .no, .no, .no, .no] = some (.nx [.fz (.int n), .fz (.int cell), .ow ((cornersM n).map encC), .no, .no, .no]) := by
   simp only [sOwn, lCall, aCons, aNil, eV, getB, List.getElem?_cons_zero, Option.bind_some, Option.map_some, List.length_cons, List.length_nil, if_true, hc, List.set]
 have s1 : sOwn 3 (lDisp aNil) [.fz (.int n), .fz (.int cell), .ow ((cornersM n).map encC), .no, .no, .no] = some (.nx [.fz (.int n), .fz (.int cell), .ow ((cornersM n).map encC), .ow [], .no, .no]) := rfl
 rw [List.map_nil] at p3
 show (B_law_loose_0 [.fz (.int n), .fz (.int cell), .no, .no, .no, .no]).bind outL = _
 unfold B_law_loose_0
 rw [sSeq_nx s0]
 unfold B_law_loose_1
 rw [sSeq_nx s1]
 unfold B_law_loose_2
 have p4 : whileF (tOwnNe 2) (sSeq (sSet 4 (eCall 2 d_law_mix (aCons (eV 1) (aCons (eAdd (eC (.int 48271)) (eMul (eC (.int 997)) (eLenO 2))) aNil)))) (sSeq (sPop 5 2 (eMod (eV 4) (eLenO 2))) (sApp 3 (eTup (aCons (eV 5) (aCons (eCall 2 d_law_turn (aCons (eDiv (eV 4) (eC (.int 8))) (aCons (eV 0) aNil))) (aCons (eOfT (eB2 gEq (eMod (eDiv (eV 4) (eC (.int 800))) (eC (.int 2))) (eC (.int 1)))) aNil))))))) 100 _ = _ := p3
 rw [sSeq_nx p4]
 rfl
theorem mapF_pts {elt : Ef} {h : Pt -> D} : ∀ (ps : List Pt) (x0 x1 x2 : B) (acc : List D), (∀ p ∈ ps, elt [.fz (encC p.c), .fz (encT p.t), .fz (.bl p.b)] = some (h p)) ->
   mapF (gT (gsCons (gN 0) (gsCons (gN 1) (gsCons (gN 2) gsNil)))) tOK elt (ps.map encPt) [x0, x1, x2] acc = some (acc ++ ps.map h)
 | [], _, _, _, acc, _ => by simp [mapF]
 | p :: r, x0, x1, x2, acc, hh => by
   rw [List.map_cons]
   unfold mapF
   have e1 : gT (gsCons (gN 0) (gsCons (gN 1) (gsCons (gN 2) gsNil))) (encPt p) [x0, x1, x2] = some [.fz (encC p.c), .fz (encT p.t), .fz (.bl p.b)] := rfl
   have e2 : tOK [.fz (encC p.c), .fz (encT p.t), .fz (.bl p.b)] = some true := rfl
   rw [e1, Option.bind_some, e2, Option.bind_some, if_pos rfl, hh p List.mem_cons_self, Option.bind_some, mapF_pts r _ _ _ _ fun q hq => hh q (List.mem_cons_of_mem _ hq)]
   simp
theorem curve_eq (n : Int) (j : Bool) (ps : List Pt) (h : ps.length <= 8) : d_law_curve [.int n, .bl j, .lst (ps.map encPt)] = some (objCv n j ps) := by
 have e3 : okL (ps.map encPt) = some (ps.map encPt) := okL_le (by rw [List.length_map]; omega)
 have e2 := mapF_pts (elt := eMake (Str.ofString "Part") [Str.ofString "corner", Str.ofString "turn", Str.ofString "back"] 3 di_Part (aCons (eV 0) (aCons (eV 1) (aCons (eV 2) aNil)))) (h := objPt) ps .no .no .no [] fun p hp => rfl
 have e5 : lComp (iL (eV 2)) 3 [] (gT (gsCons (gN 0) (gsCons (gN 1) (gsCons (gN 2) gsNil)))) tOK (eMake (Str.ofString "Part") [Str.ofString "corner", Str.ofString "turn", Str.ofString "back"] 3 di_Part (aCons (eV 0) (aCons (eV 1) (aCons (eV 2) aNil)))) [.fz (.int n), .fz (.bl j), .fz (.lst (ps.map encPt))] = some (ps.map objPt) := by
   unfold lComp
   have e6 : iL (eV 2) [.fz (.int n), .fz (.bl j), .fz (.lst (ps.map encPt))] = some (ps.map encPt) := rfl
   have e4 : upB 3 [] [.fz (.int n), .fz (.bl j), .fz (.lst (ps.map encPt))] = [.no, .no, .no] := rfl
   rw [e6, Option.bind_some, e3, Option.bind_some, e4, e2]
   simp
 have ea := aCons_eq (f := eC (.str (Str.ofString "fold"))) (ρ := [.fz (.int n), .fz (.bl j), .fz (.lst (ps.map encPt))]) (d := .str (Str.ofString "fold")) rfl (aCons_eq (f := eV 0) (d := .int n) rfl (aCons_eq (f := eV 1) (d := .bl j) rfl (aCons_eq (eL_eq e5) (g := aNil) (ds := []) rfl)))
 have em := eMake_eq (c := Str.ofString "Curve") (ns := [Str.ofString "name", Str.ofString "dims", Str.ofString "joined", Str.ofString "parts"]) (n := 4) (f := di_Curve) (xs := [.str (Str.ofString "fold"), .int n, .bl j, .lst (ps.map objPt)]) ea rfl rfl rfl
 have q := rt_out (eMake (Str.ofString "Curve") [Str.ofString "name", Str.ofString "dims", Str.ofString "joined", Str.ofString "parts"] 4 di_Curve (aCons (eC (.str (Str.ofString "fold"))) (aCons (eV 0) (aCons (eV 1) (aCons (eL (lComp (iL (eV 2)) 3 [] (gT (gsCons (gN 0) (gsCons (gN 1) (gsCons (gN 2) gsNil)))) tOK (eMake (Str.ofString "Part") [Str.ofString "corner", Str.ofString "turn", Str.ofString "back"] 3 di_Part (aCons (eV 0) (aCons (eV 1) (aCons (eV 2) aNil)))))) aNil)))) [.fz (.int n), .fz (.bl j), .fz (.lst (ps.map encPt))])
 exact q.trans em
theorem walked_eq (n : Int) (j : Bool) (ps : List Pt) (b : Bool) (k : Int) : d_walked [objCv n j ps, .bl b, .int k] = some (.int (if b = true then (ps.length : Int) - 1 - k else k)) := by
 have e := f_parts [.fz (objCv n j ps), .fz (.bl b), .fz (.int k)] (eV 0) (n := n) (j := j) (ps := ps) rfl
 have l : eLen (eFld (Str.ofString "Curve") (Str.ofString "parts") (eV 0)) [.fz (objCv n j ps), .fz (.bl b), .fz (.int k)] = some (.int (ps.length : Nat)) := by
   unfold eLen
   rw [e]
   show some (D.int ((ps.map objPt).length : Nat)) = _
   rw [List.length_map]
 have q := rt_out (eIf (tB1 (eV 1)) (eSub (eSub (eLen (eFld (Str.ofString "Curve") (Str.ofString "parts") (eV 0))) (eC (.int 1))) (eV 2)) (eV 2) [.fz (objCv n j ps), .fz (.bl b), .fz (.int k)])
 have r : eIf (tB1 (eV 1)) (eSub (eSub (eLen (eFld (Str.ofString "Curve") (Str.ofString "parts") (eV 0))) (eC (.int 1))) (eV 2)) (eV 2) [.fz (objCv n j ps), .fz (.bl b), .fz (.int k)] = some (.int (if b = true then (ps.length : Int) - 1 - k else k)) := by
   cases b with
   | true => simp only [eIf, tB1, eI, l, eV, eC, getB, List.getElem?_cons_zero, List.getElem?_cons_succ, Option.bind_some, if_true]
   | false => rfl
 exact q.trans r
theorem law_turned : d_law_turned = d_turned := rfl
theorem law_after : d_law_after = d_after := rfl
def ixB (b : Bool) (len k : Nat) : Nat := if b = true then len - 1 - k else k
theorem ixB_cast {b : Bool} {len k : Nat} (h : k < len) : (if b = true then (len : Int) - 1 - (k : Int) else (k : Int)) = ((ixB b len k : Nat) : Int) := by
 unfold ixB
 cases b
 · rfl
 · rw [if_pos rfl, if_pos rfl]; omega
theorem ixB_lt {b : Bool} {len k : Nat} (h : k < len) : ixB b len k < len := by
 unfold ixB
 split <;> omega
theorem ixB_ixB {b : Bool} {len k : Nat} (h : k < len) : ixB b len (ixB b len k) = k := by
 unfold ixB
 cases b
 · rfl
 · rw [if_pos rfl, if_pos rfl]; omega
def stD (t : Tn) (b : Bool) : D := .tup [encT t, .bl b]
def resD (t : Tn) (b : Bool) (p : Pt) : D := .tup [encC (turnedM t p.c), .tup [encT (afterM t p.t), .bl (b != p.b)]]
theorem gNe_bl (x y : Bool) : gNe (.bl x) (.bl y) = some (x != y) := by cases x <;> cases y <;> rfl
section
variable {n : Nat} (hn : n = 2 ∨ n = 3) {ps : List Pt} (ok : PtsOk n ps) {t : Tn} (ht : t ∈ turnsM n) (b j : Bool)
include hn ok ht
theorem pt_facts {p : Pt} (hp : p ∈ ps) : d_turned [encT t, encC p.c] = some (encC (turnedM t p.c)) /\ d_after [encT t, encT p.t] = some (encT (afterM t p.t)) := by
 have T := trM hn ht
 have U := trM hn (ok.turn p hp)
 have small : n <= 1000 := by rcases hn with rfl | rfl <;> decide
 have hc : p.c.length = n := cornersM_len hn _ (ok.perm.mem_iff.mp (List.mem_map.mpr ⟨p, hp, rfl⟩))
 exact ⟨turned_eq t p.c (by rw [hc]; exact T.fits) (by rw [T.len]; exact small), after_eq t p.t (by rw [U.len]; exact T.fits) (by rw [T.len]; exact small)⟩
theorem part_eq {k : Nat} (hk : k < ps.length) : d_part_at [objCv n j ps, stD t b, .int k] = some (resD t b (ps[ixB b ps.length k]'(ixB_lt hk))) := by
 generalize hp : ps[ixB b ps.length k]'(ixB_lt hk) = p
 have hm : p ∈ ps := by rw [← hp]; exact List.getElem_mem _
 obtain ⟨f1, f2⟩ := pt_facts hn ok ht hm
 have s0 : sAsg (eV 1) (gT (gsCons (gN 3) (gsCons (gN 4) gsNil))) [.fz (objCv n j ps), .fz (stD t b), .fz (.int k), .no, .no, .no, .no] = some (.nx [.fz (objCv n j ps), .fz (stD t b), .fz (.int k), .fz (encT t), .fz (.bl b), .no, .no]) := rfl
 have q7 := fun r hk => seq_out (g := B_part_at_1) (r := r) s0 hk
 refine q7 _ ?_
 have w := walked_eq n j ps b k
 rw [ixB_cast hk] at w
 have at_ : atD (.lst (ps.map objPt)) (.int ((ixB b ps.length k : Nat) : Int)) = some (objPt p) := by
   show atI (ps.map objPt) _ = _
   rw [atI_map, atI_nat (List.getElem?_eq_getElem (ixB_lt hk)), hp]
   rfl
 have s1 : sSet 5 (eIx (eFld (Str.ofString "Curve") (Str.ofString "parts") (eV 0)) (eCall 3 d_walked (aCons (eV 0) (aCons (eV 4) (aCons (eV 2) aNil))))) [.fz (objCv n j ps), .fz (stD t b), .fz (.int k), .fz (encT t), .fz (.bl b), .no, .no] = some (.nx [.fz (objCv n j ps), .fz (stD t b), .fz (.int k), .fz (encT t), .fz (.bl b), .fz (objPt p), .no]) := by
   have e := f_parts [.fz (objCv n j ps), .fz (stD t b), .fz (.int k), .fz (encT t), .fz (.bl b), .no, .no] (eV 0) (n := n) (j := j) (ps := ps) rfl
   have e2 : eCall 3 d_walked (aCons (eV 0) (aCons (eV 4) (aCons (eV 2) aNil))) [.fz (objCv n j ps), .fz (stD t b), .fz (.int k), .fz (encT t), .fz (.bl b), .no, .no] = some (.int ((ixB b ps.length k : Nat) : Int)) := w
   simp only [sSet, eIx, e, e2, Option.bind_some, at_, Option.map_some, List.set]
 have q8 := fun r hk => seq_out (g := B_part_at_2) (r := r) s1 hk
 refine q8 _ ?_
 have o2 : ∀ x y : D, okL [x, y] = some [x, y] := fun _ _ => rfl
 have s2 : sSet 6 (eTup (aCons (eCall 2 d_after (aCons (eV 3) (aCons (eFld (Str.ofString "Part") (Str.ofString "turn") (eV 5)) aNil))) (aCons (eOfT (eB2 gNe (eV 4) (eFld (Str.ofString "Part") (Str.ofString "back") (eV 5)))) aNil))) [.fz (objCv n j ps), .fz (stD t b), .fz (.int k), .fz (encT t), .fz (.bl b), .fz (objPt p), .no] = some (.nx [.fz (objCv n j ps), .fz (stD t b), .fz (.int k), .fz (encT t), .fz (.bl b), .fz (objPt p), .fz (.tup [encT (afterM t p.t), .bl (b != p.b)])]) := by
   have e1 := f_turn [.fz (objCv n j ps), .fz (stD t b), .fz (.int k), .fz (encT t), .fz (.bl b), .fz (objPt p), .no] (eV 5) p rfl
   have e2 := f_back [.fz (objCv n j ps), .fz (stD t b), .fz (.int k), .fz (encT t), .fz (.bl b), .fz (objPt p), .no] (eV 5) p rfl
   simp only [sSet, eTup, aCons, aNil, eCall, eOfT, eB2, e1, e2]
   simp only [eV, getB, List.getElem?_cons_zero, List.getElem?_cons_succ, List.length_cons, List.length_nil, Option.bind_some, Option.map_some, if_true, f2, gNe_bl, o2, List.set]
 have q9 := fun r hk => seq_out (g := B_part_at_3) (r := r) s2 hk
 refine q9 _ ?_
 have e3 := f_corner [.fz (objCv n j ps), .fz (stD t b), .fz (.int k), .fz (encT t), .fz (.bl b), .fz (objPt p), .fz (.tup [encT (afterM t p.t), .bl (b != p.b)])] (eV 5) p rfl
 show ((eTup (aCons (eCall 2 d_turned (aCons (eV 3) (aCons (eFld (Str.ofString "Part") (Str.ofString "corner") (eV 5)) aNil))) (aCons (eV 6) aNil)) _).map Out.rt).bind outD = _
 simp only [eTup, aCons, aNil, eCall, e3]
 simp only [eV, getB, List.getElem?_cons_zero, List.getElem?_cons_succ, List.length_cons, List.length_nil, Option.bind_some, Option.map_some, if_true, f1, o2, outD]
 rfl
end
theorem eqDs_ints (m : Nat) : ∀ (xs ys : List Int), xs.length = ys.length -> eqDs (eqD (m + 1)) (xs.map .int) (ys.map .int) = some (decide (xs = ys))
 | [], [], _ => rfl
 | [], _ :: _, h => by simp at h
 | _ :: _, [], h => by simp at h
 | x :: xs, y :: ys, h => by
   rw [List.map_cons, List.map_cons, eqDs, eqDs_ints m xs ys (by simpa using h)]
   show ((some (x == y)).bind fun a => (some (decide (xs = ys))).map fun b => a && b) = _
   rw [Option.bind_some, Option.map_some]
   by_cases h1 : x = y
   · by_cases h2 : xs = ys
     · subst h1; subst h2; simp
     · simp [h2]
   · simp [h1]
theorem eqD_C {c c' : List Int} (h : c.length = c'.length) : eqD 8 (encC c) (encC c') = some (decide (c = c')) := by
 show (eqDs (eqD 7) (c.map .int) (c'.map .int)).map (fun b => b && (c.map D.int).length == (c'.map D.int).length) = _
 rw [eqDs_ints 6 c c' h, Option.map_some, List.length_map, List.length_map, h]
 simp
theorem ixD_corner {n : Nat} : ∀ (cs : List (List Int)) (i : Nat) (c : List Int), cs.Nodup -> (∀ x ∈ cs, x.length = n) -> cs[i]? = some c -> ixD (encC c) (cs.map encC) = some i
 | [], _, _, _, _, h => by simp at h
 | x :: r, 0, c, nd, hl, h => by
   cases h
   rw [List.map_cons, ixD, eqD_C rfl, decide_eq_true rfl, Option.bind_some, if_pos rfl, if_pos]
   rw [List.all_map, List.all_eq_true]
   intro y hy
   show (eqD 8 (encC y) (encC x)).isSome = true
   rw [eqD_C (by rw [hl y (List.mem_cons_of_mem _ hy), hl x List.mem_cons_self])]
   rfl
 | x :: r, i + 1, c, nd, hl, h => by
   rw [List.getElem?_cons_succ] at h
   have hc : c ∈ r := List.mem_of_getElem? h
   have hne : ¬ x = c := fun z => (List.nodup_cons.mp nd).1 (z ▸ hc)
   rw [List.map_cons, ixD, eqD_C (by rw [hl x List.mem_cons_self, hl c (List.mem_cons_of_mem _ hc)]), decide_eq_false hne, Option.bind_some, if_neg (by decide), ixD_corner r i c (List.nodup_cons.mp nd).2 (fun y hy => hl y (List.mem_cons_of_mem _ hy)) h]
   rfl
theorem mapF_corner : ∀ (ps : List Pt) (x0 : B) (acc : List D), mapF (gN 0) tOK (eFld (Str.ofString "Part") (Str.ofString "corner") (eV 0)) (ps.map objPt) [x0] acc = some (acc ++ (ps.map (·.c)).map encC)
 | [], _, acc => by simp [mapF]
 | p :: r, x0, acc => by
   rw [List.map_cons]
   unfold mapF
   have e1 : gN 0 (objPt p) [x0] = some [.fz (objPt p)] := rfl
   have e2 : tOK [.fz (objPt p)] = some true := rfl
   rw [e1, Option.bind_some, e2, Option.bind_some, if_pos rfl, f_corner [.fz (objPt p)] (eV 0) p rfl, Option.bind_some, mapF_corner r]
   simp
section
variable {n : Nat} (hn : n = 2 ∨ n = 3) {ps : List Pt} (ok : PtsOk n ps) {t : Tn} (ht : t ∈ turnsM n) (b j : Bool)
include hn ok ht
theorem digit_eq {k : Nat} (hk : k < ps.length) : d_digit_at [objCv n j ps, stD t b, encC (turnedM t (ps[ixB b ps.length k]'(ixB_lt hk)).c)] = some (.int (k : Nat)) := by
 generalize hp : ps[ixB b ps.length k]'(ixB_lt hk) = p
 have hm : p ∈ ps := by rw [← hp]; exact List.getElem_mem _
 have hcm : p.c ∈ cornersM n := ok.perm.mem_iff.mp (List.mem_map.mpr ⟨p, hm, rfl⟩)
 have T := trM hn ht
 have small : n <= 1000 := by rcases hn with rfl | rfl <;> decide
 obtain ⟨um, ub⟩ := undoneFacts hn ht
 have U := trM hn um
 have e1 := undoneEq hn ht
 have e2 := turned_eq (undoneM t) (turnedM t p.c) (by rw [turnedM_len, T.len]; exact U.fits) (by rw [U.len]; exact small)
 rw [ub _ hcm] at e2
 have s0 : sAsg (eV 1) (gT (gsCons (gN 3) (gsCons (gN 4) gsNil))) [.fz (objCv n j ps), .fz (stD t b), .fz (encC (turnedM t p.c)), .no, .no, .no, .no] = some (.nx [.fz (objCv n j ps), .fz (stD t b), .fz (encC (turnedM t p.c)), .fz (encT t), .fz (.bl b), .no, .no]) := rfl
 have q10 := fun r hk => seq_out (g := B_digit_at_1) (r := r) s0 hk
 refine q10 _ ?_
 have s1 : sSet 5 (eCall 2 d_turned (aCons (eCall 1 d_undone (aCons (eV 3) aNil)) (aCons (eV 2) aNil))) [.fz (objCv n j ps), .fz (stD t b), .fz (encC (turnedM t p.c)), .fz (encT t), .fz (.bl b), .no, .no] = some (.nx [.fz (objCv n j ps), .fz (stD t b), .fz (encC (turnedM t p.c)), .fz (encT t), .fz (.bl b), .fz (encC p.c), .no]) := by
   simp only [sSet, eCall, aCons, aNil, eV, getB, List.getElem?_cons_zero, List.getElem?_cons_succ, List.length_cons, List.length_nil, Option.bind_some, Option.map_some, if_true, e1, e2, List.set]
 have q11 := fun r hk => seq_out (g := B_digit_at_2) (r := r) s1 hk
 refine q11 _ ?_
 have sm := ok.small hn
 have s2 : sOwn 6 (lComp (iL (eFld (Str.ofString "Curve") (Str.ofString "parts") (eV 0))) 1 [] (gN 0) tOK (eFld (Str.ofString "Part") (Str.ofString "corner") (eV 0))) [.fz (objCv n j ps), .fz (stD t b), .fz (encC (turnedM t p.c)), .fz (encT t), .fz (.bl b), .fz (encC p.c), .no] = some (.nx [.fz (objCv n j ps), .fz (stD t b), .fz (encC (turnedM t p.c)), .fz (encT t), .fz (.bl b), .fz (encC p.c), .ow ((ps.map (·.c)).map encC)]) := by
   have e := f_parts [.fz (objCv n j ps), .fz (stD t b), .fz (encC (turnedM t p.c)), .fz (encT t), .fz (.bl b), .fz (encC p.c), .no] (eV 0) (n := n) (j := j) (ps := ps) rfl
   have i : iL (eFld (Str.ofString "Curve") (Str.ofString "parts") (eV 0)) [.fz (objCv n j ps), .fz (stD t b), .fz (encC (turnedM t p.c)), .fz (encT t), .fz (.bl b), .fz (encC p.c), .no] = some (ps.map objPt) := by
     unfold iL
     rw [e]
     rfl
   unfold sOwn lComp
   rw [i, Option.bind_some, okL_le (by rw [List.length_map]; omega), Option.bind_some]
   show ((mapF (gN 0) tOK _ (ps.map objPt) [.no] []).map _) = _
   rw [mapF_corner]
   rfl
 have q12 := fun r hk => seq_out (g := B_digit_at_3) (r := r) s2 hk
 refine q12 _ ?_
 have hix : ixD (encC p.c) ((ps.map (·.c)).map encC) = some (ixB b ps.length k) := by
   refine ixD_corner (n := n) _ _ _ (ok.perm.nodup_iff.mpr (cornersM_nodup hn)) (fun x hx => cornersM_len hn x (ok.perm.mem_iff.mp hx)) ?_
   rw [List.getElem?_map, List.getElem?_eq_getElem (ixB_lt hk), hp]
   rfl
 have ei : eIndex (iL (eV 6)) (eV 5) [.fz (objCv n j ps), .fz (stD t b), .fz (encC (turnedM t p.c)), .fz (encT t), .fz (.bl b), .fz (encC p.c), .fz (.lst ((ps.map (·.c)).map encC))] = some (.int ((ixB b ps.length k : Nat) : Int)) := by
   show (if ((ps.map (·.c)).map encC).length <= 100000 then (ixD (encC p.c) ((ps.map (·.c)).map encC)).map _ else none) = _
   rw [if_pos (by rw [List.length_map, List.length_map]; omega), hix]
   rfl
 have w := walked_eq n j ps b ((ixB b ps.length k : Nat) : Int)
 rw [ixB_cast (ixB_lt hk), ixB_ixB hk] at w
 show ((eCall 3 d_walked (aCons (eV 0) (aCons (eV 4) (aCons (eIndex (iL (eV 6)) (eV 5)) aNil))) [.fz (objCv n j ps), .fz (stD t b), .fz (encC (turnedM t p.c)), .fz (encT t), .fz (.bl b), .fz (encC p.c), .fz (.lst ((ps.map (·.c)).map encC))]).map Out.rt).bind outD = _
 unfold eCall aCons
 rw [ei]
 show (((d_walked [objCv n j ps, .bl b, .int ((ixB b ps.length k : Nat) : Int)])).map Out.rt).bind outD = _
 rw [w]
 rfl
end
end My
namespace My
open PySem L2
theorem setnx {i : Nat} {f : Ef} {g : Sf} {ρ : List B} {d : D} (h : f ρ = some d) : sSeq (sSet i f) g ρ = g (ρ.set i (.fz d)) := sSeq_nx (by unfold sSet; rw [h]; rfl)
theorem call1 {f : List D -> Option D} {fa : Ef} {ρ : List B} {x : D} (h : fa ρ = some x) : eCall 1 f (aCons fa aNil) ρ = f [x] := eCall_eq (aCons_eq h rfl) rfl
theorem call2 {f : List D -> Option D} {fa fb : Ef} {ρ : List B} {x y : D} (h1 : fa ρ = some x) (h2 : fb ρ = some y) : eCall 2 f (aCons fa (aCons fb aNil)) ρ = f [x, y] := eCall_eq (aCons_eq h1 (aCons_eq h2 rfl)) rfl
theorem call3 {f : List D -> Option D} {fa fb fc : Ef} {ρ : List B} {x y z : D} (h1 : fa ρ = some x) (h2 : fb ρ = some y) (h3 : fc ρ = some z) : eCall 3 f (aCons fa (aCons fb (aCons fc aNil))) ρ = f [x, y, z] := eCall_eq (aCons_eq h1 (aCons_eq h2 (aCons_eq h3 rfl))) rfl
theorem call4 {f : List D -> Option D} {fa fb fc fd : Ef} {ρ : List B} {x y z u : D} (h1 : fa ρ = some x) (h2 : fb ρ = some y) (h3 : fc ρ = some z) (h4 : fd ρ = some u) : eCall 4 f (aCons fa (aCons fb (aCons fc (aCons fd aNil)))) ρ = f [x, y, z, u] := eCall_eq (aCons_eq h1 (aCons_eq h2 (aCons_eq h3 (aCons_eq h4 rfl)))) rfl
theorem lcall2 {f : List D -> Option (List D)} {fa fb : Ef} {ρ : List B} {x y : D} (h1 : fa ρ = some x) (h2 : fb ρ = some y) : lCall 2 f (aCons fa (aCons fb aNil)) ρ = f [x, y] := by unfold lCall; rw [aCons_eq h1 (aCons_eq h2 rfl), Option.bind_some]; rfl
theorem lcall3 {f : List D -> Option (List D)} {fa fb fc : Ef} {ρ : List B} {x y z : D} (h1 : fa ρ = some x) (h2 : fb ρ = some y) (h3 : fc ρ = some z) : lCall 3 f (aCons fa (aCons fb (aCons fc aNil))) ρ = f [x, y, z] := by unfold lCall; rw [aCons_eq h1 (aCons_eq h2 (aCons_eq h3 rfl)), Option.bind_some]; rfl
theorem eI_eq {C : Int -> Int -> Bool} {g : Int -> Int -> Int} {fa fb : Ef} {ρ : List B} {i j : Int} (h1 : fa ρ = some (.int i)) (h2 : fb ρ = some (.int j)) (h : C i j = true) : eI C g fa fb ρ = some (.int (g i j)) := by
 unfold eI
 rw [h1, Option.bind_some, h2, Option.bind_some]
 show (if C i j then _ else none) = _
 rw [if_pos h]
theorem if_of {t : Tf} {f : Sf} {ρ : List B} {b : Bool} (h : t ρ = some b) : sIf t f sNil ρ = if b then f ρ else some (.nx ρ) := by unfold sIf; rw [h]; cases b <;> rfl
theorem app_nx {i : Nat} {f : Ef} {ρ : List B} {d : D} {ds : List D} (e1 : f ρ = some d) (e2 : ρ[i]? = some (.ow ds)) (e3 : ds.length <= 1000) : sApp i f ρ = some (.nx (ρ.set i (.ow (ds ++ [d])))) := by
 unfold sApp; rw [e1, Option.bind_some, e2]
 show (if ds.length < lim then _ else none) = _
 rw [if_pos (show ds.length < 100000 by omega)]
theorem eq1_of {f : Ef} {ρ : List B} {x k : Int} (h : f ρ = some (.int x)) : eB2 gEq f (eC (.int k)) ρ = some (decide (x = k)) := by unfold eB2; rw [h]; rfl
theorem tup3 {fa fb fc : Ef} {ρ : List B} {x y z : D} (h1 : fa ρ = some x) (h2 : fb ρ = some y) (h3 : fc ρ = some z) : eTup (aCons fa (aCons fb (aCons fc aNil))) ρ = some (.tup [x, y, z]) := by
 unfold eTup; rw [aCons_eq h1 (aCons_eq h2 (aCons_eq h3 rfl))]; rfl
theorem lundone2 {t : Tn} (ht : t ∈ turnsM2) : d_law_undone [encT t] = some (encT (undoneM t)) := by
 obtain ⟨a, b, f, g, h1, h2, h3, rfl⟩ := of_mem2 ht
 rcases h1 with ⟨rfl, rfl⟩ | ⟨rfl, rfl⟩ <;> rcases h2 with rfl | rfl <;> rcases h3 with rfl | rfl <;> kernel_rfl
theorem lundone3 {t : Tn} (ht : t ∈ turnsM3) : d_law_undone [encT t] = some (encT (undoneM t)) := by
 obtain ⟨a, b, c, f, g, j, h1, h2, h3, h4, rfl⟩ := of_mem3 ht
 rcases h1 with ⟨rfl, rfl, rfl⟩ | ⟨rfl, rfl, rfl⟩ | ⟨rfl, rfl, rfl⟩ | ⟨rfl, rfl, rfl⟩ | ⟨rfl, rfl, rfl⟩ | ⟨rfl, rfl, rfl⟩ <;> rcases h2 with rfl | rfl <;> rcases h3 with rfl | rfl <;> rcases h4 with rfl | rfl <;> kernel_rfl
theorem lundoneEq {n : Nat} (hn : n = 2 ∨ n = 3) {t : Tn} (h : t ∈ turnsM n) : d_law_undone [encT t] = some (encT (undoneM t)) := by
 rcases hn with rfl | rfl
 · exact lundone2 h
 · exact lundone3 h
theorem lafterEq {n : Nat} (hn : n = 2 ∨ n = 3) {t u : Tn} (h : t ∈ turnsM n) (h' : u ∈ turnsM n) : d_law_after [encT t, encT u] = some (encT (afterM t u)) := by
 have T := trM hn h
 have U := trM hn h'
 have small : n <= 1000 := by rcases hn with rfl | rfl <;> decide
 rw [law_after]
 exact after_eq t u (by rw [U.len]; exact T.fits) (by rw [T.len]; exact small)
def baseM2 : List (List Int × Tn) := [([0, 0], [(1, 0), (0, 0)]), ([0, 1], [(0, 0), (1, 0)]), ([1, 1], [(0, 0), (1, 0)]), ([1, 0], [(1, 1), (0, 1)])]
def baseM3 : List (List Int × Tn) := [([0, 0, 0], [(1, 0), (0, 0), (2, 0)]), ([0, 1, 0], [(1, 0), (2, 0), (0, 0)]), ([0, 1, 1], [(0, 0), (1, 0), (2, 0)]), ([0, 0, 1], [(1, 1), (2, 1), (0, 0)]), ([1, 0, 1], [(1, 0), (2, 1), (0, 1)]), ([1, 1, 1], [(0, 0), (1, 0), (2, 0)]), ([1, 1, 0], [(1, 1), (2, 0), (0, 1)]), ([1, 0, 0], [(1, 1), (0, 1), (2, 0)])]
def encBT (x : List Int × Tn) : D := .tup [encC x.1, encT x.2]
def baseM (n : Nat) : List (List Int × Tn) := if n = 2 then baseM2 else baseM3
theorem base_eq {n : Nat} (hn : n = 2 ∨ n = 3) : d_law_base [.int n] = some ((baseM n).map encBT) := by
 rcases hn with rfl | rfl <;> kernel_rfl
theorem base_ok {n : Nat} (hn : n = 2 ∨ n = 3) : ∀ x ∈ baseM n, x.1 ∈ cornersM n /\ x.2 ∈ turnsM n := by
 rcases hn with rfl | rfl <;> decide +kernel
theorem base_perm {n : Nat} (hn : n = 2 ∨ n = 3) : ∀ t ∈ turnsM n, ((baseM n).map fun x => turnedM t x.1).Perm (cornersM n) := by
 rcases hn with rfl | rfl <;> decide +kernel
theorem join_step {n : Nat} (hn : n = 2 ∨ n = 3) {t m u : Tn} {c : List Int} (ht : t ∈ turnsM n) (hm : m ∈ turnsM n) (hu : u ∈ turnsM n) (hc : c ∈ cornersM n) (x0 x1 x2 x9 : B) (acc : List D) (ha : acc.length <= 100) (bits : Int) :
   ∃ p : Pt, p.c = turnedM t c /\ p.t ∈ turnsM n /\ L1_law_joined_0 [x0, x1, x2, .fz (encT t), .fz (encT m), .ow acc, .fz (.int bits), .fz (encC c), .fz (encT u), x9] = some (.nx [x0, x1, x2, .fz (encT t), .fz (encT m), .ow (acc ++ [encPt p]), .fz (.int (bits / 2)), .fz (encC c), .fz (encT u), .fz (encT p.t)]) := by
 have um := (undoneFacts hn ht).1
 have e1 := lundoneEq hn ht
 have e2 := lafterEq hn hu um
 have m2 := afterMem hn hu um
 have e3 := lafterEq hn ht m2
 have m3 := afterMem hn ht m2
 generalize hl : afterM t (afterM u (undoneM t)) = l at e3 m3
 have e4 := lafterEq hn m3 hm
 have m4 := afterMem hn m3 hm
 have T := trM hn ht
 have small : n <= 1000 := by rcases hn with rfl | rfl <;> decide
 have e5 : d_law_turned [encT t, encC c] = some (encC (turnedM t c)) := by
   rw [law_turned]
   exact turned_eq t c (by rw [cornersM_len hn c hc]; exact T.fits) (by rw [T.len]; exact small)
 have fin : ∀ w : Tn, w ∈ turnsM n -> L1_law_joined_2 [x0, x1, x2, .fz (encT t), .fz (encT m), .ow acc, .fz (.int bits), .fz (encC c), .fz (encT u), .fz (encT w)] = some (.nx [x0, x1, x2, .fz (encT t), .fz (encT m), .ow (acc ++ [encPt ⟨turnedM t c, w, decide (bits % 2 = 1)⟩]), .fz (.int (bits / 2)), .fz (encC c), .fz (encT u), .fz (encT w)]) := fun w hw => by
   unfold L1_law_joined_2
   rw [sSeq_nx (app_nx (d := encPt ⟨turnedM t c, w, decide (bits % 2 = 1)⟩) (ds := acc) (tup3 ((call2 rfl rfl).trans e5) rfl (by unfold eOfT; rw [eq1_of (x := bits % 2) (eI_eq rfl rfl rfl)]; rfl)) rfl (by omega))]
   rfl
 unfold L1_law_joined_0
 rw [setnx (d := encT l) ((call2 rfl ((call2 rfl ((call1 rfl).trans e1)).trans e2)).trans e3)]
 unfold L1_law_joined_1
 have ht1 : eB2 gEq (eMod (eV 6) (eC (.int 2))) (eC (.int 1)) [x0, x1, x2, .fz (encT t), .fz (encT m), .ow acc, .fz (.int bits), .fz (encC c), .fz (encT u), .fz (encT l)] = some (decide (bits % 2 = 1)) := eq1_of (eI_eq rfl rfl rfl)
 by_cases hb : bits % 2 = 1
 · refine ⟨⟨turnedM t c, afterM l m, decide (bits % 2 = 1)⟩, rfl, m4, ?_⟩
   rw [sSeq_nx (ρ' := [x0, x1, x2, .fz (encT t), .fz (encT m), .ow acc, .fz (.int bits), .fz (encC c), .fz (encT u), .fz (encT (afterM l m))])]
   · exact fin _ m4
   · refine (if_of ht1).trans ?_
     rw [decide_eq_true hb, if_pos rfl]
     unfold sSet
     rw [call2 rfl rfl, e4]
     rfl
 · refine ⟨⟨turnedM t c, l, decide (bits % 2 = 1)⟩, rfl, m3, ?_⟩
   rw [sSeq_nx (ρ' := [x0, x1, x2, .fz (encT t), .fz (encT m), .ow acc, .fz (.int bits), .fz (encC c), .fz (encT u), .fz (encT l)])]
   · exact fin _ m3
   · refine (if_of ht1).trans ?_
     rw [decide_eq_false hb]
     rfl
theorem join_loop {n : Nat} (hn : n = 2 ∨ n = 3) {t m : Tn} (ht : t ∈ turnsM n) (hm : m ∈ turnsM n) (x0 x1 x2 : B) : ∀ (bs : List (List Int × Tn)) (acc : List Pt) (bits : Int) (x7 x8 x9 : B), (∀ x ∈ bs, x.1 ∈ cornersM n /\ x.2 ∈ turnsM n) -> acc.length + bs.length <= 100 -> (∀ p ∈ acc, p.t ∈ turnsM n) ->
   ∃ (ps : List Pt) (y6 y7 y8 y9 : B), ps.map (·.c) = acc.map (·.c) ++ bs.map (fun x => turnedM t x.1) /\ (∀ p ∈ ps, p.t ∈ turnsM n) /\
     forF (gT (gsCons (gN 7) (gsCons (gN 8) gsNil))) L1_law_joined_0 (bs.map encBT) [x0, x1, x2, .fz (encT t), .fz (encT m), .ow (acc.map encPt), .fz (.int bits), x7, x8, x9] = some (.nx [x0, x1, x2, .fz (encT t), .fz (encT m), .ow (ps.map encPt), y6, y7, y8, y9])
 | [], acc, bits, x7, x8, x9, _, _, ha => ⟨acc, .fz (.int bits), x7, x8, x9, by simp, ha, rfl⟩
 | x :: r, acc, bits, x7, x8, x9, hb, hl, ha => by
   obtain ⟨h1, h2⟩ := hb x List.mem_cons_self
   obtain ⟨p, p1, p2, p3⟩ := join_step hn ht hm h2 h1 x0 x1 x2 x9 (acc.map encPt) (by rw [List.length_map]; simp at hl; omega) bits
   obtain ⟨ps, y6, y7, y8, y9, q1, q2, q3⟩ := join_loop hn ht hm x0 x1 x2 r (acc ++ [p]) (bits / 2) (.fz (encC x.1)) (.fz (encT x.2)) (.fz (encT p.t)) (fun y hy => hb y (List.mem_cons_of_mem _ hy)) (by simp at hl ⊢; omega) (fun q hq => by
     rcases List.mem_append.mp hq with z | z
     · exact ha q z
     · rw [List.mem_singleton.mp z]; exact p2)
   refine ⟨ps, y6, y7, y8, y9, ?_, q2, ?_⟩
   · rw [q1]; simp [p1]
   · rw [List.map_cons, forF_nx (ρ1 := [x0, x1, x2, .fz (encT t), .fz (encT m), .ow (acc.map encPt), .fz (.int bits), .fz (encC x.1), .fz (encT x.2), x9]) rfl p3]
     rw [List.map_append] at q3
     exact q3
theorem joined_eq {n : Nat} (hn : n = 2 ∨ n = 3) (q : Int) : ∃ ps : List Pt, PtsOk n ps /\ d_law_joined [.int n, .int q] = some (ps.map encPt) := by
 obtain ⟨t, tm, te⟩ := turn_eq q hn
 have hmir : ∃ m ∈ turnsM n, ∀ r : List B, eTupOf (eL (lComp (iR (eV 0)) 1 [] (gN 0) tOK (eTup (aCons (eV 0) (aCons (eIntOf (eOfT (eB2 gEq (eV 0) (eC (.int 0))))) aNil))))) (.fz (.int (n : Nat)) :: r) = some (encT m) := by
   rcases hn with rfl | rfl
   · exact ⟨[(0, 1), (1, 0)], by decide +kernel, fun r => by kernel_rfl⟩
   · exact ⟨[(0, 1), (1, 0), (2, 0)], by decide +kernel, fun r => by kernel_rfl⟩
 obtain ⟨m, mm, me⟩ := hmir
 have um := (undoneFacts hn tm).1
 have e1 := lundoneEq hn tm
 have e2 := lafterEq hn mm um
 have m2 := afterMem hn mm um
 have e3 := lafterEq hn tm m2
 have m3 := afterMem hn tm m2
 have go : ∀ bs : List (List Int × Tn), (∀ x ∈ bs, x.1 ∈ cornersM n /\ x.2 ∈ turnsM n) -> bs.length <= 100 -> (bs.map fun x => turnedM t x.1).Perm (cornersM n) -> ∃ ps : List Pt, PtsOk n ps /\ (B_law_joined_3 [.fz (.int n), .fz (.int q), .fz (.lst (bs.map encBT)), .fz (encT t), .no, .no, .no, .no, .no, .no]).bind outL = some (ps.map encPt) := fun bs h1 h2 h3 => by
   obtain ⟨ps, y6, y7, y8, y9, q1, q2, q3⟩ := join_loop hn tm m3 (.fz (.int n)) (.fz (.int q)) (.fz (.lst (bs.map encBT))) bs [] (q / 96) .no .no .no h1 (by simpa using h2) (by simp)
   refine ⟨ps, ⟨?_, q2⟩, ?_⟩
   · rw [q1]; simpa using h3
   · unfold B_law_joined_3
     rw [setnx (d := encT m) (me _)]
     unfold B_law_joined_4
     rw [setnx (d := encT (afterM t (afterM m (undoneM t)))) ((call2 rfl ((call2 rfl ((call1 rfl).trans e1)).trans e2)).trans e3)]
     unfold B_law_joined_5
     rw [sSeq_nx (ρ' := [.fz (.int n), .fz (.int q), .fz (.lst (bs.map encBT)), .fz (encT t), .fz (encT (afterM t (afterM m (undoneM t)))), .ow [], .no, .no, .no, .no]) rfl]
     unfold B_law_joined_6
     rw [setnx (d := .int (q / 96)) (eI_eq rfl rfl rfl)]
     unfold B_law_joined_7
     have fr : sFor (iL (eV 2)) (gT (gsCons (gN 7) (gsCons (gN 8) gsNil))) L1_law_joined_0 [.fz (.int n), .fz (.int q), .fz (.lst (bs.map encBT)), .fz (encT t), .fz (encT (afterM t (afterM m (undoneM t)))), .ow [], .fz (.int (q / 96)), .no, .no, .no] = some (.nx [.fz (.int n), .fz (.int q), .fz (.lst (bs.map encBT)), .fz (encT t), .fz (encT (afterM t (afterM m (undoneM t)))), .ow (ps.map encPt), y6, y7, y8, y9]) := q3
     dsimp only [List.set]
     rw [sSeq_nx fr]
     rfl
 have small : (baseM n).length <= 100 := by rcases hn with rfl | rfl <;> decide
 show ∃ ps : List Pt, PtsOk n ps /\ (B_law_joined_0 [.fz (.int n), .fz (.int q), .no, .no, .no, .no, .no, .no, .no, .no]).bind outL = some (ps.map encPt)
 unfold B_law_joined_0
 rw [setnx (d := .lst ((baseM n).map encBT)) (eL_eq (by unfold lCall; rw [aCons_eq (d := .int n) rfl rfl, Option.bind_some]; exact base_eq hn))]
 unfold B_law_joined_1
 rw [setnx (d := encT t) ((call2 rfl rfl).trans te)]
 unfold B_law_joined_2
 have ht1 : eB2 gEq (eMod (eDiv (eV 1) (eC (.int 48))) (eC (.int 2))) (eC (.int 1)) [.fz (.int n), .fz (.int q), .fz (.lst ((baseM n).map encBT)), .fz (encT t), .no, .no, .no, .no, .no, .no] = some (decide (q / 48 % 2 = 1)) := eq1_of (eI_eq (eI_eq rfl rfl rfl) rfl rfl)
 by_cases hb : q / 48 % 2 = 1
 · obtain ⟨ps, g1, g2⟩ := go (baseM n).reverse (fun x hx => base_ok hn x (List.mem_reverse.mp hx)) (by rw [List.length_reverse]; exact small) (by rw [List.map_reverse]; exact (List.reverse_perm _).trans (base_perm hn t tm))
   refine ⟨ps, g1, ?_⟩
   rw [sSeq_nx (ρ' := [.fz (.int n), .fz (.int q), .fz (.lst ((baseM n).reverse.map encBT)), .fz (encT t), .no, .no, .no, .no, .no, .no])]
   · exact g2
   · refine (if_of ht1).trans ?_
     rw [decide_eq_true hb, if_pos rfl, List.map_reverse]
     rfl
 · obtain ⟨ps, g1, g2⟩ := go (baseM n) (base_ok hn) small (base_perm hn t tm)
   refine ⟨ps, g1, ?_⟩
   rw [sSeq_nx (ρ' := [.fz (.int n), .fz (.int q), .fz (.lst ((baseM n).map encBT)), .fz (encT t), .no, .no, .no, .no, .no, .no])]
   · exact g2
   · refine (if_of ht1).trans ?_
     rw [decide_eq_false hb]
     rfl
theorem altered_eq {n : Nat} (hn : n = 2 ∨ n = 3) (cell : Int) : ∃ ps : List Pt, PtsOk n ps /\ d_law_altered [.int n, .int cell] = some (ps.map encPt) := by
 have e1 := mix_eq cell 16807 (by decide) (by decide)
 have e2 := mix_eq cell 39373 (by decide) (by decide)
 generalize mixI cell 16807 = r at e1
 generalize mixI cell 39373 = o at e2
 obtain ⟨ps, ok, e3⟩ := joined_eq hn (r / 8)
 have sm := ok.small hn
 have pos : 0 < ps.length := by rw [ok.len]; rcases hn with rfl | rfl <;> decide
 have i0 : 0 <= r % (ps.length : Int) := Int.emod_nonneg _ (by omega)
 have i1 : r % (ps.length : Int) < ps.length := Int.emod_lt_of_pos _ (by omega)
 generalize hi : r % (ps.length : Int) = iv at i0 i1
 have hlt : iv.toNat < ps.length := by omega
 have px := List.getElem?_eq_getElem hlt
 generalize hp : ps[iv.toNat] = p at px
 have hat : atI (ps.map encPt) iv = some (encPt p) := by
   rw [atI_map, atI_getD (α := Pt) ps iv p i0 i1, List.getD_eq_getElem?_getD, px]; rfl
 have pm : p ∈ ps := List.mem_of_getElem? px
 obtain ⟨t, tm, te⟩ := turn_eq (o / 3) hn
 have okset : ∀ (w : Tn) (bb : Bool), w ∈ turnsM n -> PtsOk n (ps.set iv.toNat ⟨p.c, w, bb⟩) := fun w bb hw => by
   refine ⟨?_, fun x hx => ?_⟩
   · have : (ps.set iv.toNat ⟨p.c, w, bb⟩).map (·.c) = ps.map (·.c) := by
       rw [List.map_set]
       refine List.ext_getElem? fun k => ?_
       rw [List.getElem?_set]
       split
       · rename_i e
         subst e
         rw [List.getElem?_map, px, List.length_map]
         simp [hlt]
       · rfl
     rw [this]; exact ok.perm
   · rcases List.mem_or_eq_of_mem_set hx with z | z
     · exact ok.turn x z
     · rw [z]; exact hw
 have sit : ∀ (f : Ef) (ρ : List B) (q : Pt), f ρ = some (encPt q) -> ρ[3]? = some (.ow (ps.map encPt)) -> eV 4 ρ = some (.int iv) -> sItem 3 (eV 4) f ρ = some (.nx (ρ.set 3 (.ow ((ps.set iv.toNat q).map encPt)))) := fun f ρ q h1 h2 h3 => by
   unfold sItem
   rw [h1, Option.bind_some, h3, Option.bind_some, h2]
   show (if (ps.map encPt).length <= lim then _ else none) = _
   rw [if_pos (by rw [List.length_map]; show ps.length <= 100000; omega), List.length_map]
   have : ixN ps.length iv = some iv.toNat := by unfold ixN; rw [if_pos i0, if_pos i1]
   rw [this, List.map_set]
   rfl
 show ∃ ps : List Pt, PtsOk n ps /\ (B_law_altered_0 [.fz (.int n), .fz (.int cell), .no, .no, .no, .no, .no, .no, .no]).bind outL = some (ps.map encPt)
 unfold B_law_altered_0
 rw [setnx (d := .int r) ((call2 rfl rfl).trans e1)]
 unfold B_law_altered_1
 rw [sSeq_nx (ρ' := [.fz (.int n), .fz (.int cell), .fz (.int r), .ow (ps.map encPt), .no, .no, .no, .no, .no]) (by
   unfold sOwn
   rw [lcall2 rfl (eI_eq (i := r) (j := 8) rfl rfl rfl), e3]
   rfl)]
 unfold B_law_altered_2
 rw [setnx (d := .int iv) (by
   rw [← hi]
   refine eI_eq (i := r) (j := (ps.length : Int)) rfl ?_ (decide_eq_true (by omega))
   show some (D.int ((ps.map encPt).length : Nat)) = _
   rw [List.length_map])]
 unfold B_law_altered_3
 rw [setnx (d := .int o) ((call2 rfl rfl).trans e2)]
 unfold B_law_altered_4
 rw [sSeq_nx (ρ' := [.fz (.int n), .fz (.int cell), .fz (.int r), .ow (ps.map encPt), .fz (.int iv), .fz (.int o), .fz (encC p.c), .fz (encT p.t), .fz (.bl p.b)]) (by
   unfold sAsg
   dsimp only [List.set]
   rw [show eIxO 3 (eV 4) [.fz (.int n), .fz (.int cell), .fz (.int r), .ow (ps.map encPt), .fz (.int iv), .fz (.int o), .no, .no, .no] = some (encPt p) from hat]
   rfl)]
 unfold B_law_altered_5
 have ht1 : eB2 gEq (eMod (eV 5) (eC (.int 3))) (eC (.int 0)) [.fz (.int n), .fz (.int cell), .fz (.int r), .ow (ps.map encPt), .fz (.int iv), .fz (.int o), .fz (encC p.c), .fz (encT p.t), .fz (.bl p.b)] = some (decide (o % 3 = 0)) := eq1_of (eI_eq rfl rfl rfl)
 by_cases hb : o % 3 = 0
 · refine ⟨_, okset p.t (!p.b) (ok.turn p pm), ?_⟩
   rw [sSeq_nx (ρ' := [.fz (.int n), .fz (.int cell), .fz (.int r), .ow ((ps.set iv.toNat ⟨p.c, p.t, !p.b⟩).map encPt), .fz (.int iv), .fz (.int o), .fz (encC p.c), .fz (encT p.t), .fz (.bl p.b)])]
   · rfl
   · unfold sIf
     rw [ht1, Option.bind_some, decide_eq_true hb, if_pos rfl]
     exact sit _ _ ⟨p.c, p.t, !p.b⟩ (tup3 rfl rfl rfl) rfl rfl
 · refine ⟨_, okset t (decide (o / 200 % 2 = 1)) tm, ?_⟩
   rw [sSeq_nx (ρ' := [.fz (.int n), .fz (.int cell), .fz (.int r), .ow ((ps.set iv.toNat ⟨p.c, t, decide (o / 200 % 2 = 1)⟩).map encPt), .fz (.int iv), .fz (.int o), .fz (encC p.c), .fz (encT p.t), .fz (.bl p.b)])]
   · rfl
   · unfold sIf
     rw [ht1, Option.bind_some, decide_eq_false hb, if_neg (by decide)]
     exact sit _ _ ⟨p.c, t, decide (o / 200 % 2 = 1)⟩ (tup3 rfl ((call2 (eI_eq rfl rfl rfl) rfl).trans te) (by unfold eOfT; rw [eq1_of (x := o / 200 % 2) (eI_eq (eI_eq rfl rfl rfl) rfl rfl)]; rfl)) rfl rfl
theorem drawn_eq {n : Nat} (hn : n = 2 ∨ n = 3) (cell : Int) : ∃ ps : List Pt, PtsOk n ps /\ d_law_drawn [.int n, .int cell] = some (ps.map encPt) := by
 have e1 := mix_eq cell 40692 (by decide) (by decide)
 generalize mixI cell 40692 = r at e1
 show ∃ ps : List Pt, PtsOk n ps /\ (B_law_drawn_0 [.fz (.int n), .fz (.int cell), .no]).bind outL = some (ps.map encPt)
 unfold B_law_drawn_0
 rw [setnx (d := .int r) ((call2 rfl rfl).trans e1)]
 dsimp only [List.set]
 unfold B_law_drawn_1
 have t0 : eB2 gEq (eMod (eV 2) (eC (.int 4))) (eC (.int 0)) [.fz (.int n), .fz (.int cell), .fz (.int r)] = some (decide (r % 4 = 0)) := eq1_of (eI_eq rfl rfl rfl)
 have t1 : eB2 gEq (eMod (eV 2) (eC (.int 4))) (eC (.int 1)) [.fz (.int n), .fz (.int cell), .fz (.int r)] = some (decide (r % 4 = 1)) := eq1_of (eI_eq rfl rfl rfl)
 by_cases h0 : r % 4 = 0
 · obtain ⟨ps, ok, e⟩ := loose_eq hn cell
   refine ⟨ps, ok, ?_⟩
   rw [show sSeq (sIf _ (sRetL (lCall 2 d_law_loose (aCons (eV 0) (aCons (eV 1) aNil)))) sNil) B_law_drawn_2 _ = some (.rl (ps.map encPt)) from by
     unfold sSeq
     rw [show sIf _ _ _ _ = some (Out.rl (ps.map encPt)) from (if_of t0).trans (by rw [decide_eq_true h0, if_pos rfl]; unfold sRetL; rw [lcall2 rfl rfl, e]; rfl)]
     rfl]
   rfl
 · rw [sSeq_nx (ρ' := [.fz (.int n), .fz (.int cell), .fz (.int r)]) ((if_of t0).trans (by rw [decide_eq_false h0]; rfl))]
   unfold B_law_drawn_2
   by_cases h1 : r % 4 = 1
   · obtain ⟨ps, ok, e⟩ := joined_eq hn (r / 4)
     refine ⟨ps, ok, ?_⟩
     rw [show sSeq (sIf _ (sRetL (lCall 2 d_law_joined (aCons (eV 0) (aCons (eDiv (eV 2) (eC (.int 4))) aNil)))) sNil) B_law_drawn_3 _ = some (.rl (ps.map encPt)) from by
       unfold sSeq
       rw [show sIf _ _ _ _ = some (Out.rl (ps.map encPt)) from (if_of t1).trans (by rw [decide_eq_true h1, if_pos rfl]; unfold sRetL; rw [lcall2 rfl (eI_eq (i := r) (j := 4) rfl rfl rfl), e]; rfl)]
       rfl]
     rfl
   · obtain ⟨ps, ok, e⟩ := altered_eq hn cell
     refine ⟨ps, ok, ?_⟩
     rw [sSeq_nx (ρ' := [.fz (.int n), .fz (.int cell), .fz (.int r)]) ((if_of t1).trans (by rw [decide_eq_false h1]; rfl))]
     unfold B_law_drawn_3 sRetL
     rw [lcall2 rfl rfl, e]
     rfl
end My
namespace My
open PySem L2
def ptAt (ps : List Pt) (b : Bool) (k : Nat) : Pt := ps.getD (ixB b ps.length k) ⟨[], [], false⟩
theorem ptAt_eq {ps : List Pt} {b : Bool} {k : Nat} (hk : k < ps.length) : ps[ixB b ps.length k]'(ixB_lt hk) = ptAt ps b k := by
 unfold ptAt
 rw [List.getD_eq_getElem?_getD, List.getElem?_eq_getElem (ixB_lt hk)]
 rfl
theorem ptAt_mem {ps : List Pt} {b : Bool} {k : Nat} (hk : k < ps.length) : ptAt ps b k ∈ ps := by rw [← ptAt_eq hk]; exact List.getElem_mem _
def cW (ps : List Pt) (i : Nat) : Tn -> Bool -> Int -> List Nat -> Int
 | _, _, x, [] => x
 | t, b, x, d :: r => cW ps i (afterM t (ptAt ps b d).t) (b != (ptAt ps b d).b) (2 * x + (turnedM t (ptAt ps b d).c).getD i 0) r
def plW (ps : List Pt) (n : Nat) (t : Tn) (b : Bool) (f : Nat -> Int) (ds : List Nat) : List Int := (List.range n).map fun i => cW ps i t b (f i) ds
theorem cW_lin (ps : List Pt) (i : Nat) : ∀ (ds : List Nat) (t : Tn) (b : Bool) (x : Int), cW ps i t b x ds = x * 2 ^ ds.length + cW ps i t b 0 ds
 | [], t, b, x => by simp [cW]
 | d :: r, t, b, x => by
   unfold cW
   rw [cW_lin ps i r _ _ (2 * x + _), cW_lin ps i r _ _ (2 * 0 + _)]
   rw [List.length_cons]
   generalize (turnedM t (ptAt ps b d).c).getD i 0 = e
   generalize cW ps i _ _ 0 r = y
   rw [Int.pow_succ]
   generalize (2 : Int) ^ r.length = p
   rw [Int.add_mul, Int.add_mul, Int.mul_comm 2 x, Int.mul_assoc, Int.mul_comm 2 p]
   omega
theorem corner_bits {n : Nat} (hn : n = 2 ∨ n = 3) {c : List Int} (hc : c ∈ cornersM n) (i : Nat) : c.getD i 0 = 0 ∨ c.getD i 0 = 1 := by
 have key : ∀ c ∈ cornersM n, ∀ x ∈ c, x = 0 ∨ x = 1 := by rcases hn with rfl | rfl <;> decide +kernel
 rw [List.getD_eq_getElem?_getD]
 cases h : c[i]? with
 | none => exact .inl rfl
 | some x => exact key c hc x (List.mem_of_getElem? h)
theorem corn_mem {n : Nat} (hn : n = 2 ∨ n = 3) : ∀ t ∈ turnsM n, ∀ c ∈ cornersM n, turnedM t c ∈ cornersM n := by
 rcases hn with rfl | rfl <;> decide +kernel
section
variable {n : Nat} (hn : n = 2 ∨ n = 3) {ps : List Pt} (ok : PtsOk n ps)
include hn ok
theorem pt_c {b : Bool} {k : Nat} (hk : k < ps.length) : (ptAt ps b k).c ∈ cornersM n := ok.perm.mem_iff.mp (List.mem_map.mpr ⟨_, ptAt_mem hk, rfl⟩)
theorem st_t {t : Tn} (ht : t ∈ turnsM n) {b : Bool} {k : Nat} (hk : k < ps.length) : afterM t (ptAt ps b k).t ∈ turnsM n := afterMem hn ht (ok.turn _ (ptAt_mem hk))
theorem cW_bound (i : Nat) : ∀ (ds : List Nat) (t : Tn) (b : Bool), t ∈ turnsM n -> (∀ d ∈ ds, d < ps.length) -> 0 <= cW ps i t b 0 ds /\ cW ps i t b 0 ds < 2 ^ ds.length
 | [], t, b, _, _ => by simp [cW]
 | d :: r, t, b, ht, hd => by
   have hk := hd d List.mem_cons_self
   have ih := cW_bound i r (afterM t (ptAt ps b d).t) (b != (ptAt ps b d).b) (st_t hn ok ht hk) fun x hx => hd x (List.mem_cons_of_mem _ hx)
   have hb := corner_bits hn (corn_mem hn t ht _ (pt_c hn ok (b := b) hk)) i
   unfold cW
   rw [cW_lin]
   rw [List.length_cons, Int.pow_succ]
   generalize (turnedM t (ptAt ps b d).c).getD i 0 = e at hb
   generalize cW ps i _ _ 0 r = y at ih
   generalize (2 : Int) ^ r.length = p at ih
   rcases hb with h | h <;> subst h <;> omega
theorem deep_eq (f : Nat -> Int) (c : List Int) (hc : c.length = n) : d_deeper [encC ((List.range n).map f), encC c] = some (encC ((List.range n).map fun i => 2 * f i + c.getD i 0)) := by
 rcases hn with rfl | rfl
 · match c, hc with
   | [a, b], _ => show d_deeper [.tup [.int (f 0), .int (f 1)], .tup [.int a, .int b]] = some (.tup [.int (2 * f 0 + a), .int (2 * f 1 + b)]); generalize f 0 = u; generalize f 1 = v; kernel_rfl
 · match c, hc with
   | [a, b, e], _ => show d_deeper [.tup [.int (f 0), .int (f 1), .int (f 2)], .tup [.int a, .int b, .int e]] = some (.tup [.int (2 * f 0 + a), .int (2 * f 1 + b), .int (2 * f 2 + e)]); generalize f 0 = u; generalize f 1 = v; generalize f 2 = w; kernel_rfl
theorem place_walk (j : Bool) (x1 x2 : B) : ∀ (ds : List Nat) (t : Tn) (b : Bool) (f : Nat -> Int) (x5 x6 : B), t ∈ turnsM n -> (∀ d ∈ ds, d < ps.length) ->
   ∃ y3 y5 y6, forF (gN 5) L1_place_at_0 (ds.map fun d => .int (d : Nat)) [.fz (objCv n j ps), x1, x2, .fz (stD t b), .fz (encC ((List.range n).map f)), x5, x6] =
     some (.nx [.fz (objCv n j ps), x1, x2, y3, .fz (encC (plW ps n t b f ds)), y5, y6])
 | [], t, b, f, x5, x6, _, _ => ⟨_, x5, x6, rfl⟩
 | d :: r, t, b, f, x5, x6, ht, hd => by
   have hk := hd d List.mem_cons_self
   have e1 := part_eq hn ok ht b j hk
   rw [ptAt_eq hk] at e1
   have hcl : (turnedM t (ptAt ps b d).c).length = n := cornersM_len hn _ (corn_mem hn t ht _ (pt_c hn ok (b := b) hk))
   have e2 := deep_eq hn ok f _ hcl
   obtain ⟨y3, y5, y6, ih⟩ := place_walk j x1 x2 r (afterM t (ptAt ps b d).t) (b != (ptAt ps b d).b) (fun i => 2 * f i + (turnedM t (ptAt ps b d).c).getD i 0) (.fz (.int (d : Nat))) (.fz (encC (turnedM t (ptAt ps b d).c))) (st_t hn ok ht hk) fun x hx => hd x (List.mem_cons_of_mem _ hx)
   refine ⟨y3, y5, y6, ?_⟩
   rw [List.map_cons]
   rw [forF_nx (ρ1 := [.fz (objCv n j ps), x1, x2, .fz (stD t b), .fz (encC ((List.range n).map f)), .fz (.int (d : Nat)), x6])
     (ρ2 := [.fz (objCv n j ps), x1, x2, .fz (stD (afterM t (ptAt ps b d).t) (b != (ptAt ps b d).b)), .fz (encC ((List.range n).map fun i => 2 * f i + (turnedM t (ptAt ps b d).c).getD i 0)), .fz (.int (d : Nat)), .fz (encC (turnedM t (ptAt ps b d).c))]) rfl ?_]
   · exact ih
   · unfold L1_place_at_0
     rw [sSeq_nx (ρ' := [.fz (objCv n j ps), x1, x2, .fz (stD (afterM t (ptAt ps b d).t) (b != (ptAt ps b d).b)), .fz (encC ((List.range n).map f)), .fz (.int (d : Nat)), .fz (encC (turnedM t (ptAt ps b d).c))])]
     · unfold L1_place_at_1 sSet
       rw [call2 rfl rfl, e2]
       rfl
     · unfold sAsg
       rw [call3 rfl rfl rfl, e1]
       rfl
end
def digM (B : Nat) : Nat -> Nat -> List Nat
 | _, 0 => []
 | a, L + 1 => a % B :: digM B (a / B) L
theorem digM_len (B : Nat) : ∀ (L a : Nat), (digM B a L).length = L
 | 0, a => rfl
 | L + 1, a => by unfold digM; rw [List.length_cons, digM_len B L]
theorem digM_lt {B : Nat} (hB : 0 < B) : ∀ (L a : Nat), ∀ d ∈ digM B a L, d < B
 | 0, a, d, h => by cases h
 | L + 1, a, d, h => by
   unfold digM at h
   rcases List.mem_cons.mp h with e | e
   · rw [e]; exact Nat.mod_lt _ hB
   · exact digM_lt hB L _ d e
theorem digM_val {B : Nat} (hB : 0 < B) : ∀ (L a acc : Nat), a < B ^ L -> (digM B a L).reverse.foldl (fun s d => s * B + d) acc = acc * B ^ L + a
 | 0, a, acc, h => by
   have : a = 0 := by simpa using h
   subst this
   simp [digM]
 | L + 1, a, acc, h => by
   unfold digM
   have h' : a / B < B ^ L := Nat.div_lt_of_lt_mul (by rw [Nat.mul_comm, ← Nat.pow_succ]; exact h)
   rw [List.reverse_cons, List.foldl_append, digM_val hB L (a / B) acc h']
   show (acc * B ^ L + a / B) * B + a % B = _
   have := Nat.div_add_mod a B
   rw [Nat.pow_succ, Nat.add_mul, Nat.mul_assoc, Nat.mul_comm (a / B) B]
   omega
section
variable {ps : List Pt} (hB : 0 < ps.length) (hs : ps.length <= 8)
include hB hs
theorem mod_len {f : Ef} {ρ : List B} {g : Ef} {a : Nat} (h1 : f ρ = some (.int (a : Nat))) (h2 : g ρ = some (.int (ps.length : Nat))) : eMod f g ρ = some (.int ((a % ps.length : Nat) : Nat)) := by
 rw [Int.natCast_emod]
 exact eI_eq h1 h2 (decide_eq_true (by omega))
theorem div_len {f : Ef} {ρ : List B} {g : Ef} {a : Nat} (h1 : f ρ = some (.int (a : Nat))) (h2 : g ρ = some (.int (ps.length : Nat))) : eDiv f g ρ = some (.int ((a / ps.length : Nat) : Nat)) := by
 rw [Int.natCast_ediv]
 refine eI_eq h1 h2 ?_
 unfold cDiv
 rw [decide_eq_true (show (0 : Int) < (ps.length : Nat) by omega), decide_eq_true (show ((ps.length : Nat) : Int) < 1073741824 by omega)]
 rfl
theorem dig_loop (x1 : B) (x2 : B) (h1 : x1 = .fz (.int (ps.length : Nat))) : ∀ (its : List D) (acc : List Nat) (a : Nat) (x4 : B), acc.length + its.length <= 1000 ->
   ∃ y4, forF (gN 4) L1_digits_of_0 its [.fz (.int (a : Nat)), x1, x2, .ow (acc.map fun d => .int (d : Nat)), x4] =
     some (.nx [.fz (.int ((a / ps.length ^ its.length : Nat) : Nat)), x1, x2, .ow ((acc ++ digM ps.length a its.length).map fun d => .int (d : Nat)), y4])
 | [], acc, a, x4, _ => ⟨x4, by simp [forF, digM]⟩
 | d :: r, acc, a, x4, hl => by
   subst h1
   obtain ⟨y4, ih⟩ := dig_loop (.fz (.int (ps.length : Nat))) x2 rfl r (acc ++ [a % ps.length]) (a / ps.length) (.fz d) (by simp at hl ⊢; omega)
   refine ⟨y4, ?_⟩
   rw [forF_nx (ρ1 := [.fz (.int (a : Nat)), .fz (.int (ps.length : Nat)), x2, .ow (acc.map fun d => .int (d : Nat)), .fz d])
     (ρ2 := [.fz (.int ((a / ps.length : Nat) : Nat)), .fz (.int (ps.length : Nat)), x2, .ow ((acc ++ [a % ps.length]).map fun d => .int (d : Nat)), .fz d]) rfl ?_, ih]
   · rw [List.length_cons, Nat.pow_succ, Nat.mul_comm, ← Nat.div_div_eq_div_mul]
     simp [digM]
   · unfold L1_digits_of_0
     rw [sSeq_nx (app_nx (d := .int ((a % ps.length : Nat) : Nat)) (ds := acc.map fun d => .int (d : Nat)) (mod_len hB hs rfl rfl) rfl (by rw [List.length_map]; simp at hl; omega))]
     unfold L1_digits_of_1 sSet
     rw [div_len hB hs (a := a) rfl rfl, List.map_append]
     rfl
theorem iR_nat {f : Ef} {ρ : List B} {L : Nat} (h : f ρ = some (.int (L : Nat))) (hL : L <= 1000) : iR f ρ = some (upto 0 L) := by
 unfold iR
 rw [h, Option.bind_some]
 show (if decide (-1000000 <= (L : Int)) && decide ((L : Int) <= 1000000) then some (upto 0 (L : Int).toNat) else none) = _
 rw [decide_eq_true (by omega), decide_eq_true (by omega), Int.toNat_natCast]
 rfl
theorem digits_eq (a L : Nat) (hL : L <= 100) : d_digits_of [.int (a : Nat), .int (ps.length : Nat), .int (L : Nat)] = some ((digM ps.length a L).reverse.map fun d => .int (d : Nat)) := by
 obtain ⟨y4, e⟩ := dig_loop hB hs (.fz (.int (ps.length : Nat))) (.fz (.int (L : Nat))) rfl (upto 0 L) [] a .no (by rw [upto_len]; simp; omega)
 rw [upto_len, List.nil_append] at e
 show (B_digits_of_0 [.fz (.int (a : Nat)), .fz (.int (ps.length : Nat)), .fz (.int (L : Nat)), .no, .no]).bind outL = _
 unfold B_digits_of_0
 rw [sSeq_nx (ρ' := [.fz (.int (a : Nat)), .fz (.int (ps.length : Nat)), .fz (.int (L : Nat)), .ow [], .no]) rfl]
 unfold B_digits_of_1
 have fr : sFor (iR (eV 2)) (gN 4) L1_digits_of_0 [.fz (.int (a : Nat)), .fz (.int (ps.length : Nat)), .fz (.int (L : Nat)), .ow [], .no] = some (.nx [.fz (.int ((a / ps.length ^ L : Nat) : Nat)), .fz (.int (ps.length : Nat)), .fz (.int (L : Nat)), .ow ((digM ps.length a L).map fun d => .int (d : Nat)), y4]) := by
   unfold sFor
   rw [iR_nat hB hs (L := L) rfl (by omega), Option.bind_some]
   exact e
 rw [sSeq_nx fr]
 unfold B_digits_of_2
 rw [List.map_reverse]
 rfl
end
end My
namespace My
open PySem L2
theorem seqif {t : Tf} {f g : Sf} {ρ : List B} {r : Option D} (h : t ρ = some false) (k : (g ρ).bind outD = r) : (sSeq (sIf t f sNil) g ρ).bind outD = r := seq_out (by unfold sIf; rw [h]; rfl) k
theorem seqset {i : Nat} {f : Ef} {g : Sf} {ρ : List B} {d : D} {r : Option D} (h : f ρ = some d) (k : (g (ρ.set i (.fz d))).bind outD = r) : (sSeq (sSet i f) g ρ).bind outD = r := seq_out (by unfold sSet; rw [h]; rfl) k
theorem not_t {f : Ef} {ρ : List B} (h : f ρ = some (.bl true)) : tNotF (tB1 f) ρ = some false := by unfold tNotF tB1; rw [h]; rfl
theorem full_loop (x0 x1 : B) : ∀ (its : List D) (p : Int) (x3 : B), ∃ y3, forF (gN 3) L1_full_0 its [x0, x1, .fz (.int p), x3] = some (.nx [x0, x1, .fz (.int (p * 2 ^ its.length)), y3])
 | [], p, x3 => ⟨x3, by simp [forF]⟩
 | d :: r, p, x3 => by
   obtain ⟨y3, ih⟩ := full_loop x0 x1 r (p * 2) (.fz d)
   refine ⟨y3, ?_⟩
   rw [forF_nx (ρ1 := [x0, x1, .fz (.int p), .fz d]) (ρ2 := [x0, x1, .fz (.int (p * 2)), .fz d]) rfl ?_, ih, List.length_cons, Int.pow_succ, Int.mul_comm (2 ^ r.length) 2, ← Int.mul_assoc]
   unfold L1_full_0 sSet
   rw [show eMul (eV 2) (eC (.int 2)) [x0, x1, .fz (.int p), .fz d] = some (.int (p * 2)) from eI_eq rfl rfl (cMul_r (by decide) (by decide))]
   rfl
theorem full_eq (n L : Nat) (hn : n <= 3) (hL : L <= 100) : d_full [.int (n : Nat), .int (L : Nat)] = some (.int (2 ^ (n * L))) := by
 have hm : n * L <= 300 := Nat.le_trans (Nat.mul_le_mul hn hL) (by decide)
 obtain ⟨y3, e⟩ := full_loop (.fz (.int (n : Nat))) (.fz (.int (L : Nat))) (upto 0 (n * L)) 1 .no
 rw [upto_len, Int.one_mul] at e
 show (B_full_0 [.fz (.int (n : Nat)), .fz (.int (L : Nat)), .no, .no]).bind outD = _
 unfold B_full_0
 refine seqset (d := .int 1) rfl ?_
 unfold B_full_1
 refine seq_out (ρ' := [.fz (.int (n : Nat)), .fz (.int (L : Nat)), .fz (.int (2 ^ (n * L))), y3]) ?_ rfl
 unfold sFor
 have hmul : eMul (eV 0) (eV 1) [.fz (.int (n : Nat)), .fz (.int (L : Nat)), .fz (.int 1), .no] = some (.int ((n * L : Nat) : Nat)) := by
   rw [Int.natCast_mul]
   exact eI_eq rfl rfl (cMul_l (by omega) (by omega))
 have hir : iR (eMul (eV 0) (eV 1)) [.fz (.int (n : Nat)), .fz (.int (L : Nat)), .fz (.int 1), .no] = some (upto 0 (n * L)) := by
   unfold iR
   rw [hmul, Option.bind_some]
   show (if decide (-1000000 <= ((n * L : Nat) : Int)) && decide (((n * L : Nat) : Int) <= 1000000) then some (upto 0 ((n * L : Nat) : Int).toNat) else none) = _
   generalize n * L = m at hm
   rw [decide_eq_true (by omega), decide_eq_true (by omega), Int.toNat_natCast]
   rfl
 dsimp only [List.set]
 rw [hir, Option.bind_some]
 exact e
theorem has_eq {n L : Nat} (hn : n = 2 ∨ n = 3) (hL : L <= 100) (xs : List Int) (hl : xs.length = n) (hb : ∀ x ∈ xs, 0 <= x /\ x < 2 ^ L) : d_has_place [.int (n : Nat), .int (L : Nat), .tup (xs.map D.int)] = some (.bl true) := by
 have hf := full_eq 1 L (by decide) hL
 rw [Nat.one_mul] at hf
 generalize (2 : Int) ^ L = S at hb hf
 show (B_has_place_0 [.fz (.int (n : Nat)), .fz (.int (L : Nat)), .fz (.tup (xs.map D.int)), .no]).bind outD = _
 unfold B_has_place_0
 refine seqset (d := .int S) ((call2 rfl rfl).trans hf) ?_
 unfold B_has_place_1 sRet
 have e1 : eOfT (eB2 gEq (eLen (eV 2)) (eV 0)) [.fz (.int (n : Nat)), .fz (.int (L : Nat)), .fz (.tup (xs.map D.int)), .fz (.int S)] = some (.bl true) := by
   show (gEq (.int ((xs.map D.int).length : Nat)) (.int (n : Nat))).map D.bl = _
   rw [List.length_map, hl]
   show (some (decide ((n : Int) = n))).map D.bl = _
   rw [decide_eq_true rfl]; rfl
 have e2 : eAll (eL (lComp (iT (eV 2)) 1 [3] (gN 0) tOK (eOfT (eB3 gLe gLt (eC (.int 0)) (eV 0) (eV 1))))) [.fz (.int (n : Nat)), .fz (.int (L : Nat)), .fz (.tup (xs.map D.int)), .fz (.int S)] = some (.bl true) := by
   have e3 : lComp (iT (eV 2)) 1 [3] (gN 0) tOK (eOfT (eB3 gLe gLt (eC (.int 0)) (eV 0) (eV 1))) [.fz (.int (n : Nat)), .fz (.int (L : Nat)), .fz (.tup (xs.map D.int)), .fz (.int S)] = some ((xs.map D.int).map fun _ => .bl true) := by
     show (okL (xs.map D.int)).bind (fun ds => mapF (gN 0) tOK _ ds [.no, .fz (.int S)] []) = _
     rw [okL_le (by rw [List.length_map]; omega), Option.bind_some]
     rw [mapF_one (h := fun _ => .bl true)]
     · rfl
     · intro d hd
       obtain ⟨a, ha, rfl⟩ := List.mem_map.mp hd
       obtain ⟨h1, h2⟩ := hb a ha
       simp [eOfT, eB3, gLe, gLt, eC, eV, getB, h1, h2]
   unfold eAll
   rw [eL_eq e3, Option.bind_some, List.map_map]
   show (blsD (xs.map fun _ => .bl true)).map _ = _
   rw [blsD_map (fun _ => true)]
   simp
 unfold eAndV tB1
 dsimp only [List.set]
 rw [e1, e2]
 rfl
theorem first_eq {n : Nat} (hn : n = 2 ∨ n = 3) : d_first_state [.int (n : Nat)] = some (stD (stillM n) false) := by rcases hn with rfl | rfl <;> kernel_rfl
theorem still_mem {n : Nat} (hn : n = 2 ∨ n = 3) : stillM n ∈ turnsM n := by rcases hn with rfl | rfl <;> decide +kernel
theorem len_parts {n : Int} {j : Bool} {ps : List Pt} {ρ : List B} (h : eV 0 ρ = some (objCv n j ps)) : eLen (eFld (Str.ofString "Curve") (Str.ofString "parts") (eV 0)) ρ = some (.int (ps.length : Nat)) := by
 unfold eLen
 rw [f_parts ρ (eV 0) h, Option.bind_some]
 show some (D.int ((ps.map objPt).length : Nat)) = _
 rw [List.length_map]
theorem fld_dims {n : Int} {j : Bool} {ps : List Pt} {ρ : List B} (h : eV 0 ρ = some (objCv n j ps)) : eFld (Str.ofString "Curve") (Str.ofString "dims") (eV 0) ρ = some (.int n) := by
 unfold eFld; rw [h]; rfl
def numBody : Sf := sSeq (sSet 6 (eTupOf (eL (lComp (iT (eV 2)) 1 [5] (gN 0) tOK (eMod (eDivB (eV 0) (eV 1)) (eC (.int 2)))))))
   (sSeq (sSet 7 (eCall 3 d_digit_at (aCons (eV 0) (aCons (eV 3) (aCons (eV 6) aNil)))))
   (sSeq (sSet 4 (eAdd (eMul (eV 4) (eLen (eFld "Curve" "parts" (eV 0)))) (eV 7)))
   (sSeq (sSet 3 (eIx (eCall 3 d_part_at (aCons (eV 0) (aCons (eV 3) (aCons (eV 7) aNil)))) (eC (.int 1))))
   (sSet 5 (eDivB (eV 5) (eC (.int 2)))))))
theorem cDivB_pow (x : Int) {k : Nat} (hk : k <= 100) : cDivB x (2 ^ k) = true := by
 unfold cDivB
 have h0 : (0 : Int) < 2 ^ k := Int.pow_pos (by decide)
 have h1 : ((2 : Int) ^ k).natAbs = 2 ^ k := by rw [Int.natAbs_pow]; rfl
 have h2 : ((2 : Int) ^ k).natAbs.log2 < 9000 := by
   rw [h1, Nat.log2_two_pow]; omega
 rw [decide_eq_true h0, decide_eq_true h2]
 rfl
theorem half_corner (x1 x3 x4 x6 x7 : B) (x0 : B) {k : Nat} (hk : k <= 100) (xs : List Int) (hl : xs.length <= 100) : eTupOf (eL (lComp (iT (eV 2)) 1 [5] (gN 0) tOK (eMod (eDivB (eV 0) (eV 1)) (eC (.int 2))))) [x0, x1, .fz (encC xs), x3, x4, .fz (.int (2 ^ k)), x6, x7] = some (encC (xs.map fun x => x / 2 ^ k % 2)) := by
 have hc := fun x => cDivB_pow x hk
 generalize (2 : Int) ^ k = h at hc
 have e3 : lComp (iT (eV 2)) 1 [5] (gN 0) tOK (eMod (eDivB (eV 0) (eV 1)) (eC (.int 2))) [x0, x1, .fz (encC xs), x3, x4, .fz (.int h), x6, x7] = some ((xs.map D.int).map fun d => match d with | .int x => .int (x / h % 2) | d => d) := by
   show (okL (xs.map D.int)).bind (fun ds => mapF (gN 0) tOK _ ds [.no, .fz (.int h)] []) = _
   rw [okL_le (by rw [List.length_map]; omega), Option.bind_some]
   rw [mapF_one (h := fun d => match d with | .int x => .int (x / h % 2) | d => d)]
   · rfl
   · intro d hd
     obtain ⟨a, ha, rfl⟩ := List.mem_map.mp hd
     exact eI_eq (eI_eq rfl rfl (hc a)) rfl rfl
 unfold eTupOf
 rw [eL_eq e3, Option.bind_some, List.map_map]
 unfold encC
 rw [List.map_map]
 rfl
section
variable {n : Nat} (hn : n = 2 ∨ n = 3) {ps : List Pt} (ok : PtsOk n ps) (j : Bool)
include hn ok
theorem num_walk (x1 : B) : ∀ (ds : List Nat) (t : Tn) (b : Bool) (g : Nat -> Int) (acc : Nat) (h : Int) (fuel : Nat) (x6 x7 : B), t ∈ turnsM n -> (∀ d ∈ ds, d < ps.length) -> ds.length < fuel -> ds.length <= 60 -> h = (match ds.length with | 0 => 0 | m + 1 => 2 ^ m) ->
   (∀ i, i < n -> g i % 2 ^ ds.length = cW ps i t b 0 ds) ->
   ∃ y3 y5 y6 y7, whileF (eB2 gGt (eV 5) (eC (.int 0))) numBody fuel [.fz (objCv n j ps), x1, .fz (encC ((List.range n).map g)), .fz (stD t b), .fz (.int (acc : Nat)), .fz (.int h), x6, x7] =
     some (.nx [.fz (objCv n j ps), x1, .fz (encC ((List.range n).map g)), y3, .fz (.int ((ds.foldl (fun s d => s * ps.length + d) acc : Nat) : Nat)), y5, y6, y7])
 | [], t, b, g, acc, h, 0, x6, x7, _, _, hf, _, _, _ => by cases hf
 | [], t, b, g, acc, h, fuel + 1, x6, x7, _, _, _, _, hh, _ => by
   subst hh
   exact ⟨.fz (stD t b), .fz (.int 0), x6, x7, rfl⟩
 | d :: r, t, b, g, acc, h, 0, x6, x7, _, _, hf, _, _, _ => by cases hf
 | d :: r, t, b, g, acc, h, fuel + 1, x6, x7, ht, hd, hf, hl, hh, hg => by
   rw [List.length_cons] at hf hl hh
   have hk := hd d List.mem_cons_self
   have hr : ∀ x ∈ r, x < ps.length := fun x hx => hd x (List.mem_cons_of_mem _ hx)
   have hs := ok.small hn
   have ht' := st_t hn ok ht (b := b) hk
   -- coordinates
   have hco : ∀ i, i < n -> g i / 2 ^ r.length % 2 = (turnedM t (ptAt ps b d).c).getD i 0 /\ g i % 2 ^ r.length = cW ps i (afterM t (ptAt ps b d).t) (b != (ptAt ps b d).b) 0 r := fun i hi => by
     have h1 := hg i hi
     have h2 := cW_bound hn ok i r _ (b != (ptAt ps b d).b) ht' hr
     have hb := corner_bits hn (corn_mem hn t ht _ (pt_c hn ok (b := b) hk)) i
     unfold cW at h1
     rw [cW_lin, List.length_cons, Int.pow_succ] at h1
     have hp : (0 : Int) < 2 ^ r.length := Int.pow_pos (by decide)
     generalize (turnedM t (ptAt ps b d).c).getD i 0 = e at hb h1
     generalize cW ps i _ _ 0 r = y at h1 h2
     generalize (2 : Int) ^ r.length = p at h1 h2 hp
     have hdm := Int.emod_add_mul_ediv (g i) (p * 2)
     generalize hq : g i / (p * 2) = q at hdm
     rw [h1] at hdm
     have hx : g i = y + p * (e + 2 * q) := by
       rw [← hdm, Int.mul_add, Int.mul_comm p e, ← Int.mul_assoc, Int.mul_zero, Int.zero_add]
       omega
     have hdiv : g i / p = e + 2 * q := by
       rw [hx, Int.add_mul_ediv_left _ _ (by omega), Int.ediv_eq_zero_of_lt h2.1 h2.2, Int.zero_add]
     refine ⟨by rw [hdiv]; omega, ?_⟩
     rw [hx, Int.add_mul_emod_self_left]
     exact Int.emod_eq_of_lt h2.1 h2.2
   have hcorner : ((List.range n).map g).map (fun x => x / 2 ^ r.length % 2) = turnedM t (ptAt ps b d).c := by
     have hcl : (turnedM t (ptAt ps b d).c).length = n := cornersM_len hn _ (corn_mem hn t ht _ (pt_c hn ok (b := b) hk))
     refine List.ext_getElem (by simp [hcl]) fun i h1 h2 => ?_
     have hi : i < n := by simpa using h1
     rw [List.getElem_map, List.getElem_map, List.getElem_range, (hco i hi).1, List.getD_eq_getElem?_getD, List.getElem?_eq_getElem h2]
     rfl
   have e1 := half_corner x1 (.fz (stD t b)) (.fz (.int (acc : Nat))) x6 x7 (.fz (objCv n j ps)) (k := r.length) (by omega) ((List.range n).map g) (by rw [List.length_map, List.length_range]; omega)
   rw [hcorner] at e1
   have e2 := digit_eq hn ok ht b j hk
   rw [ptAt_eq hk] at e2
   have e3 := part_eq hn ok ht b j hk
   rw [ptAt_eq hk] at e3
   obtain ⟨y3, y5, y6, y7, ih⟩ := num_walk x1 r (afterM t (ptAt ps b d).t) (b != (ptAt ps b d).b) g (acc * ps.length + d) (h / 2) fuel (.fz (encC (turnedM t (ptAt ps b d).c))) (.fz (.int (d : Nat))) ht' hr (by omega) (by omega) (by
     rw [hh]
     show (2 : Int) ^ r.length / 2 = _
     cases hz : r.length with
     | zero => rfl
     | succ m => show (2 : Int) ^ (m + 1) / 2 = 2 ^ m; rw [Int.pow_succ]; omega) fun i hi => (hco i hi).2
   refine ⟨y3, y5, y6, y7, ?_⟩
   have hh' : h = 2 ^ r.length := hh
   subst hh'
   have hp : (0 : Int) < 2 ^ r.length := Int.pow_pos (by decide)
   have tt : eB2 gGt (eV 5) (eC (.int 0)) [.fz (objCv n j ps), x1, .fz (encC ((List.range n).map g)), .fz (stD t b), .fz (.int (acc : Nat)), .fz (.int (2 ^ r.length)), x6, x7] = some true := by
     show some (decide ((0 : Int) < 2 ^ r.length)) = _
     rw [decide_eq_true hp]
   rw [whileF, tt, Option.bind_some, if_pos rfl]
   have hbody : numBody [.fz (objCv n j ps), x1, .fz (encC ((List.range n).map g)), .fz (stD t b), .fz (.int (acc : Nat)), .fz (.int (2 ^ r.length)), x6, x7] = some (.nx [.fz (objCv n j ps), x1, .fz (encC ((List.range n).map g)), .fz (stD (afterM t (ptAt ps b d).t) (b != (ptAt ps b d).b)), .fz (.int ((acc * ps.length + d : Nat) : Nat)), .fz (.int (2 ^ r.length / 2)), .fz (encC (turnedM t (ptAt ps b d).c)), .fz (.int (d : Nat))]) := by
     unfold numBody
     rw [setnx e1]
     dsimp only [List.set]
     rw [setnx (d := .int (d : Nat)) ((call3 rfl rfl rfl).trans e2)]
     dsimp only [List.set]
     rw [setnx (d := .int ((acc * ps.length + d : Nat) : Nat)) (by
       rw [Int.natCast_add, Int.natCast_mul]
       exact eI_eq (eI_eq rfl (len_parts rfl) (cMul_r (by omega) (by omega))) rfl rfl)]
     dsimp only [List.set]
     rw [setnx (d := stD (afterM t (ptAt ps b d).t) (b != (ptAt ps b d).b)) (by
       unfold eIx
       rw [call3 rfl rfl rfl, e3]
       rfl)]
     dsimp only [List.set]
     unfold sSet
     rw [show eDivB (eV 5) (eC (.int 2)) _ = some (.int (2 ^ r.length / 2)) from eI_eq rfl rfl (by rfl)]
     rfl
   rw [hbody, Option.bind_some]
   exact ih
end
end My
namespace My
open PySem L2
theorem ask_ok {x y z : D} (h : d_has_place [x, y, z] = some (.bl true)) : d_ask_place [x, y, z] = some .non := by
 show (B_ask_place_0 [.fz x, .fz y, .fz z]).bind outD = _
 unfold B_ask_place_0 sIf
 rw [not_t ((call3 rfl rfl rfl).trans h)]
 rfl
section
variable {n : Nat} (hn : n = 2 ∨ n = 3) {ps : List Pt} (ok : PtsOk n ps) (j : Bool) {L a : Nat} (hL : L <= 60) (ha : a < ps.length ^ L)
include hn ok hL
include ha
theorem place_eq : d_place_at [objCv n j ps, .int (L : Nat), .int (a : Nat)] = some (encC (plW ps n (stillM n) false (fun _ => 0) (digM ps.length a L).reverse)) := by
 have hB : 0 < ps.length := by rw [ok.len]; exact Nat.pow_pos (by decide)
 have hs := ok.small hn
 have hf := full_eq n L (by omega) (by omega)
 have hlt : (a : Int) < 2 ^ (n * L) := by
   have h1 : ps.length ^ L = 2 ^ (n * L) := by rw [ok.len, ← Nat.pow_mul]
   rw [h1] at ha
   have h2 : ((2 ^ (n * L) : Nat) : Int) = 2 ^ (n * L) := by rw [Int.natCast_pow]; rfl
   rw [← h2]
   exact Int.ofNat_lt.mpr ha
 obtain ⟨y3, y5, y6, e2⟩ := place_walk hn ok j (.fz (.int (L : Nat))) (.fz (.int (a : Nat))) (digM ps.length a L).reverse (stillM n) false (fun _ => 0) .no .no (still_mem hn) (fun d hd => digM_lt hB L a d (List.mem_reverse.mp hd))
 have e1 := digits_eq hB hs a L (by omega)
 show (B_place_at_0 [.fz (objCv n j ps), .fz (.int (L : Nat)), .fz (.int (a : Nat)), .no, .no, .no, .no]).bind outD = _
 unfold B_place_at_0
 refine seqif ?_ ?_
 · unfold tNotF eB3
   rw [call2 (fld_dims (n := n) (j := j) (ps := ps) rfl) rfl, hf]
   generalize (2 : Int) ^ (n * L) = S at hlt
   simp [eC, eV, getB, gLe, gLt, hlt]
 unfold B_place_at_1
 refine seqset ((call1 (fld_dims (n := n) (j := j) (ps := ps) rfl)).trans (first_eq hn)) ?_
 unfold B_place_at_2
 refine seqset (d := encC ((List.range n).map fun _ => (0 : Int))) (by
   unfold eTRep
   rw [fld_dims (n := n) (j := j) (ps := ps) rfl]
   rcases hn with rfl | rfl <;> kernel_rfl) ?_
 unfold B_place_at_3
 refine seq_out (ρ' := [.fz (objCv n j ps), .fz (.int (L : Nat)), .fz (.int (a : Nat)), y3, .fz (encC (plW ps n (stillM n) false (fun _ => 0) (digM ps.length a L).reverse)), y5, y6]) ?_ rfl
 unfold sFor
 rw [lcall3 rfl (len_parts (n := n) (j := j) (ps := ps) rfl) rfl, e1, Option.bind_some]
 exact e2
theorem number_eq : d_number_at [objCv n j ps, .int (L : Nat), encC (plW ps n (stillM n) false (fun _ => 0) (digM ps.length a L).reverse)] = some (.int (a : Nat)) := by
 have hB : 0 < ps.length := by rw [ok.len]; exact Nat.pow_pos (by decide)
 have hs := ok.small hn
 have hf := full_eq 1 L (by omega) (by omega)
 rw [Nat.one_mul] at hf
 have hlen : (digM ps.length a L).reverse.length = L := by rw [List.length_reverse, digM_len]
 have hds : ∀ d ∈ (digM ps.length a L).reverse, d < ps.length := fun d hd => digM_lt hB L a d (List.mem_reverse.mp hd)
 have hbd : ∀ i, 0 <= cW ps i (stillM n) false 0 (digM ps.length a L).reverse /\ cW ps i (stillM n) false 0 (digM ps.length a L).reverse < 2 ^ L := fun i => by
   have := cW_bound hn ok i (digM ps.length a L).reverse (stillM n) false (still_mem hn) hds
   rwa [hlen] at this
 have hhas := has_eq (n := n) (L := L) hn (by omega) (plW ps n (stillM n) false (fun _ => 0) (digM ps.length a L).reverse) (by simp [plW]) (fun x hx => by
   unfold plW at hx
   obtain ⟨i, _, rfl⟩ := List.mem_map.mp hx
   exact hbd i)
 obtain ⟨y3, y5, y6, y7, e2⟩ := num_walk hn ok j (.fz (.int (L : Nat))) (digM ps.length a L).reverse (stillM n) false (fun i => cW ps i (stillM n) false 0 (digM ps.length a L).reverse) 0 (2 ^ L / 2) 100 .no .no (still_mem hn) hds (by rw [hlen]; omega) (by rw [hlen]; exact hL) (by
     rw [hlen]
     cases L with
     | zero => rfl
     | succ m => show (2 : Int) ^ (m + 1) / 2 = 2 ^ m; rw [Int.pow_succ]; omega) (fun i _ => by rw [hlen]; exact Int.emod_eq_of_lt (hbd i).1 (hbd i).2)
 rw [digM_val hB L a 0 ha, Nat.zero_mul, Nat.zero_add] at e2
 show (B_number_at_0 [.fz (objCv n j ps), .fz (.int (L : Nat)), .fz (encC (plW ps n (stillM n) false (fun _ => 0) (digM ps.length a L).reverse)), .no, .no, .no, .no, .no]).bind outD = _
 unfold B_number_at_0
 refine seq_out (ρ' := [.fz (objCv n j ps), .fz (.int (L : Nat)), .fz (encC (plW ps n (stillM n) false (fun _ => 0) (digM ps.length a L).reverse)), .no, .no, .no, .no, .no]) (by
   unfold sDrop
   rw [call3 (fld_dims (n := n) (j := j) (ps := ps) rfl) rfl rfl, show d_ask_place [.int (n : Nat), .int (L : Nat), encC (plW ps n (stillM n) false (fun _ => 0) (digM ps.length a L).reverse)] = some .non from ask_ok hhas]
   rfl) ?_
 unfold B_number_at_1
 refine seqset ((call1 (fld_dims (n := n) (j := j) (ps := ps) rfl)).trans (first_eq hn)) ?_
 unfold B_number_at_2
 refine seqset (d := .int 0) rfl ?_
 unfold B_number_at_3
 refine seqset (d := .int (2 ^ L / 2)) (eI_eq ((call2 rfl rfl).trans hf) rfl (by rfl)) ?_
 unfold B_number_at_4
 exact seq_out (g := B_number_at_5) e2 rfl
end
end My
namespace My
open PySem L2
section
variable {n : Nat} (hn : n = 2 ∨ n = 3) {ps : List Pt} (j : Bool) {L : Nat} (hL : L <= 60)
include hn hL
theorem x_place_off {a : Int} (ha : a < 0 ∨ (2 : Int) ^ (n * L) <= a) : x_place_at [objCv n j ps, .int (L : Nat), .int a] = some (Str.ofString "OffFloor") := by
 have hf := full_eq n L (by omega) (by omega)
 have hc : eCall 2 d_full (aCons (eFld "Curve" "dims" (eV 0)) (aCons (eV 1) aNil)) [.fz (objCv n j ps), .fz (.int (L : Nat)), .fz (.int a), .no, .no, .no, .no] = some (.int (2 ^ (n * L))) := (call2 (fld_dims rfl) rfl).trans hf
 have ht : tNotF (eB3 gLe gLt (eC (.int 0)) (eV 2) (eCall 2 d_full (aCons (eFld "Curve" "dims" (eV 0)) (aCons (eV 1) aNil)))) [.fz (objCv n j ps), .fz (.int (L : Nat)), .fz (.int a), .no, .no, .no, .no] = some true := by
   have h3 : eB3 gLe gLt (eC (.int 0)) (eV 2) (eCall 2 d_full (aCons (eFld "Curve" "dims" (eV 0)) (aCons (eV 1) aNil))) [.fz (objCv n j ps), .fz (.int (L : Nat)), .fz (.int a), .no, .no, .no, .no] = some false := by
     unfold eB3
     rw [hc]
     show (some (decide ((0 : Int) <= a))).bind (fun k => if k = true then some (decide (a < (2 : Int) ^ (n * L))) else some false) = some false
     rw [Option.bind_some]
     rcases ha with h | h
     · rw [decide_eq_false (by omega)]; rfl
     · rw [decide_eq_false (p := a < (2 : Int) ^ (n * L)) (by omega)]
       split <;> rfl
   unfold tNotF
   rw [h3]
   rfl
 show xb_place_at [.fz (objCv n j ps), .fz (.int (L : Nat)), .fz (.int a), .no, .no, .no, .no] = _
 unfold xb_place_at xIf
 rw [ht, Option.bind_some, if_pos rfl]
 unfold xRaise
 exact if_pos rfl
theorem x_neighbours_off {a : Int} (ha : a < 0 ∨ (2 : Int) ^ (n * L) <= a) : x_neighbours [objCv n j ps, .int (L : Nat), .int a] = some (Str.ofString "OffFloor") := by
 have h := x_place_off hn (ps := ps) j hL ha
 show xb_neighbours [.fz (objCv n j ps), .fz (.int (L : Nat)), .fz (.int a), .no] = _
 unfold xb_neighbours xCall
 show (some [objCv n j ps, .int (L : Nat), .int a]).bind (fun ds => if ds.length = 3 then x_place_at ds else none) = _
 rw [Option.bind_some]
 exact (if_pos rfl).trans h
theorem x_ask_off {xs : List Int} (hp : d_has_place [.int (n : Nat), .int (L : Nat), .tup (xs.map D.int)] = some (.bl false)) : x_ask_place [.int (n : Nat), .int (L : Nat), .tup (xs.map D.int)] = some (Str.ofString "OffFloor") := by
 have ht : tNotF (tB1 (eCall 3 d_has_place (aCons (eV 0) (aCons (eV 1) (aCons (eV 2) aNil))))) [.fz (.int (n : Nat)), .fz (.int (L : Nat)), .fz (.tup (xs.map D.int))] = some true := by
   have h1 : eCall 3 d_has_place (aCons (eV 0) (aCons (eV 1) (aCons (eV 2) aNil))) [.fz (.int (n : Nat)), .fz (.int (L : Nat)), .fz (.tup (xs.map D.int))] = some (.bl false) := (call3 rfl rfl rfl).trans hp
   unfold tNotF tB1
   rw [h1]
   rfl
 show xb_ask_place [.fz (.int (n : Nat)), .fz (.int (L : Nat)), .fz (.tup (xs.map D.int))] = _
 unfold xb_ask_place xIf
 rw [ht, Option.bind_some, if_pos rfl]
 unfold xRaise
 exact if_pos rfl
theorem x_number_off {xs : List Int} (hp : d_has_place [.int (n : Nat), .int (L : Nat), .tup (xs.map D.int)] = some (.bl false)) : x_number_at [objCv n j ps, .int (L : Nat), .tup (xs.map D.int)] = some (Str.ofString "OffFloor") := by
 have h := x_ask_off hn hL hp
 show xb_number_at [.fz (objCv n j ps), .fz (.int (L : Nat)), .fz (.tup (xs.map D.int)), .no, .no, .no, .no, .no] = _
 unfold xb_number_at xCall
 have e : aCons (eFld "Curve" "dims" (eV 0)) (aCons (eV 1) (aCons (eV 2) aNil)) [.fz (objCv n j ps), .fz (.int (L : Nat)), .fz (.tup (xs.map D.int)), .no, .no, .no, .no, .no] = some [.int (n : Nat), .int (L : Nat), .tup (xs.map D.int)] := by
   unfold aCons
   rw [fld_dims (n := n) (j := j) (ps := ps) rfl]
   rfl
 rw [e, Option.bind_some]
 exact (if_pos rfl).trans h
end
end My
namespace My
open PySem L2
def xt18 : List B -> Option Str := xIf (eB2 gEq (eV 2) (eC (.int 0))) (xCall 3 x_place_at (aCons (eV 0) (aCons (eV 1) (aCons (eV 3) aNil)))) (xIf (eB2 gEq (eV 2) (eC (.int 1))) (xCall 3 x_neighbours (aCons (eV 0) (aCons (eV 1) (aCons (eV 3) aNil)))) (xCall 3 x_number_at (aCons (eV 0) (aCons (eV 1) (aCons (eV 3) aNil)))))
theorem refused_gen {c l k a : D} (h : xt18 [.fz c, .fz l, .fz k, .fz a, .fz .non, .no] = some (Str.ofString "OffFloor")) : d_law_refused [c, l, k, a] = some (.bl true) := by
 show (B_law_refused_0 [.fz c, .fz l, .fz k, .fz a, .no, .no]).bind outD = _
 unfold B_law_refused_0
 refine seq_out (ρ' := [.fz c, .fz l, .fz k, .fz a, .fz .non, .no]) rfl ?_
 unfold B_law_refused_1
 refine seq_out (ρ' := [.fz c, .fz l, .fz k, .fz a, .fz (.exc (Str.ofString "OffFloor") [] []), .no]) ?_ ?_
 · show (xt18 [.fz c, .fz l, .fz k, .fz a, .fz .non, .no]).bind _ = _
   rw [h, Option.bind_some]
   rfl
 · unfold B_law_refused_2
   exact seq_out (ρ' := [.fz c, .fz l, .fz k, .fz a, .fz (.exc (Str.ofString "OffFloor") [] []), .no]) rfl rfl
theorem xc3 {x : List D -> Option Str} {g : Lf} {ρ : List B} {a b c : D} (h : g ρ = some [a, b, c]) : xCall 3 x g ρ = x [a, b, c] := by
 unfold xCall
 rw [h, Option.bind_some]
 exact if_pos rfl
theorem refused0 {c l a : D} (h : x_place_at [c, l, a] = some (Str.ofString "OffFloor")) : d_law_refused [c, l, .int 0, a] = some (.bl true) := by
 refine refused_gen ?_
 show xCall 3 x_place_at (aCons (eV 0) (aCons (eV 1) (aCons (eV 3) aNil))) [.fz c, .fz l, .fz (.int 0), .fz a, .fz .non, .no] = _
 exact (xc3 rfl).trans h
theorem refused1 {c l a : D} (h : x_neighbours [c, l, a] = some (Str.ofString "OffFloor")) : d_law_refused [c, l, .int 1, a] = some (.bl true) := by
 refine refused_gen ?_
 show xCall 3 x_neighbours (aCons (eV 0) (aCons (eV 1) (aCons (eV 3) aNil))) [.fz c, .fz l, .fz (.int 1), .fz a, .fz .non, .no] = _
 exact (xc3 rfl).trans h
theorem refused2 {c l a : D} (h : x_number_at [c, l, a] = some (Str.ofString "OffFloor")) : d_law_refused [c, l, .int 2, a] = some (.bl true) := by
 refine refused_gen ?_
 show xCall 3 x_number_at (aCons (eV 0) (aCons (eV 1) (aCons (eV 3) aNil))) [.fz c, .fz l, .fz (.int 2), .fz a, .fz .non, .no] = _
 exact (xc3 rfl).trans h
end My
namespace My
open PySem L2
theorem has_gen {n L : Nat} (hn : n = 2 ∨ n = 3) (hL : L <= 100) (xs : List Int) (hl : xs.length = n) : d_has_place [.int (n : Nat), .int (L : Nat), .tup (xs.map D.int)] = some (.bl (xs.all fun x => decide (0 <= x) && decide (x < (2 : Int) ^ L))) := by
 have hf := full_eq 1 L (by decide) hL
 rw [Nat.one_mul] at hf
 generalize (2 : Int) ^ L = S at hf ⊢
 show (B_has_place_0 [.fz (.int (n : Nat)), .fz (.int (L : Nat)), .fz (.tup (xs.map D.int)), .no]).bind outD = _
 unfold B_has_place_0
 refine seqset (d := .int S) ((call2 rfl rfl).trans hf) ?_
 unfold B_has_place_1 sRet
 have e1 : eOfT (eB2 gEq (eLen (eV 2)) (eV 0)) [.fz (.int (n : Nat)), .fz (.int (L : Nat)), .fz (.tup (xs.map D.int)), .fz (.int S)] = some (.bl true) := by
   show (gEq (.int ((xs.map D.int).length : Nat)) (.int (n : Nat))).map D.bl = _
   rw [List.length_map, hl]
   show (some (decide ((n : Int) = n))).map D.bl = _
   rw [decide_eq_true rfl]; rfl
 have e2 : eAll (eL (lComp (iT (eV 2)) 1 [3] (gN 0) tOK (eOfT (eB3 gLe gLt (eC (.int 0)) (eV 0) (eV 1))))) [.fz (.int (n : Nat)), .fz (.int (L : Nat)), .fz (.tup (xs.map D.int)), .fz (.int S)] = some (.bl (xs.all fun x => decide (0 <= x) && decide (x < S))) := by
   have e3 : lComp (iT (eV 2)) 1 [3] (gN 0) tOK (eOfT (eB3 gLe gLt (eC (.int 0)) (eV 0) (eV 1))) [.fz (.int (n : Nat)), .fz (.int (L : Nat)), .fz (.tup (xs.map D.int)), .fz (.int S)] = some ((xs.map D.int).map fun d => match d with | .int x => .bl (decide (0 <= x) && decide (x < S)) | _ => .bl true) := by
     show (okL (xs.map D.int)).bind (fun ds => mapF (gN 0) tOK _ ds [.no, .fz (.int S)] []) = _
     rw [okL_le (by rw [List.length_map]; omega), Option.bind_some]
     rw [mapF_one (h := fun d => match d with | .int x => .bl (decide (0 <= x) && decide (x < S)) | _ => .bl true)]
     · rfl
     · intro d hd
       obtain ⟨a, ha, rfl⟩ := List.mem_map.mp hd
       by_cases h1 : 0 <= a
       · simp [eOfT, eB3, gLe, gLt, eC, eV, getB, h1]
       · simp [eOfT, eB3, gLe, gLt, eC, eV, getB, h1]
   unfold eAll
   rw [eL_eq e3, Option.bind_some, List.map_map]
   show (blsD (xs.map fun x => .bl (decide (0 <= x) && decide (x < S)))).map _ = _
   rw [blsD_map (fun x => decide (0 <= x) && decide (x < S))]
   simp
 unfold eAndV tB1
 dsimp only [List.set]
 rw [e1, e2]
 rfl
end My
namespace My
open PySem L2
theorem seqifr {t : Tf} {e : Ef} {g : Sf} {ρ : List B} {d : D} (h : t ρ = some true) (k : e ρ = some d) : (sSeq (sIf t (sRet e) sNil) g ρ).bind outD = some d := by
 rw [sSeq_rt (d := d) ((if_of h).trans (by rw [if_pos rfl]; unfold sRet; rw [k]; rfl))]
 rfl
theorem off_eq (lo hi q far : Int) (hf : 0 <= far) (hh : lo <= hi + 1) : ∃ v : Int, d_law_off [.int lo, .int hi, .int q, .int far] = some (.int v) /\ (v < lo ∨ hi < v) /\ lo - 1 - far <= v /\ v <= hi + 1 + far := by
 have t : ∀ k : Int, eB2 gEq (eMod (eV 2) (eC (.int 4))) (eC (.int k)) [.fz (.int lo), .fz (.int hi), .fz (.int q), .fz (.int far)] = some (decide (q % 4 = k)) := fun k => eq1_of (eI_eq rfl rfl rfl)
 show ∃ v : Int, (B_law_off_0 [.fz (.int lo), .fz (.int hi), .fz (.int q), .fz (.int far)]).bind outD = some (.int v) /\ _
 unfold B_law_off_0
 by_cases h0 : q % 4 = 0
 · exact ⟨lo - 1, seqifr ((t 0).trans (by rw [decide_eq_true h0])) (eI_eq rfl rfl rfl), by omega, by omega, by omega⟩
 by_cases h1 : q % 4 = 1
 · refine ⟨hi + 1, seqif ((t 0).trans (by rw [decide_eq_false h0])) ?_, by omega, by omega, by omega⟩
   unfold B_law_off_1
   exact seqifr ((t 1).trans (by rw [decide_eq_true h1])) (eI_eq rfl rfl rfl)
 by_cases h2 : q % 4 = 2
 · refine ⟨lo - 1 - far, seqif ((t 0).trans (by rw [decide_eq_false h0])) ?_, by omega, by omega, by omega⟩
   unfold B_law_off_1
   refine seqif ((t 1).trans (by rw [decide_eq_false h1])) ?_
   unfold B_law_off_2
   exact seqifr ((t 2).trans (by rw [decide_eq_true h2])) (eI_eq (eI_eq rfl rfl rfl) rfl rfl)
 · refine ⟨hi + 1 + far, seqif ((t 0).trans (by rw [decide_eq_false h0])) ?_, by omega, by omega, by omega⟩
   unfold B_law_off_1
   refine seqif ((t 1).trans (by rw [decide_eq_false h1])) ?_
   unfold B_law_off_2
   refine seqif ((t 2).trans (by rw [decide_eq_false h2])) ?_
   rfl
end My
namespace My
open PySem L2
theorem level_eq (q : Int) (h : 0 <= q) : ∃ L : Nat, L <= 60 /\ d_law_level [.int q] = some (.int (L : Nat)) := by
 have t : eB2 gEq (eMod (eV 0) (eC (.int 6))) (eC (.int 0)) [.fz (.int q)] = some (decide (q % 6 = 0)) := eq1_of (eI_eq rfl rfl rfl)
 show ∃ L : Nat, L <= 60 /\ (B_law_level_0 [.fz (.int q)]).bind outD = some (.int (L : Nat))
 unfold B_law_level_0
 by_cases hq : q % 6 = 0
 · refine ⟨(q / 6 % 61).toNat, by omega, ?_⟩
   rw [show ((q / 6 % 61).toNat : Int) = q / 6 % 61 by omega]
   rw [sSeq_rt (d := .int (q / 6 % 61)) ((if_of t).trans (by rw [decide_eq_true hq, if_pos rfl]; unfold sRet; rw [show eMod (eDiv (eV 0) (eC (.int 6))) (eC (.int 61)) [.fz (.int q)] = some (.int (q / 6 % 61)) from eI_eq (eI_eq rfl rfl rfl) rfl rfl]; rfl))]
   rfl
 · refine ⟨(q / 6 % 13).toNat, by omega, ?_⟩
   rw [show ((q / 6 % 13).toNat : Int) = q / 6 % 13 by omega]
   rw [sSeq_nx (ρ' := [.fz (.int q)]) ((if_of t).trans (by rw [decide_eq_false hq]; rfl))]
   unfold B_law_level_1 sRet
   rw [show eMod (eDiv (eV 0) (eC (.int 6))) (eC (.int 13)) [.fz (.int q)] = some (.int (q / 6 % 13)) from eI_eq (eI_eq rfl rfl rfl) rfl rfl]
   rfl
theorem side_loop (x0 x1 x2 x3 x4 x5 x8 x9 x10 : B) : ∀ (its : List D) (p : Int) (x7 : B), ∃ y7, forF (gN 7) L2_law_0 its [x0, x1, x2, x3, x4, x5, .fz (.int p), x7, x8, x9, x10] = some (.nx [x0, x1, x2, x3, x4, x5, .fz (.int (p * 2 ^ its.length)), y7, x8, x9, x10])
 | [], p, x7 => ⟨x7, by simp [forF]⟩
 | d :: r, p, x7 => by
   obtain ⟨y7, ih⟩ := side_loop x0 x1 x2 x3 x4 x5 x8 x9 x10 r (p + p) (.fz d)
   refine ⟨y7, ?_⟩
   rw [forF_nx (ρ1 := [x0, x1, x2, x3, x4, x5, .fz (.int p), .fz d, x8, x9, x10]) (ρ2 := [x0, x1, x2, x3, x4, x5, .fz (.int (p + p)), .fz d, x8, x9, x10]) rfl rfl, ih]
   have : (p + p) * 2 ^ r.length = p * (2 ^ r.length * 2) := by rw [Int.add_mul, ← Int.mul_assoc]; omega
   rw [List.length_cons, Int.pow_succ, this]
theorem far_eq (c K m : Int) (e : Nat) (hc : Builtin.Int.intBits c <= 1048576) (hk : Builtin.Int.intBits K <= 2097152) {f g : Ef} {ρ : List B} (h1 : eV 1 ρ = some (.int c)) (h2 : f ρ = some (.int K)) (h3 : g ρ = some (.int m)) (hm : 0 < m) : ∃ z : Int, 0 <= z /\ eMod (eMulW (eV 1) f) g ρ = some (.int z) := by
 have hmul : eMulW (eV 1) f ρ = some (.int (c * K)) := by
   refine eI_eq (g := fun i j => i * j) h1 h2 ?_
   unfold cMulW
   rw [decide_eq_true (Nat.le_trans hc (by decide)), decide_eq_true hk]
   rfl
 exact ⟨c * K % m, Int.emod_nonneg _ (by omega), eI_eq hmul h3 (decide_eq_true (by omega))⟩
theorem place_list {n : Nat} (hn : n = 2 ∨ n = 3) (c S : Int) (hc : Builtin.Int.intBits c <= 1048576) (hS : 0 < S) (x0 x2 x4 x5 x7 x8 x9 x10 : B) : ∃ xs : List Int, xs.length = n /\
   lComp (iR (eV 3)) 1 [6, 1] (gN 0) tOK (eMod (eMulW (eV 2) (ePow (eAdd (eC (.int 48271)) (eV 0)) (eC (.int 5)))) (eV 1)) [x0, .fz (.int c), x2, .fz (.int (n : Nat)), x4, x5, .fz (.int S), x7, x8, x9, x10] = some (xs.map D.int) := by
 have el : ∀ k : Int, (k = 0 ∨ k = 1 ∨ k = 2) -> eMod (eMulW (eV 2) (ePow (eAdd (eC (.int 48271)) (eV 0)) (eC (.int 5)))) (eV 1) [.fz (.int k), .fz (.int S), .fz (.int c)] = some (.int (c * (48271 + k) ^ (5 : Int).toNat % S)) := by
   intro k hk
   have hb : Builtin.Int.intBits ((48271 + k) ^ (5 : Int).toNat) <= 2097152 := by rcases hk with rfl | rfl | rfl <;> decide +kernel
   have hmul : eMulW (eV 2) (ePow (eAdd (eC (.int 48271)) (eV 0)) (eC (.int 5))) [.fz (.int k), .fz (.int S), .fz (.int c)] = some (.int (c * (48271 + k) ^ (5 : Int).toNat)) := by
     refine eI_eq (g := fun i j => i * j) rfl (eI_eq (C := cPow) (g := fun i j => i ^ j.toNat) (i := 48271 + k) (j := 5) (eI_eq rfl rfl rfl) rfl ?_) ?_
     · rcases hk with rfl | rfl | rfl <;> decide
     · unfold cMulW; rw [decide_eq_true (Nat.le_trans hc (by decide)), decide_eq_true hb]; rfl
   exact eI_eq hmul rfl (decide_eq_true (by omega))
 have hm : ∀ (ks : List Int), (∀ k ∈ ks, k = 0 ∨ k = 1 ∨ k = 2) -> mapF (gN 0) tOK (eMod (eMulW (eV 2) (ePow (eAdd (eC (.int 48271)) (eV 0)) (eC (.int 5)))) (eV 1)) (ks.map D.int) [.no, .fz (.int S), .fz (.int c)] [] = some ((ks.map fun k => c * (48271 + k) ^ (5 : Int).toNat % S).map D.int) := by
   intro ks hks
   rw [mapF_one (h := fun d => match d with | .int k => .int (c * (48271 + k) ^ (5 : Int).toNat % S) | d => d)]
   · rw [List.nil_append, List.map_map, List.map_map]; rfl
   · intro d hd
     obtain ⟨k, hk, rfl⟩ := List.mem_map.mp hd
     exact el k (hks k hk)
 rcases hn with rfl | rfl
 · exact ⟨_, by rw [List.length_map]; rfl, hm [0, 1] (by intro k hk; simp at hk; omega)⟩
 · exact ⟨_, by rw [List.length_map]; rfl, hm [0, 1, 2] (by intro k hk; simp at hk; omega)⟩
theorem all_set {p : Int -> Bool} {v : Int} (hv : p v = false) : ∀ (xs : List Int) (q : Nat), q < xs.length -> (xs.set q v).all p = false
 | [], q, h => absurd h (Nat.not_lt_zero q)
 | x :: r, 0, _ => by rw [List.set_cons_zero, List.all_cons, hv]; rfl
 | x :: r, q + 1, h => by rw [List.set_cons_succ, List.all_cons, all_set hv r q (Nat.lt_of_succ_lt_succ h), Bool.and_false]
end My
namespace My
open PySem L2
theorem sq {f g : Sf} {ρ ρ' : List B} {r : Option Out} (h : f ρ = some (.nx ρ')) (k : g ρ' = r) : sSeq f g ρ = r := by rw [sSeq_nx h]; exact k
theorem law_turn (x0 : B) (c : Int) (hc : Builtin.Int.intBits c <= 1048576) (x2 x3 x4 x5 x6 x7 x8 x9 x10 : B) : ∃ y2 y3 y4 y5 y6 y7 y8 y9 y10, L1_law_0 [x0, .fz (.int c), x2, x3, x4, x5, x6, x7, x8, x9, x10] = some (.nx [x0, .fz (.int c), y2, y3, y4, y5, y6, y7, y8, y9, y10]) := by
 have e1 := mix_eq c 69621 (by decide) (by decide)
 have r0 : 0 <= mixI c 69621 := by unfold mixI; omega
 generalize mixI c 69621 = r at e1 r0
 obtain ⟨n, hn, hnn⟩ : ∃ n : Nat, (n = 2 ∨ n = 3) /\ (2 + r % 2) = (n : Int) := by
   rcases bit r with h | h
   · exact ⟨2, .inl rfl, by omega⟩
   · exact ⟨3, .inr rfl, by omega⟩
 obtain ⟨L, hL, e2⟩ := level_eq (r / 2) (by omega)
 obtain ⟨ps, ok, e3⟩ := drawn_eq hn c
 have e4 := curve_eq n (decide (r / 800 % 2 = 1)) ps (ok.small hn)
 have hj : eOfT (eB2 gEq (eMod (eDiv (eV 2) (eC (.int 800))) (eC (.int 2))) (eC (.int 1))) [x0, .fz (.int c), .fz (.int r), .fz (.int (n : Nat)), .fz (.int (L : Nat)), x5, x6, x7, x8, x9, x10] = some (.bl (decide (r / 800 % 2 = 1))) := by
   unfold eOfT; rw [eq1_of (x := r / 800 % 2) (eI_eq (eI_eq rfl rfl rfl) rfl rfl)]; rfl
 generalize decide (r / 800 % 2 = 1) = j at e4 hj
 obtain ⟨y7, eS⟩ := side_loop x0 (.fz (.int c)) (.fz (.int r)) (.fz (.int (n : Nat))) (.fz (.int (L : Nat))) (.fz (objCv n j ps)) x8 x9 x10 (upto 0 L) 1 x7
 rw [upto_len, Int.one_mul] at eS
 have hS : (0 : Int) < 2 ^ L := Int.pow_pos (by decide)
 have eF := full_eq n L (by omega) (by omega)
 have hF : (0 : Int) < 2 ^ (n * L) := Int.pow_pos (by decide)
 -- the greatest number
 have hB : 0 < ps.length := by rw [ok.len]; exact Nat.pow_pos (by decide)
 have hpl : ((ps.length ^ L : Nat) : Int) = 2 ^ (n * L) := by
   rw [ok.len, ← Nat.pow_mul, Int.natCast_pow]; rfl
 have hP : 0 < ps.length ^ L := Nat.pow_pos hB
 have ha : ps.length ^ L - 1 < ps.length ^ L := by omega
 have hm : ((ps.length ^ L - 1 : Nat) : Int) = 2 ^ (n * L) - 1 := by rw [← hpl]; omega
 have e7 := place_eq hn ok j hL ha
 have e8 := number_eq hn ok j hL ha
 have hoffN := fun v => x_place_off hn (ps := ps) j hL (a := v)
 have hoffM := fun v => x_neighbours_off hn (ps := ps) j hL (a := v)
 rw [hm] at e7 e8
 have s2 : d_law_same [.int (2 ^ (n * L) - 1), .int (2 ^ (n * L) - 1)] = some (.bl true) := same_refl 3 _ rfl
 generalize encC (plW ps n (stillM n) false (fun _ => 0) (digM ps.length (ps.length ^ L - 1) L).reverse) = pl at e7 e8
 generalize (2 : Int) ^ (n * L) = F at eF hF e7 e8 s2 hoffN hoffM
 -- off the numbers
 obtain ⟨z1, hz1, ez1⟩ := far_eq c ((7046029254386353131 : Int) ^ (3 : Int).toNat) ((10 : Int) ^ (40 : Int).toNat) 0 hc (by decide +kernel) (f := ePow (eC (.int 7046029254386353131)) (eC (.int 3))) (g := ePow (eC (.int 10)) (eC (.int 40))) (ρ := [x0, .fz (.int c), .fz (.int r), .fz (.int (n : Nat)), .fz (.int (L : Nat)), .fz (objCv n j ps), .fz (.int (2 ^ L)), y7, .fz (.int (F - 1)), x9, x10]) rfl
   (eI_eq (C := cPow) (g := fun i j => i ^ j.toNat) (i := 7046029254386353131) (j := 3) rfl rfl (by decide)) (eI_eq (C := cPow) (g := fun i j => i ^ j.toNat) (i := 10) (j := 40) rfl rfl (by decide)) (by decide +kernel)
 obtain ⟨v, ev, hv, _, _⟩ := off_eq 0 (F - 1) (r / 1600) z1 hz1 (by omega)
 have w0 := refused0 (hoffN v (by omega))
 have w1 := refused1 (hoffM v (by omega))
 -- off the places
 have hoffP := fun xs => x_number_off hn (ps := ps) j hL (xs := xs)
 have hgen := fun xs hl => has_gen (n := n) (L := L) hn (by omega) xs hl
 obtain ⟨xs, hxl, exs⟩ := place_list hn c (2 ^ L) hc hS x0 (.fz (.int r)) (.fz (.int (L : Nat))) (.fz (objCv n j ps)) y7 (.fz (.int (F - 1))) (.fz (.int v)) x10
 obtain ⟨z2, hz2, ez2⟩ := far_eq c 7046029254386353131 ((10 : Int) ^ (20 : Int).toNat) 0 hc (by decide +kernel) (f := eC (.int 7046029254386353131)) (g := ePow (eC (.int 10)) (eC (.int 20))) (ρ := [x0, .fz (.int c), .fz (.int r), .fz (.int (n : Nat)), .fz (.int (L : Nat)), .fz (objCv n j ps), .fz (.int (2 ^ L)), y7, .fz (.int (F - 1)), .fz (.int v), .ow (xs.map D.int)]) rfl
   rfl (eI_eq (C := cPow) (g := fun i j => i ^ j.toNat) (i := 10) (j := 20) rfl rfl (by decide)) (by decide +kernel)
 generalize (2 : Int) ^ L = S at eS hS ez1 exs ez2 hgen
 obtain ⟨u, eu, hu, _, _⟩ := off_eq 0 (S - 1) (r / 1600) z2 hz2 (by omega)
 have hq0 : 0 <= r / 6400 % (n : Int) := Int.emod_nonneg _ (by omega)
 have hq1 : r / 6400 % (n : Int) < n := Int.emod_lt_of_pos _ (by omega)
 have eq : eMod (eDiv (eV 2) (eC (.int 6400))) (eV 3) [x0, .fz (.int c), .fz (.int r), .fz (.int (n : Nat)), .fz (.int (L : Nat)), .fz (objCv n j ps), .fz (.int S), y7, .fz (.int (F - 1)), .fz (.int v), .ow (xs.map D.int)] = some (.int (r / 6400 % (n : Int))) := eI_eq (eI_eq rfl rfl rfl) rfl (decide_eq_true (by omega))
 generalize r / 6400 % (n : Int) = q at eq hq0 hq1
 have hlast : ((xs.set q.toNat u).all fun x => decide (0 <= x) && decide (x < S)) = false := all_set (by
   rcases hu with h | h
   · rw [decide_eq_false (by omega)]; rfl
   · rw [decide_eq_false (p := u < S) (by omega), Bool.and_false]) xs q.toNat (by omega)
 have w2 : d_law_refused [objCv n j ps, .int (L : Nat), .int 2, .tup ((xs.set q.toNat u).map D.int)] = some (.bl true) := refused2 (hoffP (xs.set q.toNat u) ((hgen (xs.set q.toNat u) (by rw [List.length_set]; exact hxl)).trans (by rw [hlast])))
 refine ⟨.fz (.int r), .fz (.int (n : Nat)), .fz (.int (L : Nat)), .fz (objCv n j ps), .fz (.int S), y7, .fz (.int (F - 1)), .fz (.int v), .fz (.lst ((xs.set q.toNat u).map D.int)), ?_⟩
 unfold L1_law_0
 rw [setnx ((call2 rfl rfl).trans e1)]
 unfold L1_law_1
 rw [setnx (d := .int (n : Nat)) (by rw [← hnn]; exact eI_eq rfl (eI_eq rfl rfl rfl) rfl)]
 unfold L1_law_2
 rw [setnx ((call1 (x := .int (r / 2)) (eI_eq rfl rfl rfl)).trans e2)]
 unfold L1_law_3
 dsimp only [List.set]
 rw [setnx (d := objCv n j ps) ((call3 (y := .bl j) (z := .lst (ps.map encPt)) rfl hj (eL_eq ((lcall2 rfl rfl).trans e3))).trans e4)]
 unfold L1_law_4
 rw [setnx (d := .int 1) rfl]
 unfold L1_law_5
 refine sq (ρ' := [x0, .fz (.int c), .fz (.int r), .fz (.int (n : Nat)), .fz (.int (L : Nat)), .fz (objCv n j ps), .fz (.int S), y7, x8, x9, x10]) (by
   show sFor (iR (eV 4)) (gN 7) L2_law_0 [x0, .fz (.int c), .fz (.int r), .fz (.int (n : Nat)), .fz (.int (L : Nat)), .fz (objCv n j ps), .fz (.int 1), x7, x8, x9, x10] = _
   unfold sFor
   rw [iR_nat hB (ok.small hn) (L := L) rfl (by omega), Option.bind_some]
   exact eS) ?_
 unfold L1_law_6
 rw [setnx (d := .int (F - 1)) (eI_eq ((call2 rfl rfl).trans eF) rfl rfl)]
 unfold L1_law_7
 dsimp only [List.set]
 rw [setnx (d := .int v) ((call4 (x := .int 0) (y := .int (F - 1)) (z := .int (r / 1600)) (u := .int z1) rfl rfl (eI_eq rfl rfl rfl) ez1).trans ev)]
 unfold L1_law_8
 refine sq (ρ' := [x0, .fz (.int c), .fz (.int r), .fz (.int (n : Nat)), .fz (.int (L : Nat)), .fz (objCv n j ps), .fz (.int S), y7, .fz (.int (F - 1)), .fz (.int v), x10]) ((if_of (b := false) (by
   unfold tOrF
   rw [not_t ((call4 rfl rfl rfl rfl).trans w0)]
   exact not_t ((call4 rfl rfl rfl rfl).trans w1))).trans rfl) ?_
 unfold L1_law_9
 refine sq (ρ' := [x0, .fz (.int c), .fz (.int r), .fz (.int (n : Nat)), .fz (.int (L : Nat)), .fz (objCv n j ps), .fz (.int S), y7, .fz (.int (F - 1)), .fz (.int v), .ow (xs.map D.int)]) (by
   unfold sOwn; rw [exs]; rfl) ?_
 unfold L1_law_10
 refine sq (ρ' := [x0, .fz (.int c), .fz (.int r), .fz (.int (n : Nat)), .fz (.int (L : Nat)), .fz (objCv n j ps), .fz (.int S), y7, .fz (.int (F - 1)), .fz (.int v), .ow ((xs.set q.toNat u).map D.int)]) (by
   unfold sItem
   rw [(call4 (x := .int 0) (y := .int (S - 1)) (z := .int (r / 1600)) (u := .int z2) rfl (eI_eq rfl rfl rfl) (eI_eq rfl rfl rfl) ez2).trans eu, Option.bind_some, eq, Option.bind_some]
   show (if (xs.map D.int).length <= lim then (ixN (xs.map D.int).length q).map fun q' => Out.nx ([x0, .fz (.int c), .fz (.int r), .fz (.int (n : Nat)), .fz (.int (L : Nat)), .fz (objCv n j ps), .fz (.int S), y7, .fz (.int (F - 1)), .fz (.int v), .ow ((xs.map D.int).set q' (.int u))]) else none) = _
   rw [List.length_map, hxl, if_pos (by unfold lim; omega)]
   unfold ixN
   rw [if_pos hq0, if_pos hq1, List.map_set]
   rfl) ?_
 unfold L1_law_11
 refine sq (ρ' := [x0, .fz (.int c), .fz (.int r), .fz (.int (n : Nat)), .fz (.int (L : Nat)), .fz (objCv n j ps), .fz (.int S), y7, .fz (.int (F - 1)), .fz (.int v), .fz (.lst ((xs.set q.toNat u).map D.int))]) (by
   show sIf _ _ sNil [x0, .fz (.int c), .fz (.int r), .fz (.int (n : Nat)), .fz (.int (L : Nat)), .fz (objCv n j ps), .fz (.int S), y7, .fz (.int (F - 1)), .fz (.int v), .fz (.lst ((xs.set q.toNat u).map D.int))] = _
   exact (if_of (not_t ((call4 rfl rfl rfl rfl).trans w2))).trans rfl) ?_
 unfold L1_law_12
 exact (if_of (not_t ((call2 ((call3 rfl rfl ((call3 rfl rfl rfl).trans e7)).trans e8) rfl).trans s2))).trans rfl
theorem law_true (ns : List Int) (h : ns.length <= 63) (hb : ∀ n ∈ ns, Builtin.Int.intBits n <= 1048576) : d_law [.lst (ns.map .int)] = some (.bl true) := by
 have hc : cutD (ns.map .int) none (some 10) = (ns.take 10).map .int := by
   unfold cutD
   have z2 : ∀ m : Nat, HT.sIx m m (some (10 : Int)) = min 10 m := fun m => HT.sIx_nat m m 10
   rw [HT.sIx_none, z2, List.drop_zero, Nat.sub_zero, List.length_map, List.map_take]
   rw [List.take_eq_take_iff, List.length_map]
   omega
 have src : lCat (lSlice (eV 0) oNo (oSome (eC (.int 10)))) (lDisp (aCons (eC (.int 14)) aNil)) [.fz (.lst (ns.map .int)), .no, .no, .no, .no, .no, .no, .no, .no, .no, .no] = some ((ns.take 10 ++ [14]).map .int) := by
   have e2 : lSlice (eV 0) oNo (oSome (eC (.int 10))) [.fz (.lst (ns.map .int)), .no, .no, .no, .no, .no, .no, .no, .no, .no, .no] = some ((ns.take 10).map .int) := by
     simp only [lSlice, oSome, oNo, eV, eC, getB, List.getElem?_cons_zero, Option.bind_some, hc]
   have e1 : lDisp (aCons (eC (.int 14)) aNil) [.fz (.lst (ns.map .int)), .no, .no, .no, .no, .no, .no, .no, .no, .no, .no] = some [.int 14] := rfl
   unfold lCat
   rw [e2, e1, Option.bind_some, Option.bind_some]
   rw [okL_le (by simp; omega), List.map_append]
   rfl
 obtain ⟨ρ', e, y1, y2, y3, y4, y5, y6, y7, y8, y9, y10, rfl⟩ := forF_all (g := gN 1) (body := L1_law_0) (P := fun ρ => ∃ y1 y2 y3 y4 y5 y6 y7 y8 y9 y10, ρ = [.fz (.lst (ns.map .int)), y1, y2, y3, y4, y5, y6, y7, y8, y9, y10]) ((ns.take 10 ++ [14]).map .int) (fun d hd ρ hρ => by
     obtain ⟨c, hcm, rfl⟩ := List.mem_map.mp hd
     obtain ⟨y1, y2, y3, y4, y5, y6, y7, y8, y9, y10, rfl⟩ := hρ
     have hbc : Builtin.Int.intBits c <= 1048576 := by
       rcases List.mem_append.mp hcm with z | z
       · exact hb c (List.mem_of_mem_take z)
       · rw [List.mem_singleton.mp z]; decide
     obtain ⟨z2, z3, z4, z5, z6, z7, z8, z9, z10, e⟩ := law_turn (.fz (.lst (ns.map .int))) c hbc y2 y3 y4 y5 y6 y7 y8 y9 y10
     exact ⟨_, _, rfl, e, _, _, _, _, _, _, _, _, _, _, rfl⟩) [.fz (.lst (ns.map .int)), .no, .no, .no, .no, .no, .no, .no, .no, .no, .no] ⟨_, _, _, _, _, _, _, _, _, _, rfl⟩
 have es : sFor (lCat (lSlice (eV 0) oNo (oSome (eC (.int 10)))) (lDisp (aCons (eC (.int 14)) aNil))) (gN 1) L1_law_0 [.fz (.lst (ns.map .int)), .no, .no, .no, .no, .no, .no, .no, .no, .no, .no] = some (.nx [.fz (.lst (ns.map .int)), y1, y2, y3, y4, y5, y6, y7, y8, y9, y10]) := by
   unfold sFor; rw [src, Option.bind_some]; exact e
 exact seq_out (g := B_law_1) es rfl
end My
open PySem PySem.W PyProof.Rows
set_option maxRecDepth 100000 in
set_option maxHeartbeats 0 in
theorem PySem.Challenge.cw_curveyard_k18_off_the_floor_holds : PySem.Challenge.rw_curveyard_k18_off_the_floor.Holds := by
 w_on; o_law
 refine PySem.W.holds_open (r := PySem.Challenge.rw_curveyard_k18_off_the_floor.row) (q := My.seenTop) (loose := My.loose) (XP := PySem.W.XL My.seenTop [])
   (YP := PySem.W.InK My.behind) My.top_run (PySem.W.InK.of My.spots_ok) PySem.W.InK.keeps
   (fun s e => PySem.W.xl_of s (Bool.and_eq_true_iff.mp e).1) PySem.W.XL.keeps (by rfl) (by rfl) (by rfl)
   (fun s e => PySem.W.recFacts_of (Bool.and_eq_true_iff.mp e).2) (by rfl) (by assumption) (by decide +kernel)
   ⟨rfl, rfl, rfl, rfl, rfl, by decide +kernel⟩ ?hw ?hc
 case hw => w_witness2
 k_fill
 refine L2.walk_bits (l := PySem.Challenge.rw_curveyard_k18_off_the_floor) (n := 63) (k := 6) (x := "_law_script") (CX := fun _ => L2.CX0) (sp := fun w => L2.spF _ 1 My.d_law) rfl (by decide) rfl ⟨rfl, by decide, by decide⟩ (fun w h Y => Y) ?F (fun w H a ns hl hb hO hS => My.law_ok hS (My.law_true ns hl hb)) (fun _ _ _ _ _ z => z)
 case F =>
   intro w mg fa h KX G hmg
   refine' My.all_mk KX G hmg ?a0 ?l0 ?c0 ?k0 ?a1 ?l1 ?c1 ?k1 ?a2 ?l2 ?c2 ?k2 ?a3 ?l3 ?c3 ?k3 ?a4 ?l4 ?c4 ?k4 ?a5 ?l5 ?c5 ?k5 ?a6 ?l6 ?c6 ?k6 ?a7 ?l7 ?c7 ?k7 ?a8 ?l8 ?c8 ?k8 ?a9 ?l9 ?c9 ?k9 ?a10 ?l10 ?c10 ?k10 ?a11 ?l11 ?c11 ?k11 ?a12 ?l12 ?c12 ?k12 ?a13 ?l13 ?c13 ?k13 ?a14 ?l14 ?c14 ?k14 ?a15 ?l15 ?c15 ?k15 ?a16 ?l16 ?c16 ?k16 ?a17 ?l17 ?c17 ?k17 ?a18 ?l18 ?c18 ?k18 ?a19 ?l19 ?c19 ?k19 ?a20 ?l20 ?c20 ?k20 ?a21 ?l21 ?c21 ?k21 ?a22 ?l22 ?c22 ?k22 ?a23 ?l23 ?c23 ?k23 ?a24 ?l24 ?c24 ?k24 ?a25 ?l25 ?c25 ?k25 ?a26 ?l26 ?c26 ?k26 ?a27 ?l27 ?c27 ?k27 ?a28 ?l28 ?c28 ?k28 ?a29 ?l29 ?c29 ?k29 ?a30 ?l30 ?c30 ?k30 ?a31 ?l31 ?c31 ?k31 ?a32 ?l32 ?c32 ?k32 ?a33 ?l33 ?c33 ?k33 ?ca0 ?ci0 ?cn0 ?cl0 ?cc0 ?ck0 ?cpg0 ?chd0 ?cpo0 ?csa0 ?cmk0 ?ckc0 ?cf0_dims ?cf0_joined ?cf0_name ?cf0_parts ?ca1 ?ci1 ?cn1 ?cl1 ?cc1 ?ck1 ?cpg1 ?chd1 ?cpo1 ?csa1 ?cmk1 ?ckc1 ?cf1_back ?cf1_corner ?cf1_turn ?xa0 ?xk0 ?xe0 ?xc0 ?xa1 ?xa2 ?xa3 ?xa4 ?xa5 ?xa6 ?xa7 ?xa8 ?ix_OffFloor ?ix_ValueError ?iy_0 ?em_YardError_OffFloor ?z_ValueError ?z_all ?z_bool ?z_int ?z_isinstance ?z_len ?z_list ?z_range ?z_reversed ?z_str ?z_tuple ?z_zip
   all_goals (try k_is)
   all_goals kernel_rfl

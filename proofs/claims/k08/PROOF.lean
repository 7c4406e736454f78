import PyProof.Rows.All
import OpenK.KLine
import KE.KItem
import Wide.Once
import Wide.FinOn
import Lean
import PyProof.EqAt
import PyProof.EqKinds
import PyProof.TupleCall
import PyProof.TupleKey
import KE.KIntText
import KE.IntTextLaws
import OpenK.KOwn
import KE.KIsAll
import PyProof.InstStoreFacts
import PyProof.RaisesMany
import PyProof.RulesAs
import KE.KTryMore
import PyProof.MaxThree
import PyProof.WalkInts
import KE.KRevIter
import PyProof.ListRange
import KE.RegMulBits
import PyProof.ReprRoads
import PyProof.ReprLen
import PyProof.Rows.SumAny
import PyProof.Rows.RuleN_abs
import Wide.Seal
import PyProof.FactsAll.bool_1
import PyProof.DictRoadsH
import PyProof.MinMaxWalk
import PyProof.Rows.CallKwBuiltin
import PyProof.ZipIter
import PyProof.StrLaws
import PyProof.Rows.FStr
import PyProof.Rows.StrNews
import PyProof.Rows.StrItems
import PyProof.StrLawsChain
import PyProof.StrLawsTight
import PyProof.StrCalls
import PyProof.LongRange
import OpenK.KTop
import PySem.Challenge.RW_curveyard_k08_curves_written_and_read
set_option Elab.async false
set_option Elab.async false
set_option linter.all false
set_option maxRecDepth 100000
set_option maxRecDepth 100000
noncomputable section
namespace L2
open PySem PySem.Spec PyProof.Rows
def vP (s:Stmt)(j:Nat):Stmt:=match s with
 | .ClassDef _ _ _ body _ _ _ _ _ _ _=>body.getD j (.Pass ⟨0,0,0,0⟩)
 | _=>.Pass ⟨0,0,0,0⟩
def zO (s:Stmt):Arguments:=match s with
 | .FunctionDef _ a _ _ _ _ _ _ _ _=>a
 | _=>{ posonlyargs:=[],args:=[],vararg:=none,kwonlyargs:=[],kw_defaults:=[],kwarg:=none,defaults:=[] }
def zQ (s:Stmt):List Stmt:=match s with
 | .FunctionDef _ _ b _ _ _ _ _ _ _=>b
 | _=>[]
def zX (s:Stmt):Scope:=match s with
 | .FunctionDef _ _ _ _ _ _ sc _ _ _=>sc
 | _=>{ kind:=.function,names:=[],isGenerator:=false,isCoroutine:=false }
end L2
namespace My
open PySem L2
def top (i:Nat):Stmt:=PySem.Challenge.pw_curveyard_k08_curves_written_and_read.main.body.getD i (.Pass ⟨0,0,0,0⟩)
end My
namespace My
open PySem PySem.W L2 PyData
def zXa:Params->Frag:=fun P =>
 (nat_lit 3,⟨.type "dict",none,.dict #[⟨keyHash P "__name__",.str "__name__" 165,.str "law_curveyard_k08_curves_written_and_read" 605⟩,⟨keyHash P "__doc__",.str "__doc__" 166,.none⟩,⟨keyHash P "__package__",.str "__package__" 167,.none⟩,⟨keyHash P "__loader__",.str "__loader__" 168,.builtin "__main__.__loader__#opaque"⟩,⟨keyHash P "__spec__",.str "__spec__" 169,.none⟩,⟨keyHash P "__annotations__",.str "__annotations__" 170,.ref 6⟩,⟨keyHash P "__builtins__",.str "__builtins__" 171,.ref 4⟩,⟨keyHash P "__file__",.str "__file__" 173,.str "/claim/cut.py" 172⟩,⟨keyHash P "__cached__",.str "__cached__" 174,.none⟩,⟨keyHash P "BITS",.str "BITS" 190,.str "01" 189⟩,⟨keyHash P "FLIPS",.str "FLIPS" 192,.str "+-" 191⟩,⟨keyHash P "AXES",.str "AXES" 194,.str "xyz" 193⟩,⟨keyHash P "turned",.str "turned" 200,.ref 19⟩,⟨keyHash P "still",.str "still" 206,.ref 24⟩,⟨keyHash P "after",.str "after" 212,.ref 29⟩,⟨keyHash P "turn_text",.str "turn_text" 218,.ref 34⟩,⟨keyHash P "turn_of",.str "turn_of" 224,.ref 39⟩,⟨keyHash P "corner_text",.str "corner_text" 230,.ref 44⟩,⟨keyHash P "corner_of",.str "corner_of" 236,.ref 49⟩,⟨keyHash P "Part",.str "Part" 271,.ref 66⟩,⟨keyHash P "Curve",.str "Curve" 306,.ref 87⟩,⟨keyHash P "first_state",.str "first_state" 313,.ref 98⟩,⟨keyHash P "part_at",.str "part_at" 326,.ref 105⟩,⟨keyHash P "walked",.str "walked" 335,.ref 112⟩,⟨keyHash P "YardError",.str "YardError" 355,.ref 122⟩,⟨keyHash P "TextError",.str "TextError" 380,.ref 142⟩,⟨keyHash P "BadRow",.str "BadRow" 396,.ref 154⟩,⟨keyHash P "CornerTwice",.str "CornerTwice" 412,.ref 166⟩,⟨keyHash P "Unmet",.str "Unmet" 441,.ref 185⟩,⟨keyHash P "LETTERS",.str "LETTERS" 445,.str "abcdefghijklmnopqrstuvwxyz" 444⟩,⟨keyHash P "LONGEST_WORD",.str "LONGEST_WORD" 447,.int 12 446⟩,⟨keyHash P "is_word",.str "is_word" 454,.ref 194⟩,⟨keyHash P "is_made_of",.str "is_made_of" 460,.ref 199⟩,⟨keyHash P "full",.str "full" 472,.ref 206⟩,⟨keyHash P "deeper",.str "deeper" 478,.ref 211⟩,⟨keyHash P "next_to",.str "next_to" 484,.ref 216⟩,⟨keyHash P "unmet_at",.str "unmet_at" 502,.ref 223⟩,⟨keyHash P "meeting_of",.str "meeting_of" 508,.ref 228⟩,⟨keyHash P "PROMISES",.str "PROMISES" 515,.ref 229⟩,⟨keyHash P "DIMS",.str "DIMS" 522,.ref 230⟩,⟨keyHash P "curve_text",.str "curve_text" 529,.ref 237⟩,⟨keyHash P "curve_rows",.str "curve_rows" 535,.ref 242⟩,⟨keyHash P "part_row",.str "part_row" 543,.ref 249⟩,⟨keyHash P "curve_of",.str "curve_of" 553,.ref 256⟩,⟨keyHash P "curve_from",.str "curve_from" 567,.ref 263⟩,⟨keyHash P "words_at",.str "words_at" 575,.ref 270⟩,⟨keyHash P "read_head",.str "read_head" 582,.ref 277⟩,⟨keyHash P "read_part",.str "read_part" 594,.ref 284⟩,⟨keyHash P "fitted",.str "fitted" 604,.ref 291⟩,⟨keyHash P "_law_mix",.str "_law_mix" 615,.ref 298⟩,⟨keyHash P "_law_same",.str "_law_same" 624,.ref 305⟩,⟨keyHash P "_law_turned",.str "_law_turned" 630,.ref 310⟩,⟨keyHash P "_law_after",.str "_law_after" 636,.ref 315⟩,⟨keyHash P "_law_undone",.str "_law_undone" 645,.ref 322⟩,⟨keyHash P "_law_turn",.str "_law_turn" 651,.ref 327⟩,⟨keyHash P "_law_base",.str "_law_base" 660,.ref 334⟩,⟨keyHash P "_law_joined",.str "_law_joined" 666,.ref 339⟩,⟨keyHash P "_law_corners",.str "_law_corners" 672,.ref 344⟩,⟨keyHash P "_law_loose",.str "_law_loose" 684,.ref 351⟩,⟨keyHash P "_law_word",.str "_law_word" 690,.ref 356⟩,⟨keyHash P "_law_rows",.str "_law_rows" 696,.ref 361⟩,⟨keyHash P "_law_alike",.str "_law_alike" 702,.ref 366⟩,⟨keyHash P "law",.str "law" 708,.ref 371⟩] 63,#[]⟩) ::
 (nat_lit 18,⟨.type "code",none,.fields #[.str "turned" 195,.str "turned" 196,.str "/claim/cut.py" 197,.int 5 0,.int 2 0,.int 0 0,.int 0 0,.int 3 0,.ref 15,.bool true,.int 181 0,.ref 16,.none,.none,.none,.ref 17,.int 198 0,.int 5 0,.str "/claim/cut.py" 199],#[]⟩) ::
 (nat_lit 19,⟨.type "function",none,.func (fnOf "turned" "turned" (zO (top 4)) (zQ (top 4)) (zX (top 4)) (.none) (.none) (.none) (.str "curveyard.turns" 187) none (.ref 18) (.none)),#[]⟩) ::
 (nat_lit 23,⟨.type "code",none,.fields #[.str "still" 201,.str "still" 202,.str "/claim/cut.py" 203,.int 7 0,.int 1 0,.int 0 0,.int 0 0,.int 3 0,.ref 20,.bool true,.int 181 0,.ref 21,.none,.none,.none,.ref 22,.int 204 0,.int 7 0,.str "/claim/cut.py" 205],#[]⟩) ::
 (nat_lit 24,⟨.type "function",none,.func (fnOf "still" "still" (zO (top 5)) (zQ (top 5)) (zX (top 5)) (.none) (.none) (.none) (.str "curveyard.turns" 187) none (.ref 23) (.none)),#[]⟩) ::
 (nat_lit 28,⟨.type "code",none,.fields #[.str "after" 207,.str "after" 208,.str "/claim/cut.py" 209,.int 9 0,.int 2 0,.int 0 0,.int 0 0,.int 3 0,.ref 25,.bool true,.int 181 0,.ref 26,.none,.none,.none,.ref 27,.int 210 0,.int 9 0,.str "/claim/cut.py" 211],#[]⟩) ::
 (nat_lit 29,⟨.type "function",none,.func (fnOf "after" "after" (zO (top 6)) (zQ (top 6)) (zX (top 6)) (.none) (.none) (.none) (.str "curveyard.turns" 187) none (.ref 28) (.none)),#[]⟩) ::
 (nat_lit 33,⟨.type "code",none,.fields #[.str "turn_text" 213,.str "turn_text" 214,.str "/claim/cut.py" 215,.int 11 0,.int 1 0,.int 0 0,.int 0 0,.int 3 0,.ref 30,.bool true,.int 181 0,.ref 31,.none,.none,.none,.ref 32,.int 216 0,.int 11 0,.str "/claim/cut.py" 217],#[]⟩) ::
 (nat_lit 34,⟨.type "function",none,.func (fnOf "turn_text" "turn_text" (zO (top 7)) (zQ (top 7)) (zX (top 7)) (.none) (.none) (.none) (.str "curveyard.turns" 187) none (.ref 33) (.none)),#[]⟩) ::
 (nat_lit 38,⟨.type "code",none,.fields #[.str "turn_of" 219,.str "turn_of" 220,.str "/claim/cut.py" 221,.int 13 0,.int 2 0,.int 0 0,.int 0 0,.int 3 0,.ref 35,.bool true,.int 181 0,.ref 36,.none,.none,.none,.ref 37,.int 222 0,.int 13 0,.str "/claim/cut.py" 223],#[]⟩) ::
 (nat_lit 39,⟨.type "function",none,.func (fnOf "turn_of" "turn_of" (zO (top 8)) (zQ (top 8)) (zX (top 8)) (.none) (.none) (.none) (.str "curveyard.turns" 187) none (.ref 38) (.none)),#[]⟩) ::
 (nat_lit 43,⟨.type "code",none,.fields #[.str "corner_text" 225,.str "corner_text" 226,.str "/claim/cut.py" 227,.int 21 0,.int 1 0,.int 0 0,.int 0 0,.int 3 0,.ref 40,.bool true,.int 181 0,.ref 41,.none,.none,.none,.ref 42,.int 228 0,.int 21 0,.str "/claim/cut.py" 229],#[]⟩) ::
 (nat_lit 44,⟨.type "function",none,.func (fnOf "corner_text" "corner_text" (zO (top 9)) (zQ (top 9)) (zX (top 9)) (.none) (.none) (.none) (.str "curveyard.turns" 187) none (.ref 43) (.none)),#[]⟩) ::
 (nat_lit 48,⟨.type "code",none,.fields #[.str "corner_of" 231,.str "corner_of" 232,.str "/claim/cut.py" 233,.int 23 0,.int 2 0,.int 0 0,.int 0 0,.int 3 0,.ref 45,.bool true,.int 181 0,.ref 46,.none,.none,.none,.ref 47,.int 234 0,.int 23 0,.str "/claim/cut.py" 235],#[]⟩) ::
 (nat_lit 49,⟨.type "function",none,.func (fnOf "corner_of" "corner_of" (zO (top 10)) (zQ (top 10)) (zX (top 10)) (.none) (.none) (.none) (.str "curveyard.turns" 187) none (.ref 48) (.none)),#[]⟩) ::
 (nat_lit 62,⟨.type "code",none,.fields #[.str "__init__" 251,.str "Part.__init__" 252,.str "/claim/cut.py" 253,.int 31 0,.int 4 0,.int 0 0,.int 0 0,.int 3 0,.ref 57,.bool true,.int 181 0,.ref 58,.none,.ref 59,.ref 60,.ref 61,.int 258 0,.int 31 0,.str "/claim/cut.py" 259],#[]⟩) ::
 (nat_lit 63,⟨.type "function",none,.func (fnOf "__init__" "Part.__init__" (zO (vP (top 12) 0)) (zQ (vP (top 12) 0)) (zX (vP (top 12) 0)) (.none) (.none) (.none) (.str "curveyard.curves" 237) none (.ref 62) (.none)),#[]⟩) ::
 (nat_lit 65,⟨.type "dict",none,.dict #[⟨keyHash P "__module__",.str "__module__" 246,.str "curveyard.curves" 237⟩,⟨keyHash P "__firstlineno__",.str "__firstlineno__" 250,.int 29 249⟩,⟨keyHash P "__init__",.str "__init__" 260,.ref 63⟩,⟨keyHash P "__static_attributes__",.str "__static_attributes__" 264,.ref 64⟩,⟨keyHash P "__dict__",.str "__dict__" 266,.ref 67⟩,⟨keyHash P "__weakref__",.str "__weakref__" 268,.ref 68⟩,⟨keyHash P "__doc__",.str "__doc__" 269,.none⟩] 4,#[]⟩) ::
 (nat_lit 66,⟨.type "type",none,.cls { name:="Part",bases:=[.type "object"],mro:=[.ref 66,.type "object"],ns:=65,qualname:="Part",hasDict:=true,slotNames:=[],subclasses:=[],abstract:=false,collection:=none,hasDel:=false },#[none,none,some (.str "Part" 239),some (.str "Part" 247),some (.builtin "object.__new__"),some (.bool true)]⟩) ::
 (nat_lit 67,⟨.type "getset_descriptor",none,.fields #[.str "__dict__" 265,.ref 66,.builtin "function.__dict__",.builtin "function.__dict__#set"],#[]⟩) ::
 (nat_lit 68,⟨.type "getset_descriptor",none,.fields #[.str "__weakref__" 267,.ref 66,.builtin "ExceptionGroup.__weakref__",.none],#[]⟩) ::
 (nat_lit 83,⟨.type "code",none,.fields #[.str "__init__" 284,.str "Curve.__init__" 285,.str "/claim/cut.py" 286,.int 37 0,.int 5 0,.int 0 0,.int 0 0,.int 3 0,.ref 78,.bool true,.int 181 0,.ref 79,.none,.ref 80,.ref 81,.ref 82,.int 292 0,.int 37 0,.str "/claim/cut.py" 293],#[]⟩) ::
 (nat_lit 84,⟨.type "function",none,.func (fnOf "__init__" "Curve.__init__" (zO (vP (top 13) 0)) (zQ (vP (top 13) 0)) (zX (vP (top 13) 0)) (.none) (.none) (.none) (.str "curveyard.curves" 237) none (.ref 83) (.none)),#[]⟩) ::
 (nat_lit 86,⟨.type "dict",none,.dict #[⟨keyHash P "__module__",.str "__module__" 279,.str "curveyard.curves" 237⟩,⟨keyHash P "__firstlineno__",.str "__firstlineno__" 283,.int 35 282⟩,⟨keyHash P "__init__",.str "__init__" 294,.ref 84⟩,⟨keyHash P "__static_attributes__",.str "__static_attributes__" 299,.ref 85⟩,⟨keyHash P "__dict__",.str "__dict__" 301,.ref 88⟩,⟨keyHash P "__weakref__",.str "__weakref__" 303,.ref 89⟩,⟨keyHash P "__doc__",.str "__doc__" 304,.none⟩] 4,#[]⟩) ::
 (nat_lit 87,⟨.type "type",none,.cls { name:="Curve",bases:=[.type "object"],mro:=[.ref 87,.type "object"],ns:=86,qualname:="Curve",hasDict:=true,slotNames:=[],subclasses:=[],abstract:=false,collection:=none,hasDel:=false },#[none,none,some (.str "Curve" 272),some (.str "Curve" 280),some (.builtin "object.__new__"),some (.bool true)]⟩) ::
 (nat_lit 88,⟨.type "getset_descriptor",none,.fields #[.str "__dict__" 300,.ref 87,.builtin "function.__dict__",.builtin "function.__dict__#set"],#[]⟩) ::
 (nat_lit 89,⟨.type "getset_descriptor",none,.fields #[.str "__weakref__" 302,.ref 87,.builtin "ExceptionGroup.__weakref__",.none],#[]⟩) ::
 (nat_lit 97,⟨.type "code",none,.fields #[.str "first_state" 307,.str "first_state" 308,.str "/claim/cut.py" 309,.int 42 0,.int 1 0,.int 0 0,.int 0 0,.int 3 0,.ref 92,.bool true,.int 181 0,.ref 93,.none,.ref 94,.ref 95,.ref 96,.int 311 0,.int 42 0,.str "/claim/cut.py" 312],#[]⟩) ::
 (nat_lit 98,⟨.type "function",none,.func (fnOf "first_state" "first_state" (zO (top 14)) (zQ (top 14)) (zX (top 14)) (.none) (.none) (.none) (.str "curveyard.curves" 237) none (.ref 97) (.none)),#[]⟩) ::
 (nat_lit 104,⟨.type "code",none,.fields #[.str "part_at" 314,.str "part_at" 315,.str "/claim/cut.py" 316,.int 44 0,.int 3 0,.int 0 0,.int 0 0,.int 3 0,.ref 99,.bool true,.int 181 0,.ref 100,.none,.ref 101,.ref 102,.ref 103,.int 324 0,.int 44 0,.str "/claim/cut.py" 325],#[]⟩) ::
 (nat_lit 105,⟨.type "function",none,.func (fnOf "part_at" "part_at" (zO (top 15)) (zQ (top 15)) (zX (top 15)) (.none) (.none) (.none) (.str "curveyard.curves" 237) none (.ref 104) (.none)),#[]⟩) ::
 (nat_lit 111,⟨.type "code",none,.fields #[.str "walked" 327,.str "walked" 328,.str "/claim/cut.py" 329,.int 49 0,.int 3 0,.int 0 0,.int 0 0,.int 3 0,.ref 106,.bool true,.int 181 0,.ref 107,.none,.ref 108,.ref 109,.ref 110,.int 333 0,.int 49 0,.str "/claim/cut.py" 334],#[]⟩) ::
 (nat_lit 112,⟨.type "function",none,.func (fnOf "walked" "walked" (zO (top 16)) (zQ (top 16)) (zX (top 16)) (.none) (.none) (.none) (.str "curveyard.curves" 237) none (.ref 111) (.none)),#[]⟩) ::
 (nat_lit 121,⟨.type "dict",none,.dict #[⟨keyHash P "__module__",.str "__module__" 345,.str "curveyard.errors" 336⟩,⟨keyHash P "__firstlineno__",.str "__firstlineno__" 349,.int 52 348⟩,⟨keyHash P "__static_attributes__",.str "__static_attributes__" 350,.ref 120⟩,⟨keyHash P "__weakref__",.str "__weakref__" 352,.ref 123⟩,⟨keyHash P "__doc__",.str "__doc__" 353,.none⟩] 3,#[]⟩) ::
 (nat_lit 122,⟨.type "type",none,.cls { name:="YardError",bases:=[.type "ValueError"],mro:=[.ref 122,.type "ValueError",.type "Exception",.type "BaseException",.type "object"],ns:=121,qualname:="YardError",hasDict:=true,slotNames:=[],subclasses:=[.ref 142,.ref 185],abstract:=false,collection:=none,hasDel:=false },#[some (.ref 113),none,some (.str "YardError" 338),some (.str "YardError" 346),some (.builtin "ValueError.__new__"),some (.bool true)]⟩) ::
 (nat_lit 123,⟨.type "getset_descriptor",none,.fields #[.str "__weakref__" 351,.ref 122,.builtin "ExceptionGroup.__weakref__",.none],#[]⟩) ::
 (nat_lit 138,⟨.type "code",none,.fields #[.str "__init__" 368,.str "TextError.__init__" 369,.str "/claim/cut.py" 370,.int 56 0,.int 2 0,.int 0 0,.int 0 0,.int 3 0,.ref 133,.bool true,.int 181 0,.ref 134,.none,.ref 135,.ref 136,.ref 137,.int 373 0,.int 56 0,.str "/claim/cut.py" 374],#[]⟩) ::
 (nat_lit 139,⟨.type "function",none,.func (fnOf "__init__" "TextError.__init__" (zO (vP (top 19) 0)) (zQ (vP (top 19) 0)) (zX (vP (top 19) 0)) (.none) (.none) (.none) (.str "curveyard.errors" 336) none (.ref 138) (.none)),#[]⟩) ::
 (nat_lit 141,⟨.type "dict",none,.dict #[⟨keyHash P "__module__",.str "__module__" 363,.str "curveyard.errors" 336⟩,⟨keyHash P "__firstlineno__",.str "__firstlineno__" 367,.int 54 366⟩,⟨keyHash P "__init__",.str "__init__" 375,.ref 139⟩,⟨keyHash P "__static_attributes__",.str "__static_attributes__" 377,.ref 140⟩,⟨keyHash P "__doc__",.str "__doc__" 378,.none⟩] 2,#[]⟩) ::
 (nat_lit 142,⟨.type "type",none,.cls { name:="TextError",bases:=[.ref 122],mro:=[.ref 142,.ref 122,.type "ValueError",.type "Exception",.type "BaseException",.type "object"],ns:=141,qualname:="TextError",hasDict:=true,slotNames:=[],subclasses:=[.ref 154,.ref 166],abstract:=false,collection:=none,hasDel:=false },#[some (.ref 126),none,some (.str "TextError" 356),some (.str "TextError" 364),some (.builtin "ValueError.__new__"),some (.bool true)]⟩) ::
 (nat_lit 153,⟨.type "dict",none,.dict #[⟨keyHash P "__module__",.str "__module__" 388,.str "curveyard.errors" 336⟩,⟨keyHash P "__firstlineno__",.str "__firstlineno__" 392,.int 58 391⟩,⟨keyHash P "__static_attributes__",.str "__static_attributes__" 393,.ref 152⟩,⟨keyHash P "__doc__",.str "__doc__" 394,.none⟩] 2,#[]⟩) ::
 (nat_lit 154,⟨.type "type",none,.cls { name:="BadRow",bases:=[.ref 142],mro:=[.ref 154,.ref 142,.ref 122,.type "ValueError",.type "Exception",.type "BaseException",.type "object"],ns:=153,qualname:="BadRow",hasDict:=true,slotNames:=[],subclasses:=[],abstract:=false,collection:=none,hasDel:=false },#[some (.ref 145),none,some (.str "BadRow" 381),some (.str "BadRow" 389),some (.builtin "ValueError.__new__"),some (.bool true)]⟩) ::
 (nat_lit 165,⟨.type "dict",none,.dict #[⟨keyHash P "__module__",.str "__module__" 404,.str "curveyard.errors" 336⟩,⟨keyHash P "__firstlineno__",.str "__firstlineno__" 408,.int 60 407⟩,⟨keyHash P "__static_attributes__",.str "__static_attributes__" 409,.ref 164⟩,⟨keyHash P "__doc__",.str "__doc__" 410,.none⟩] 2,#[]⟩) ::
 (nat_lit 166,⟨.type "type",none,.cls { name:="CornerTwice",bases:=[.ref 142],mro:=[.ref 166,.ref 142,.ref 122,.type "ValueError",.type "Exception",.type "BaseException",.type "object"],ns:=165,qualname:="CornerTwice",hasDict:=true,slotNames:=[],subclasses:=[],abstract:=false,collection:=none,hasDel:=false },#[some (.ref 157),none,some (.str "CornerTwice" 397),some (.str "CornerTwice" 405),some (.builtin "ValueError.__new__"),some (.bool true)]⟩) ::
 (nat_lit 181,⟨.type "code",none,.fields #[.str "__init__" 425,.str "Unmet.__init__" 426,.str "/claim/cut.py" 427,.int 64 0,.int 4 0,.int 0 0,.int 0 0,.int 3 0,.ref 176,.bool true,.int 181 0,.ref 177,.none,.ref 178,.ref 179,.ref 180,.int 432 0,.int 64 0,.str "/claim/cut.py" 433],#[]⟩) ::
 (nat_lit 182,⟨.type "function",none,.func (fnOf "__init__" "Unmet.__init__" (zO (vP (top 22) 0)) (zQ (vP (top 22) 0)) (zX (vP (top 22) 0)) (.none) (.none) (.none) (.str "curveyard.errors" 336) none (.ref 181) (.none)),#[]⟩) ::
 (nat_lit 184,⟨.type "dict",none,.dict #[⟨keyHash P "__module__",.str "__module__" 420,.str "curveyard.errors" 336⟩,⟨keyHash P "__firstlineno__",.str "__firstlineno__" 424,.int 62 423⟩,⟨keyHash P "__init__",.str "__init__" 434,.ref 182⟩,⟨keyHash P "__static_attributes__",.str "__static_attributes__" 438,.ref 183⟩,⟨keyHash P "__doc__",.str "__doc__" 439,.none⟩] 2,#[]⟩) ::
 (nat_lit 185,⟨.type "type",none,.cls { name:="Unmet",bases:=[.ref 122],mro:=[.ref 185,.ref 122,.type "ValueError",.type "Exception",.type "BaseException",.type "object"],ns:=184,qualname:="Unmet",hasDict:=true,slotNames:=[],subclasses:=[],abstract:=false,collection:=none,hasDel:=false },#[some (.ref 169),none,some (.str "Unmet" 413),some (.str "Unmet" 421),some (.builtin "ValueError.__new__"),some (.bool true)]⟩) ::
 (nat_lit 193,⟨.type "code",none,.fields #[.str "is_word" 448,.str "is_word" 449,.str "/claim/cut.py" 450,.int 71 0,.int 1 0,.int 0 0,.int 0 0,.int 3 0,.ref 188,.bool true,.int 181 0,.ref 189,.none,.ref 190,.ref 191,.ref 192,.int 452 0,.int 71 0,.str "/claim/cut.py" 453],#[]⟩) ::
 (nat_lit 194,⟨.type "function",none,.func (fnOf "is_word" "is_word" (zO (top 26)) (zQ (top 26)) (zX (top 26)) (.none) (.none) (.none) (.str "curveyard.figures" 442) none (.ref 193) (.none)),#[]⟩) ::
 (nat_lit 198,⟨.type "code",none,.fields #[.str "is_made_of" 455,.str "is_made_of" 456,.str "/claim/cut.py" 457,.int 73 0,.int 3 0,.int 0 0,.int 0 0,.int 3 0,.ref 195,.bool true,.int 181 0,.ref 196,.none,.none,.none,.ref 197,.int 458 0,.int 73 0,.str "/claim/cut.py" 459],#[]⟩) ::
 (nat_lit 199,⟨.type "function",none,.func (fnOf "is_made_of" "is_made_of" (zO (top 27)) (zQ (top 27)) (zX (top 27)) (.none) (.none) (.none) (.str "curveyard.figures" 442) none (.ref 198) (.none)),#[]⟩) ::
 (nat_lit 205,⟨.type "code",none,.fields #[.str "full" 463,.str "full" 464,.str "/claim/cut.py" 465,.int 76 0,.int 2 0,.int 0 0,.int 0 0,.int 3 0,.ref 200,.bool true,.int 181 0,.ref 201,.none,.ref 202,.ref 203,.ref 204,.int 470 0,.int 76 0,.str "/claim/cut.py" 471],#[]⟩) ::
 (nat_lit 206,⟨.type "function",none,.func (fnOf "full" "full" (zO (top 29)) (zQ (top 29)) (zX (top 29)) (.none) (.none) (.none) (.str "curveyard.numbering" 461) none (.ref 205) (.none)),#[]⟩) ::
 (nat_lit 210,⟨.type "code",none,.fields #[.str "deeper" 473,.str "deeper" 474,.str "/claim/cut.py" 475,.int 81 0,.int 2 0,.int 0 0,.int 0 0,.int 3 0,.ref 207,.bool true,.int 181 0,.ref 208,.none,.none,.none,.ref 209,.int 476 0,.int 81 0,.str "/claim/cut.py" 477],#[]⟩) ::
 (nat_lit 211,⟨.type "function",none,.func (fnOf "deeper" "deeper" (zO (top 30)) (zQ (top 30)) (zX (top 30)) (.none) (.none) (.none) (.str "curveyard.numbering" 461) none (.ref 210) (.none)),#[]⟩) ::
 (nat_lit 215,⟨.type "code",none,.fields #[.str "next_to" 479,.str "next_to" 480,.str "/claim/cut.py" 481,.int 83 0,.int 2 0,.int 0 0,.int 0 0,.int 3 0,.ref 212,.bool true,.int 181 0,.ref 213,.none,.none,.none,.ref 214,.int 482 0,.int 83 0,.str "/claim/cut.py" 483],#[]⟩) ::
 (nat_lit 216,⟨.type "function",none,.func (fnOf "next_to" "next_to" (zO (top 31)) (zQ (top 31)) (zX (top 31)) (.none) (.none) (.none) (.str "curveyard.numbering" 461) none (.ref 215) (.none)),#[]⟩) ::
 (nat_lit 222,⟨.type "code",none,.fields #[.str "unmet_at" 487,.str "unmet_at" 488,.str "/claim/cut.py" 489,.int 86 0,.int 2 0,.int 0 0,.int 0 0,.int 3 0,.ref 217,.bool true,.int 181 0,.ref 218,.none,.ref 219,.ref 220,.ref 221,.int 500 0,.int 86 0,.str "/claim/cut.py" 501],#[]⟩) ::
 (nat_lit 223,⟨.type "function",none,.func (fnOf "unmet_at" "unmet_at" (zO (top 33)) (zQ (top 33)) (zX (top 33)) (.none) (.none) (.none) (.str "curveyard.fitting" 485) none (.ref 222) (.none)),#[]⟩) ::
 (nat_lit 227,⟨.type "code",none,.fields #[.str "meeting_of" 503,.str "meeting_of" 504,.str "/claim/cut.py" 505,.int 102 0,.int 1 0,.int 0 0,.int 0 0,.int 3 0,.ref 224,.bool true,.int 181 0,.ref 225,.none,.none,.none,.ref 226,.int 506 0,.int 102 0,.str "/claim/cut.py" 507],#[]⟩) ::
 (nat_lit 228,⟨.type "function",none,.func (fnOf "meeting_of" "meeting_of" (zO (top 34)) (zQ (top 34)) (zX (top 34)) (.none) (.none) (.none) (.str "curveyard.fitting" 485) none (.ref 227) (.none)),#[]⟩) ::
 (nat_lit 229,⟨.type "dict",none,.dict #[⟨keyHash P "joined",.str "joined" 511,.bool true⟩,⟨keyHash P "loose",.str "loose" 512,.bool false⟩] 2,#[]⟩) ::
 (nat_lit 230,⟨.type "dict",none,.dict #[⟨keyHash P "2",.str "2" 516,.int 2 517⟩,⟨keyHash P "3",.str "3" 518,.int 3 519⟩] 2,#[]⟩) ::
 (nat_lit 236,⟨.type "code",none,.fields #[.str "curve_text" 523,.str "curve_text" 524,.str "/claim/cut.py" 525,.int 111 0,.int 1 0,.int 0 0,.int 0 0,.int 3 0,.ref 231,.bool true,.int 181 0,.ref 232,.none,.ref 233,.ref 234,.ref 235,.int 527 0,.int 111 0,.str "/claim/cut.py" 528],#[]⟩) ::
 (nat_lit 237,⟨.type "function",none,.func (fnOf "curve_text" "curve_text" (zO (top 38)) (zQ (top 38)) (zX (top 38)) (.none) (.none) (.none) (.str "curveyard.curvetext" 509) none (.ref 236) (.none)),#[]⟩) ::
 (nat_lit 241,⟨.type "code",none,.fields #[.str "curve_rows" 530,.str "curve_rows" 531,.str "/claim/cut.py" 532,.int 113 0,.int 1 0,.int 0 0,.int 0 0,.int 3 0,.ref 238,.bool true,.int 181 0,.ref 239,.none,.none,.none,.ref 240,.int 533 0,.int 113 0,.str "/claim/cut.py" 534],#[]⟩) ::
 (nat_lit 242,⟨.type "function",none,.func (fnOf "curve_rows" "curve_rows" (zO (top 39)) (zQ (top 39)) (zX (top 39)) (.none) (.none) (.none) (.str "curveyard.curvetext" 509) none (.ref 241) (.none)),#[]⟩) ::
 (nat_lit 248,⟨.type "code",none,.fields #[.str "part_row" 536,.str "part_row" 537,.str "/claim/cut.py" 538,.int 117 0,.int 1 0,.int 0 0,.int 0 0,.int 3 0,.ref 243,.bool true,.int 181 0,.ref 244,.none,.ref 245,.ref 246,.ref 247,.int 541 0,.int 117 0,.str "/claim/cut.py" 542],#[]⟩) ::
 (nat_lit 249,⟨.type "function",none,.func (fnOf "part_row" "part_row" (zO (top 40)) (zQ (top 40)) (zX (top 40)) (.none) (.none) (.none) (.str "curveyard.curvetext" 509) none (.ref 248) (.none)),#[]⟩) ::
 (nat_lit 255,⟨.type "code",none,.fields #[.str "curve_of" 544,.str "curve_of" 545,.str "/claim/cut.py" 546,.int 122 0,.int 1 0,.int 0 0,.int 0 0,.int 3 0,.ref 250,.bool true,.int 181 0,.ref 251,.none,.ref 252,.ref 253,.ref 254,.int 551 0,.int 122 0,.str "/claim/cut.py" 552],#[]⟩) ::
 (nat_lit 256,⟨.type "function",none,.func (fnOf "curve_of" "curve_of" (zO (top 41)) (zQ (top 41)) (zX (top 41)) (.none) (.none) (.none) (.str "curveyard.curvetext" 509) none (.ref 255) (.none)),#[]⟩) ::
 (nat_lit 262,⟨.type "code",none,.fields #[.str "curve_from" 554,.str "curve_from" 555,.str "/claim/cut.py" 556,.int 129 0,.int 1 0,.int 0 0,.int 0 0,.int 3 0,.ref 257,.bool true,.int 181 0,.ref 258,.none,.ref 259,.ref 260,.ref 261,.int 565 0,.int 129 0,.str "/claim/cut.py" 566],#[]⟩) ::
 (nat_lit 263,⟨.type "function",none,.func (fnOf "curve_from" "curve_from" (zO (top 42)) (zQ (top 42)) (zX (top 42)) (.none) (.none) (.none) (.str "curveyard.curvetext" 509) none (.ref 262) (.none)),#[]⟩) ::
 (nat_lit 269,⟨.type "code",none,.fields #[.str "words_at" 568,.str "words_at" 569,.str "/claim/cut.py" 570,.int 140 0,.int 2 0,.int 0 0,.int 0 0,.int 3 0,.ref 264,.bool true,.int 181 0,.ref 265,.none,.ref 266,.ref 267,.ref 268,.int 573 0,.int 140 0,.str "/claim/cut.py" 574],#[]⟩) ::
 (nat_lit 270,⟨.type "function",none,.func (fnOf "words_at" "words_at" (zO (top 43)) (zQ (top 43)) (zX (top 43)) (.none) (.none) (.none) (.str "curveyard.curvetext" 509) none (.ref 269) (.none)),#[]⟩) ::
 (nat_lit 276,⟨.type "code",none,.fields #[.str "read_head" 576,.str "read_head" 577,.str "/claim/cut.py" 578,.int 144 0,.int 1 0,.int 0 0,.int 0 0,.int 3 0,.ref 271,.bool true,.int 181 0,.ref 272,.none,.ref 273,.ref 274,.ref 275,.int 580 0,.int 144 0,.str "/claim/cut.py" 581],#[]⟩) ::
 (nat_lit 277,⟨.type "function",none,.func (fnOf "read_head" "read_head" (zO (top 44)) (zQ (top 44)) (zX (top 44)) (.none) (.none) (.none) (.str "curveyard.curvetext" 509) none (.ref 276) (.none)),#[]⟩) ::
 (nat_lit 283,⟨.type "code",none,.fields #[.str "read_part" 583,.str "read_part" 584,.str "/claim/cut.py" 585,.int 150 0,.int 3 0,.int 0 0,.int 0 0,.int 3 0,.ref 278,.bool true,.int 181 0,.ref 279,.none,.ref 280,.ref 281,.ref 282,.int 592 0,.int 150 0,.str "/claim/cut.py" 593],#[]⟩) ::
 (nat_lit 284,⟨.type "function",none,.func (fnOf "read_part" "read_part" (zO (top 45)) (zQ (top 45)) (zX (top 45)) (.none) (.none) (.none) (.str "curveyard.curvetext" 509) none (.ref 283) (.none)),#[]⟩) ::
 (nat_lit 290,⟨.type "code",none,.fields #[.str "fitted" 595,.str "fitted" 596,.str "/claim/cut.py" 597,.int 159 0,.int 1 0,.int 0 0,.int 0 0,.int 3 0,.ref 285,.bool true,.int 181 0,.ref 286,.none,.ref 287,.ref 288,.ref 289,.int 602 0,.int 159 0,.str "/claim/cut.py" 603],#[]⟩) ::
 (nat_lit 291,⟨.type "function",none,.func (fnOf "fitted" "fitted" (zO (top 46)) (zQ (top 46)) (zX (top 46)) (.none) (.none) (.none) (.str "curveyard.curvetext" 509) none (.ref 290) (.none)),#[]⟩) ::
 (nat_lit 297,⟨.type "code",none,.fields #[.str "_law_mix" 607,.str "_law_mix" 608,.str "/claim/cut.py" 609,.int 166 0,.int 2 0,.int 0 0,.int 0 0,.int 3 0,.ref 292,.bool true,.int 181 0,.ref 293,.none,.ref 294,.ref 295,.ref 296,.int 613 0,.int 166 0,.str "/claim/cut.py" 614],#[]⟩) ::
 (nat_lit 298,⟨.type "function",none,.func (fnOf "_law_mix" "_law_mix" (zO (top 48)) (zQ (top 48)) (zX (top 48)) (.none) (.none) (.none) (.str "law_curveyard_k08_curves_written_and_read" 605) none (.ref 297) (.none)),#[]⟩) ::
 (nat_lit 304,⟨.type "code",none,.fields #[.str "_law_same" 616,.str "_law_same" 617,.str "/claim/cut.py" 618,.int 169 0,.int 2 0,.int 0 0,.int 0 0,.int 3 0,.ref 299,.bool true,.int 181 0,.ref 300,.none,.ref 301,.ref 302,.ref 303,.int 622 0,.int 169 0,.str "/claim/cut.py" 623],#[]⟩) ::
 (nat_lit 305,⟨.type "function",none,.func (fnOf "_law_same" "_law_same" (zO (top 49)) (zQ (top 49)) (zX (top 49)) (.none) (.none) (.none) (.str "law_curveyard_k08_curves_written_and_read" 605) none (.ref 304) (.none)),#[]⟩) ::
 (nat_lit 309,⟨.type "code",none,.fields #[.str "_law_turned" 625,.str "_law_turned" 626,.str "/claim/cut.py" 627,.int 190 0,.int 2 0,.int 0 0,.int 0 0,.int 3 0,.ref 306,.bool true,.int 181 0,.ref 307,.none,.none,.none,.ref 308,.int 628 0,.int 190 0,.str "/claim/cut.py" 629],#[]⟩) ::
 (nat_lit 310,⟨.type "function",none,.func (fnOf "_law_turned" "_law_turned" (zO (top 50)) (zQ (top 50)) (zX (top 50)) (.none) (.none) (.none) (.str "law_curveyard_k08_curves_written_and_read" 605) none (.ref 309) (.none)),#[]⟩) ::
 (nat_lit 314,⟨.type "code",none,.fields #[.str "_law_after" 631,.str "_law_after" 632,.str "/claim/cut.py" 633,.int 192 0,.int 2 0,.int 0 0,.int 0 0,.int 3 0,.ref 311,.bool true,.int 181 0,.ref 312,.none,.none,.none,.ref 313,.int 634 0,.int 192 0,.str "/claim/cut.py" 635],#[]⟩) ::
 (nat_lit 315,⟨.type "function",none,.func (fnOf "_law_after" "_law_after" (zO (top 51)) (zQ (top 51)) (zX (top 51)) (.none) (.none) (.none) (.str "law_curveyard_k08_curves_written_and_read" 605) none (.ref 314) (.none)),#[]⟩) ::
 (nat_lit 321,⟨.type "code",none,.fields #[.str "_law_undone" 637,.str "_law_undone" 638,.str "/claim/cut.py" 639,.int 194 0,.int 1 0,.int 0 0,.int 0 0,.int 3 0,.ref 316,.bool true,.int 181 0,.ref 317,.none,.ref 318,.ref 319,.ref 320,.int 643 0,.int 194 0,.str "/claim/cut.py" 644],#[]⟩) ::
 (nat_lit 322,⟨.type "function",none,.func (fnOf "_law_undone" "_law_undone" (zO (top 52)) (zQ (top 52)) (zX (top 52)) (.none) (.none) (.none) (.str "law_curveyard_k08_curves_written_and_read" 605) none (.ref 321) (.none)),#[]⟩) ::
 (nat_lit 326,⟨.type "code",none,.fields #[.str "_law_turn" 646,.str "_law_turn" 647,.str "/claim/cut.py" 648,.int 199 0,.int 2 0,.int 0 0,.int 0 0,.int 3 0,.ref 323,.bool true,.int 181 0,.ref 324,.none,.none,.none,.ref 325,.int 649 0,.int 199 0,.str "/claim/cut.py" 650],#[]⟩) ::
 (nat_lit 327,⟨.type "function",none,.func (fnOf "_law_turn" "_law_turn" (zO (top 53)) (zQ (top 53)) (zX (top 53)) (.none) (.none) (.none) (.str "law_curveyard_k08_curves_written_and_read" 605) none (.ref 326) (.none)),#[]⟩) ::
 (nat_lit 333,⟨.type "code",none,.fields #[.str "_law_base" 652,.str "_law_base" 653,.str "/claim/cut.py" 654,.int 206 0,.int 1 0,.int 0 0,.int 0 0,.int 3 0,.ref 328,.bool true,.int 181 0,.ref 329,.none,.ref 330,.ref 331,.ref 332,.int 658 0,.int 206 0,.str "/claim/cut.py" 659],#[]⟩) ::
 (nat_lit 334,⟨.type "function",none,.func (fnOf "_law_base" "_law_base" (zO (top 54)) (zQ (top 54)) (zX (top 54)) (.none) (.none) (.none) (.str "law_curveyard_k08_curves_written_and_read" 605) none (.ref 333) (.none)),#[]⟩) ::
 (nat_lit 338,⟨.type "code",none,.fields #[.str "_law_joined" 661,.str "_law_joined" 662,.str "/claim/cut.py" 663,.int 216 0,.int 2 0,.int 0 0,.int 0 0,.int 3 0,.ref 335,.bool true,.int 181 0,.ref 336,.none,.none,.none,.ref 337,.int 664 0,.int 216 0,.str "/claim/cut.py" 665],#[]⟩) ::
 (nat_lit 339,⟨.type "function",none,.func (fnOf "_law_joined" "_law_joined" (zO (top 55)) (zQ (top 55)) (zX (top 55)) (.none) (.none) (.none) (.str "law_curveyard_k08_curves_written_and_read" 605) none (.ref 338) (.none)),#[]⟩) ::
 (nat_lit 343,⟨.type "code",none,.fields #[.str "_law_corners" 667,.str "_law_corners" 668,.str "/claim/cut.py" 669,.int 232 0,.int 1 0,.int 0 0,.int 0 0,.int 3 0,.ref 340,.bool true,.int 181 0,.ref 341,.none,.none,.none,.ref 342,.int 670 0,.int 232 0,.str "/claim/cut.py" 671],#[]⟩) ::
 (nat_lit 344,⟨.type "function",none,.func (fnOf "_law_corners" "_law_corners" (zO (top 56)) (zQ (top 56)) (zX (top 56)) (.none) (.none) (.none) (.str "law_curveyard_k08_curves_written_and_read" 605) none (.ref 343) (.none)),#[]⟩) ::
 (nat_lit 350,⟨.type "code",none,.fields #[.str "_law_loose" 673,.str "_law_loose" 674,.str "/claim/cut.py" 675,.int 237 0,.int 2 0,.int 0 0,.int 0 0,.int 3 0,.ref 345,.bool true,.int 181 0,.ref 346,.none,.ref 347,.ref 348,.ref 349,.int 682 0,.int 237 0,.str "/claim/cut.py" 683],#[]⟩) ::
 (nat_lit 351,⟨.type "function",none,.func (fnOf "_law_loose" "_law_loose" (zO (top 57)) (zQ (top 57)) (zX (top 57)) (.none) (.none) (.none) (.str "law_curveyard_k08_curves_written_and_read" 605) none (.ref 350) (.none)),#[]⟩) ::
 (nat_lit 355,⟨.type "code",none,.fields #[.str "_law_word" 685,.str "_law_word" 686,.str "/claim/cut.py" 687,.int 245 0,.int 1 0,.int 0 0,.int 0 0,.int 3 0,.ref 352,.bool true,.int 181 0,.ref 353,.none,.none,.none,.ref 354,.int 688 0,.int 245 0,.str "/claim/cut.py" 689],#[]⟩) ::
 (nat_lit 356,⟨.type "function",none,.func (fnOf "_law_word" "_law_word" (zO (top 58)) (zQ (top 58)) (zX (top 58)) (.none) (.none) (.none) (.str "law_curveyard_k08_curves_written_and_read" 605) none (.ref 355) (.none)),#[]⟩) ::
 (nat_lit 360,⟨.type "code",none,.fields #[.str "_law_rows" 691,.str "_law_rows" 692,.str "/claim/cut.py" 693,.int 249 0,.int 4 0,.int 0 0,.int 0 0,.int 3 0,.ref 357,.bool true,.int 181 0,.ref 358,.none,.none,.none,.ref 359,.int 694 0,.int 249 0,.str "/claim/cut.py" 695],#[]⟩) ::
 (nat_lit 361,⟨.type "function",none,.func (fnOf "_law_rows" "_law_rows" (zO (top 59)) (zQ (top 59)) (zX (top 59)) (.none) (.none) (.none) (.str "law_curveyard_k08_curves_written_and_read" 605) none (.ref 360) (.none)),#[]⟩) ::
 (nat_lit 365,⟨.type "code",none,.fields #[.str "_law_alike" 697,.str "_law_alike" 698,.str "/claim/cut.py" 699,.int 258 0,.int 5 0,.int 0 0,.int 0 0,.int 3 0,.ref 362,.bool true,.int 181 0,.ref 363,.none,.none,.none,.ref 364,.int 700 0,.int 258 0,.str "/claim/cut.py" 701],#[]⟩) ::
 (nat_lit 366,⟨.type "function",none,.func (fnOf "_law_alike" "_law_alike" (zO (top 60)) (zQ (top 60)) (zX (top 60)) (.none) (.none) (.none) (.str "law_curveyard_k08_curves_written_and_read" 605) none (.ref 365) (.none)),#[]⟩) ::
 (nat_lit 370,⟨.type "code",none,.fields #[.str "law" 703,.str "law" 704,.str "/claim/cut.py" 705,.int 261 0,.int 1 0,.int 0 0,.int 0 0,.int 3 0,.ref 367,.bool true,.int 181 0,.ref 368,.none,.none,.none,.ref 369,.int 706 0,.int 261 0,.str "/claim/cut.py" 707],#[]⟩) ::
 (nat_lit 371,⟨.type "function",none,.func (fnOf "law" "law" (zO (top 61)) (zQ (top 61)) (zX (top 61)) (.none) (.none) (.none) (.str "law_curveyard_k08_curves_written_and_read" 605) none (.ref 370) (.none)),#[]⟩)::[]
def pP:Program:=view PySem.Challenge.pw_curveyard_k08_curves_written_and_read [61]
def loose:List Str:="BITS"::"FLIPS"::"AXES"::"turned"::"still"::"after"::"turn_text"::"turn_of"::"corner_text"::"corner_of"::"Part"::"Curve"::"first_state"::"part_at"::"walked"::"YardError"::"TextError"::"BadRow"::"CornerTwice"::"Unmet"::"LETTERS"::"LONGEST_WORD"::"is_word"::"is_made_of"::"full"::"deeper"::"next_to"::"unmet_at"::"meeting_of"::"PROMISES"::"DIMS"::"curve_text"::"curve_rows"::"part_row"::"curve_of"::"curve_from"::"words_at"::"read_head"::"read_part"::"fitted"::"_law_mix"::"_law_same"::"_law_turned"::"_law_after"::"_law_undone"::"_law_turn"::"_law_base"::"_law_joined"::"_law_corners"::"_law_loose"::"_law_word"::"_law_rows"::"_law_alike"::[]
def zQJ:List Addr:=nat_lit 3::nat_lit 18::nat_lit 19::nat_lit 23::nat_lit 24::nat_lit 28::nat_lit 29::nat_lit 33::nat_lit 34::nat_lit 38::nat_lit 39::nat_lit 43::nat_lit 44::nat_lit 48::nat_lit 49::nat_lit 62::nat_lit 63::nat_lit 65::nat_lit 66::nat_lit 67::nat_lit 68::nat_lit 83::nat_lit 84::nat_lit 86::nat_lit 87::nat_lit 88::nat_lit 89::nat_lit 97::nat_lit 98::nat_lit 104::nat_lit 105::nat_lit 111::nat_lit 112::nat_lit 121::nat_lit 122::nat_lit 123::nat_lit 138::nat_lit 139::nat_lit 141::nat_lit 142::nat_lit 153::nat_lit 154::nat_lit 165::nat_lit 166::nat_lit 181::nat_lit 182::nat_lit 184::nat_lit 185::nat_lit 193::nat_lit 194::nat_lit 198::nat_lit 199::nat_lit 205::nat_lit 206::nat_lit 210::nat_lit 211::nat_lit 215::nat_lit 216::nat_lit 222::nat_lit 223::nat_lit 227::nat_lit 228::nat_lit 229::nat_lit 230::nat_lit 236::nat_lit 237::nat_lit 241::nat_lit 242::nat_lit 248::nat_lit 249::nat_lit 255::nat_lit 256::nat_lit 262::nat_lit 263::nat_lit 269::nat_lit 270::nat_lit 276::nat_lit 277::nat_lit 283::nat_lit 284::nat_lit 290::nat_lit 291::nat_lit 297::nat_lit 298::nat_lit 304::nat_lit 305::nat_lit 309::nat_lit 310::nat_lit 314::nat_lit 315::nat_lit 321::nat_lit 322::nat_lit 326::nat_lit 327::nat_lit 333::nat_lit 334::nat_lit 338::nat_lit 339::nat_lit 343::nat_lit 344::nat_lit 350::nat_lit 351::nat_lit 355::nat_lit 356::nat_lit 360::nat_lit 361::nat_lit 365::nat_lit 366::nat_lit 370::nat_lit 371::[]
theorem zXn (P:Params):zQJ=(zXa P).map (fun x=>x.1):=by kernel_rfl
abbrev hook:Hook:=kHook zXa zQJ zXn
abbrev zTh (s:Shared):Bool:=xlAt pP [] s&&recOk (RowW.records PySem.Challenge.rw_curveyard_k08_curves_written_and_read.row.toRowW) s
def sH (w:World):Prop:=(openEnds treeTable PySem.Challenge.rw_curveyard_k08_curves_written_and_read.row.prog w 5992).map (fun s=>openSeen pP loose (importedModules PySem.Challenge.rw_curveyard_k08_curves_written_and_read.row.prog.main.body) zTh true s)=some (openGood pP loose)
theorem zWD (w:World):sH (w.withFollow "special-get-raises" false):=by unfold sH;kernel_rfl
theorem zWO (w:World):sH (w.withFollow "special-get-raises" true):=by unfold sH;kernel_rfl
theorem zUc (w:World):(openEnds treeTable PySem.Challenge.rw_curveyard_k08_curves_written_and_read.row.prog w 5992).map (fun s=>openSeen pP loose (importedModules PySem.Challenge.rw_curveyard_k08_curves_written_and_read.row.prog.main.body) zTh true s)=some (openGood pP loose):=byRow2 "special-get-raises" (P:=sH) zWD zWO w
def sL (w:World):Prop:=(openEnds treeTable PySem.Challenge.rw_curveyard_k08_curves_written_and_read.row.prog w 5992).map hook.obs=some (hook.val w)
theorem zWj (w:World):sL (w.withFollow "special-get-raises" false):=by unfold sL;kernel_rfl
theorem zWT (w:World):sL (w.withFollow "special-get-raises" true):=by unfold sL;kernel_rfl
theorem zTp (w:World):(openEnds treeTable PySem.Challenge.rw_curveyard_k08_curves_written_and_read.row.prog w 5992).map hook.obs=some (hook.val w):=byRow2 "special-get-raises" (P:=sL) zWj zWT w
theorem zQT {α β γ:Type}{x:Option α}{f:α->β}{g:α->γ}{a:β}{b:γ}(h1:x.map f=some a)(h2:x.map g=some b):x.map (fun s=>(f s,g s))=some (a,b):=by
 cases x with
 | none=>cases h1
 | some s=>cases h1;cases h2;rfl
theorem zRb:LeftO PySem.Challenge.rw_curveyard_k08_curves_written_and_read.row.prog pP loose zTh hook.obs hook.val 5992:=fun w=>zQT (zUc w) (zTp w)
end My
namespace L2
open PySem PySem.Spec PyProof.Rows
abbrev Key:=Sum Int Str
def zQI:Key->Value->Bool
 | .inl k,v=>Value.isInt k v
 | .inr x,v=>Value.isStrOf x v
def zOd (w:World):Key->Int
 | .inl k=>hashInt k
 | .inr x=>hashStr w x
theorem wL:∀ {k:Key} {v:Value},zQI k v=true->(∃i t,k=Sum.inl i/\v=Value.int i t)∨(∃x t,k=Sum.inr x/\v=Value.str x t)
 | .inl i,v,h=>by
   obtain⟨t,e⟩:=Value.isInt_shape (k:=i) (v:=v) h
   exact .inl ⟨i,t,rfl,e⟩
 | .inr x,v,h=>by
   obtain⟨t,e⟩:=Value.isStrOf_shape (x:=x) (v:=v) h
   exact .inr ⟨x,t,rfl,e⟩
theorem zQ9 (a b:Int):decide ((Sum.inl a:Key)=Sum.inl b)=(a==b):=by
 by_cases e:a=b
 · subst e;simp
 · have h:¬(Sum.inl a:Key)=Sum.inl b:=fun q=>e (Sum.inl.inj q)
   rw[decide_eq_false h]
   exact(beq_eq_false_iff_ne.mpr e).symm
theorem zPF (a b:Str):decide ((Sum.inr a:Key)=Sum.inr b)=decide (a=b):=by
 by_cases e:a=b
 · subst e;simp
 · have h:¬(Sum.inr a:Key)=Sum.inr b:=fun q=>e (Sum.inr.inj q)
   rw[decide_eq_false h,decide_eq_false e]
theorem zQv (a:Int)(b:Str):decide ((Sum.inl a:Key)=Sum.inr b)=false:=decide_eq_false (fun q=>nomatch q)
theorem zPA (a:Str)(b:Int):decide ((Sum.inr a:Key)=Sum.inl b)=false:=decide_eq_false (fun q=>nomatch q)
def zV3 (prog:Program)(w:World):PySem.KeyKind prog w Key where
 is:=zQI
 hash:=zOd w
 inj:=fun v a b ha hb=>by
   rcases wL ha with⟨i,t,rfl,rfl⟩ | ⟨x,t,rfl,rfl⟩
   · rcases wL hb with⟨j,u,rfl,e⟩ | ⟨y,u,rfl,e⟩
     · injection e with e1 _;rw[e1]
     · exact nomatch e
   · rcases wL hb with⟨j,u,rfl,e⟩ | ⟨y,u,rfl,e⟩
     · exact nomatch e
     · injection e with e1 _;rw[e1]
 byValue:=fun k v h=>by
   rcases wL h with⟨i,t,rfl,rfl⟩ | ⟨x,t,rfl,rfl⟩<;>rfl
 pyHash:=fun hv h=>by
   rcases wL hv with⟨i,t,rfl,rfl⟩ | ⟨x,t,rfl,rfl⟩
   · exact wpAny_pyHash_int h
   · exact wpAny_pyHash_str h
 eqBool:=fun hu hv h=>by
   rcases wL hu with⟨i,t,rfl,rfl⟩ | ⟨x,t,rfl,rfl⟩
   · rcases wL hv with⟨j,u,rfl,rfl⟩ | ⟨y,u,rfl,rfl⟩
     · rw[zQ9] at h;exact wpAny_eqBool_int h
     · rw[zQv] at h;exact SeqAt.EqAt.int_str i t y u _ _ _ _ h
   · rcases wL hv with⟨j,u,rfl,rfl⟩ | ⟨y,u,rfl,rfl⟩
     · rw[zPA] at h;exact SeqAt.EqAt.str_int x t j u _ _ _ _ h
     · rw[zPF] at h;exact wpAny_eqBool_str h
 «strs» := fun k x t v h=>by
   rcases wL h with⟨i,u,rfl,e⟩ | ⟨y,u,rfl,e⟩
   · exact nomatch e
   · injection e with e1 _
     subst e1
     cases v<;>rfl
end L2
namespace L2
open PySem PySem.Spec PyProof.Rows
inductive V where
 | non | bl (b:Bool) | int (i:Int) | str (x:Str) | byt (b:Array UInt8) | flt (b:UInt64) | ref (a:Addr) | ty (n:String)
 deriving DecidableEq
def RelV:V->Value->Prop
 | .non,u=>u=Value.none
 | .bl b,u=>u=Value.bool b
 | .int i,u=>∃t,u=Value.int i t
 | .str x,u=>∃t,u=Value.str x t
 | .byt b,u=>∃t,u=Value.bytes b t
 | .flt b,u=>∃t,u=Value.float b t
 | .ref a,u=>u=Value.ref a
 | .ty n,u=>u=Value.type n
abbrev Vals:List V->List Value->Prop:=Paired RelV
theorem Vals.length {xs:List V}{us:List Value}(r:Vals xs us):xs.length=us.length:=Paired.length r
theorem Vals.get:∀ {xs:List V} {us:List Value} {i:Nat} {x:V},Vals xs us->xs[i]?=some x->∃u,us[i]?=some u/\RelV x u
 | _,_,_,_,.nil,e=>by simp at e
 | _,_,0,_,.cons r _,e=>by simp at e;subst e;exact⟨_,rfl,r⟩
 | _,_,i+1,x,.cons _ t,e=>by
   obtain⟨u,h1,h2⟩:=Vals.get (i:=i) (x:=x) t (by simpa using e)
   exact⟨u,by simpa using h1,h2⟩
theorem Vals.set {x:V}{u:Value}(r:RelV x u):∀ {xs:List V} {us:List Value} (i:Nat),Vals xs us->Vals (xs.set i x) (us.set i u)
 | _,_,_,.nil=>.nil
 | _,_,0,.cons _ t=>.cons r t
 | _,_,i+1,.cons q t=>.cons q (Vals.set r i t)
theorem Vals.append:∀ {xs ys:List V} {us ws:List Value},Vals xs us->Vals ys ws->Vals (xs++ys) (us++ws)
 | _,_,_,_,.nil,s=>s
 | _,_,_,_,.cons r t,s=>.cons r (Vals.append t s)
theorem Vals.take:∀ {xs:List V} {us:List Value} (n:Nat),Vals xs us->Vals (xs.take n) (us.take n)
 | _,_,0,_=>.nil
 | _,_,_+1,.nil=>.nil
 | _,_,n+1,.cons r t=>.cons r (Vals.take n t)
theorem Vals.drop:∀ {xs:List V} {us:List Value} (n:Nat),Vals xs us->Vals (xs.drop n) (us.drop n)
 | _,_,0,r=>r
 | _,_,_+1,.nil=>.nil
 | _,_,n+1,.cons _ t=>Vals.drop n t
def RelO:Option V->Option Value->Prop
 | some v,some u=>RelV v u
 | none,none=>True
 | _,_=>False
def KV {κ:Type}:List (κ×V)->List (κ×Value)->Prop:=Paired fun(p:κ×V) (q:κ×Value)=>p.1=q.1/\RelV p.2 q.2
def kV:Key->V
 | .inl i=>.int i
 | .inr x=>.str x
inductive HO where
 /-- a list -/
 | lst (xs:List V)
 /-- a tuple (never changes) -/
 | tup (xs:List V)
 /-- a dict whose keys are ints and texts; one whose keys are tuples of ints and texts (the empty one is both) -/
 | dK (kvs:List (Key×V)) | dT (kvs:List (List Key×V))
 /-- a set of ints: its members, its size -/
 | set (S:Int->Bool) (n:Nat)
 /-- an instance of the class at C, its dict at dx, its attributes -/
 | ins (C dx:Addr) (fs:List (Str×V))
 /-- the dict of the instance at x -/
 | own (x:Addr)
 /-- the dict of an exception -/
 | xd (fs:List (Str×V))
 /-- a bound method, f of x -/
 | met (f x:Addr)
 /-- a range object lo, lo + 1, .. below hi -/
 | rng (lo hi:Int)
 /-- a thing that is known to the object (the script; a dict while a loop walks it): read, never written while it is so -/
 | frz (o:Obj) (u:HO)
 /-- a code object's table -/
 | tbl (ps:Array Value)
 /-- any other thing, by what is true of its one object (a def of one's own: SetO a S n := HO.ext fun h => ..) -/
 | ext (φ:Heap->Prop)
abbrev Hp:=Addr->Option HO
def upd (H:Hp)(a:Addr)(o:HO):Hp:=fun b=>if b=a then some o else H b
theorem zD {H:Hp}{a:Addr}{o:HO}:upd H a o a=some o:=by unfold upd;rw[if_pos rfl]
theorem yX {H:Hp}{a b:Addr}{o:HO}(h:b≠a):upd H a o b=H b:=by unfold upd;rw[if_neg h]
theorem yC {H:Hp}{a b:Addr}{o:HO}(h:H a=some o)(h':H b=none):a≠b:=by
 intro e;subst e;rw[h] at h';cases h'
section
variable (P:Program) (w:World)
def ObjOk (H:Hp)(h:Heap)(a:Addr):HO->Prop
 | .lst xs=>xs.length<=sizeLine/\∃(its:List Value) (n:Nat),Vals xs its/\h.get? a=some { cls:=.type "list",data:=.seq its.toArray n }
 | .tup xs=>xs.length<=sizeLine/\∃its:List Value,Vals xs its/\IsTup h a its.toArray
 | .dK kvs=>kvs.length<=sizeLine/\(a==sysModules)=false/\∃vs,KV kvs vs/\h.DictOf (zV3 P w) a vs
 | .dT kvs=>kvs.length<=sizeLine/\(a==sysModules)=false/\∃xs:List (List Key×Addr×Value),
     Paired (fun(p:List Key×V) (q:List Key×Addr×Value)=>p.1=q.1/\H q.2.1=some (.tup (p.1.map kV))/\RelV p.2 q.2.2) kvs xs /\
     ∃o es ep,h.get? a=some o/\o.ExactDict/\o.data = .dict es ep/\es.toList=xs.map (entryOfKey (tupleKind (zV3 P w)))/\(xs.map (·.1)).Nodup
 | .set S n=>h.SetOf (intKind P w) a S n
 | .ins C dx fs=>H dx=some (.own a)/\fs.length<=1000/\dx≠a/\h.get? a=some (PySem.W.instObj C dx) /\
     ∃mA,h.Ns1 dx mA/\(∀f,RelO (fs.lookup f) (mA f))/\PySem.Within mA (fs.map (·.1))
 | .own _=>∃o,h.get? a=some o
 | .xd fs=>∃mA,h.Ns1 a mA/\∀f,RelO (fs.lookup f) (mA f)
 | .rng lo hi=>∃t u v,h.get? a=some { cls:=.type "range",data:=.fields #[.int lo t,.int hi u,.int 1 v] }
 | .frz o u=>h.get? a=some o/\ObjOk H h a u
 | .tbl ps=>h.get? a=some { cls:=.none,data:=.fields ps }
 | .met f x=>h.get? a=some (PySem.W.methodObj (.ref f) (.ref x))
 | .ext φ=>φ h/\(∃o,h.get? a=some o)/\∀h1 h2:Heap,φ h1->(∀o,h1.get? a=some o->h2.get? a=some o)->φ h2
def HOk (H:Hp)(h:Heap):Prop:=∀a o,H a=some o->ObjOk P w H h a o
end
section
variable {P:Program} {w:World} {H H':Hp} {h h':Heap} {a:Addr} {o:HO}
theorem ObjOk.lt (x:ObjOk P w H h a o):a < h.objs.size:=by
 cases o with
 | lst xs=>obtain⟨_,_,_,_,e⟩:=x;exact Heap.lt_size e
 | tup xs=>obtain⟨_,_,_,p⟩:=x;exact p.lt
 | dK kvs=>obtain⟨_,_,_,_,o,_,_,e,_⟩:=x;exact Heap.lt_size e
 | dT kvs=>obtain⟨_,_,_,_,o,_,_,e,_⟩:=x;exact Heap.lt_size e
 | set S n=>obtain⟨o,_,_,_,e,_⟩:=x;exact Heap.lt_size e
 | ins C dx fs=>obtain⟨_,_,_,e,_⟩:=x;exact Heap.lt_size e
 | own y=>obtain⟨_,e⟩:=x;exact Heap.lt_size e
 | xd fs=>obtain⟨_,⟨_,_,_,e,_⟩,_⟩:=x;exact Heap.lt_size e
 | rng lo hi=>obtain⟨_,_,_,e⟩:=x;exact Heap.lt_size e
 | frz ob u=>obtain⟨e,_⟩:=x;exact Heap.lt_size e
 | tbl ps=>exact Heap.lt_size (show h.get? a=some _ from x)
 | met f y=>exact Heap.lt_size (show h.get? a=some _ from x)
 | ext φ=>obtain⟨_,⟨_,e⟩,_⟩:=x;exact Heap.lt_size e
theorem Paired.mapP {α β:Type}{F G:α->β->Prop}:∀ {l₁:List α} {l₂:List β},Paired F l₁ l₂->(∀a b,F a b->G a b)->Paired G l₁ l₂
 | _,_,.nil,_=>.nil
 | _,_,.cons r t,f=>.cons (f _ _ r) (Paired.mapP t f)
theorem ObjOk.stay (x:ObjOk P w H h a o)(k:∀b u,(b=a∨H b=some (.own a))->h.get? b=some u->h'.get? b=some u)
   (ho:∀b,H b=some (.own a)->H' b=some (.own a)) (ht:∀b xs,H b=some (.tup xs)->H' b=some (.tup xs)):ObjOk P w H' h' a o:=by
 induction o with
 | lst xs=>obtain⟨z,its,n,r,e⟩:=x;exact⟨z,its,n,r,k _ _ (.inl rfl) e⟩
 | tup xs=>obtain⟨z,its,r,ob,e,c⟩:=x;exact⟨z,its,r,ob,k _ _ (.inl rfl) e,c⟩
 | dK kvs=>obtain⟨z,y,vs,r,ob,es,ep,e,c⟩:=x;exact⟨z,y,vs,r,ob,es,ep,k _ _ (.inl rfl) e,c⟩
 | dT kvs =>
   obtain⟨z,y,xs,r,ob,es,ep,e,c⟩:=x
   exact⟨z,y,xs,Paired.mapP r fun p q z=>⟨z.1,ht _ _ z.2.1,z.2.2⟩,ob,es,ep,k _ _ (.inl rfl) e,c⟩
 | set S n=>obtain⟨ob,es,ep,t,e,c⟩:=x;exact⟨ob,es,ep,t,k _ _ (.inl rfl) e,c⟩
 | ins C dx fs =>
   obtain⟨d,z,ne,e,mA,⟨od,es,ep,e2,c⟩,r⟩:=x
   exact⟨ho _ d,z,ne,k _ _ (.inl rfl) e,mA,⟨od,es,ep,k _ _ (.inr d) e2,c⟩,r⟩
 | own y=>obtain⟨ob,e⟩:=x;exact⟨ob,k _ _ (.inl rfl) e⟩
 | xd fs=>obtain⟨mA,⟨od,es,ep,e,c⟩,r⟩:=x;exact⟨mA,⟨od,es,ep,k _ _ (.inl rfl) e,c⟩,r⟩
 | rng lo hi=>obtain⟨t,u,v,e⟩:=x;exact⟨t,u,v,k _ _ (.inl rfl) e⟩
 | frz ob u ih=>obtain⟨e,q⟩:=x;exact⟨k _ _ (.inl rfl) e,ih q⟩
 | tbl ps =>
   have e:h.get? a=some { cls:=.none,data:=.fields ps }:=x
   show h'.get? a=some { cls:=.none,data:=.fields ps }
   exact k a _ (.inl rfl) e
 | met f y =>
   have e:h.get? a=some (PySem.W.methodObj (.ref f) (.ref y)):=x
   show h'.get? a=some (PySem.W.methodObj (.ref f) (.ref y))
   exact k a _ (.inl rfl) e
 | ext φ=>obtain⟨p,⟨o,e⟩,st⟩:=x;exact⟨st _ _ p fun o q=>k _ _ (.inl rfl) q,⟨o,k _ _ (.inl rfl) e⟩,st⟩
theorem HOk.lt (x:HOk P w H h)(e:H a=some o):a < h.objs.size:=(x a o e).lt
theorem HOk.fresh (x:HOk P w H h)(e:h.objs.size<=a):H a=none:=by
 cases q:H a with
 | none=>rfl
 | some u=>exact absurd (Nat.lt_of_lt_of_le (x.lt q) e) (Nat.lt_irrefl _)
theorem HOk.kept (x:HOk P w H h)(k:∀b u,h.get? b=some u->h'.get? b=some u):HOk P w H h':=fun a o e =>
 (x a o e).stay (fun b u _ q=>k b u q) (fun _ q=>q) fun _ _ q=>q
theorem HOk.laid (x:HOk P w H h)(k:∀b u,h.get? b=some u->h'.get? b=some u)(hp:h.objs.size<=a)(new:ObjOk P w (upd H a o) h' a o):HOk P w (upd H a o) h':=fun b u e=>by
 have hn:=x.fresh hp
 by_cases hb:b=a
 · subst hb;rw[zD] at e;cases e;exact new
 · rw[yX hb] at e
   exact(x b u e).stay (fun c v _ q=>k c v q) (fun c q=>by rw[yX (yC q hn)];exact q) fun c xs q=>by rw[yX (yC q hn)];exact q
end
def Rd (H:Hp)(a:Addr)(u:HO):Prop:=H a=some u∨∃o,H a=some (.frz o u)
theorem Rd.ok {P:Program}{w:World}{H:Hp}{h:Heap}{a:Addr}{u:HO}(r:Rd H a u)(x:HOk P w H h):ObjOk P w H h a u:=by
 rcases r with r | ⟨o,r⟩
 · exact x a u r
 · obtain⟨_,q⟩:=x a _ r
   exact q
def Mut:Option HO->Prop
 | some (.lst _)=>True
 | some (.dK _)=>True
 | some (.dT _)=>True
 | some (.set _ _)=>True
 | some (.ins _ _ _)=>True
 | some (.ext _)=>True
 | _=>False
section
variable {P:Program} {w:World} {H:Hp} {h h':Heap} {x e:Addr} {o':HO}
theorem HOk.write (ok:HOk P w H h)(mu:Mut (H x))(he:e=x∨H e=some (.own x))(k:∀b u,b≠e->h.get? b=some u->h'.get? b=some u)(heo:∃u,h'.get? e=some u)
   (new:ObjOk P w (upd H x o') h' x o'):HOk P w (upd H x o') h':=fun b u q=>by
 have nown:∀c y,H c=some (.own y)->c≠x:=fun c y r z=>by subst z;rw[r] at mu;exact mu
 have ntup:∀c xs,H c=some (.tup xs)->c≠x:=fun c xs r z=>by subst z;rw[r] at mu;exact mu
 by_cases hb:b=x
 · subst hb;rw[zD] at q;cases q;exact new
 · rw[yX hb] at q
   by_cases hbe:b=e
   · have q':H b=some (.own x):=by
       rcases he with z | z
       · exact absurd (hbe.trans z) hb
       · rw[hbe];exact z
     rw[q] at q';cases q'
     obtain⟨v,hv⟩:=heo
     exact⟨v,by rw[hbe];exact hv⟩
   · refine(ok b u q).stay (fun c v hc r=>k c v ?_ r) (fun c r=>by rw[yX (nown c b r)];exact r) fun c xs r=>by rw[yX (ntup c xs r)];exact r
     rcases hc with rfl | hc
     · exact hbe
     · rintro rfl
       rcases he with z | z
       · exact nown c b hc z
       · rw[hc] at z;cases z;exact hb rfl
end
structure Un (fs ex:List Addr)(H H':Hp)(h h':Heap):Prop where
 keep:∀b o,h.get? b=some o->H b=none->b∉fs->b∉ex->h'.get? b=some o
 slot:∀b o,h.get? b=some o->H b=none->b∈fs->b∉ex->∃sl,h'.get? b=some { o with slots:=sl }
 free:∀b o,h.get? b=some o->H b=none->b∉ex->H' b=none
 there:∀b o,h.get? b=some o->b∉ex->∃o',h'.get? b=some o'
 tups:∀b xs,H b=some (.tup xs)->H' b=some (.tup xs)
 frzs:∀b o u,H b=some (.frz o u)->H' b=some (.frz o u)
 tbls:∀b ps,H b=some (.tbl ps)->∃more,H' b=some (.tbl (ps++more))
section
variable {fs fs' ex ex':List Addr} {H H1 H2:Hp} {h h1 h2 h':Heap} {a x e:Addr} {o:HO}
theorem Un.any (u:Un fs ex H H1 h h1){b:Addr}{ob:Obj}(q:h.get? b=some ob)(n:H b=none)(hx:b∉ex):∃sl,h1.get? b=some { ob with slots:=sl }:=by
 by_cases hb:b∈fs
 · exact u.slot b ob q n hb hx
 · exact⟨ob.slots,u.keep b ob q n hb hx⟩
theorem Un.trans (a:Un fs ex H H1 h h1)(b:Un fs ex H1 H2 h1 h2):Un fs ex H H2 h h2 where
 keep:=fun c ob q n hc hx=>b.keep c ob (a.keep c ob q n hc hx) (a.free c ob q n hx) hc hx
 slot:=fun c ob q n hc hx=>by
   obtain⟨sl,e1⟩:=a.slot c ob q n hc hx
   obtain⟨sl',e2⟩:=b.slot c _ e1 (a.free c ob q n hx) hc hx
   exact⟨sl',e2⟩
 free:=fun c ob q n hx=>by
   obtain⟨o',e1⟩:=a.there c ob q hx
   exact b.free c o' e1 (a.free c ob q n hx) hx
 there:=fun c ob q hx=>by
   obtain⟨o',e1⟩:=a.there c ob q hx
   exact b.there c o' e1 hx
 tups:=fun c xs q=>b.tups c xs (a.tups c xs q)
 frzs:=fun c ob xs q=>b.frzs c ob xs (a.frzs c ob xs q)
 tbls:=fun c ps q=>by
   obtain⟨m1,e1⟩:=a.tbls c ps q
   obtain⟨m2,e2⟩:=b.tbls c _ e1
   exact⟨m1++m2,by rw[e2,Array.append_assoc]⟩
theorem Un.kept (k:∀b u,h.get? b=some u->h'.get? b=some u):Un fs ex H H h h' :=
 ⟨fun b ob q _ _ _=>k b ob q,fun b ob q _ _ _=>⟨ob.slots,k b ob q⟩,fun _ _ _ n _=>n,fun b ob q _=>⟨ob,k b ob q⟩,fun _ _ q=>q,fun _ _ _ q=>q,fun _ ps q=>⟨#[],by rw[q];simp⟩⟩
theorem Un.refl:Un fs ex H H h h:=Un.kept fun _ _ q=>q
theorem Un.laid (k:∀b u,h.get? b=some u->h'.get? b=some u)(hp:h.objs.size<=a)(hn:H a=none):Un fs ex H (upd H a o) h h' where
 keep:=fun b u q _ _ _=>k b u q
 slot:=fun b u q _ _ _=>⟨u.slots,k b u q⟩
 free:=fun b u q n _=>by rw[yX (Nat.ne_of_lt (Nat.lt_of_lt_of_le (Heap.lt_size q) hp))];exact n
 there:=fun b u q _=>⟨u,k b u q⟩
 tups:=fun b xs q=>by rw[yX (yC q hn)];exact q
 frzs:=fun b u xs q=>by rw[yX (yC q hn)];exact q
 tbls:=fun b ps q=>⟨#[],by rw[yX (yC q hn),q];simp⟩
theorem Un.write (mu:Mut (H x))(he:e=x∨H e=some (.own x))(k:∀b u,b≠e->h.get? b=some u->h'.get? b=some u)(heo:∃u,h'.get? e=some u):Un fs ex H (upd H x o) h h':=by
 have hx:∀b,H b=none->b≠x:=fun b n z=>by subst z;rw[n] at mu;exact mu
 have hb:∀b,H b=none->b≠e:=fun b n z=>by
   subst z
   rcases he with r | r
   · exact hx b n r
   · rw[n] at r;cases r
 have hm:∀b u,H b=some u->¬Mut (some u)->b≠x:=fun b u q nm z=>by subst z;rw[q] at mu;exact nm mu
 refine⟨fun b u q n _ _=>k b u (hb b n) q,fun b u q n _ _=>⟨u.slots,k b u (hb b n) q⟩,fun b u q n _=>by rw[yX (hx b n)];exact n,fun b u q _=>?_,
   fun b xs q=>by rw[yX (hm b _ q fun z=>z)];exact q,fun b u xs q=>by rw[yX (hm b _ q fun z=>z)];exact q,fun b ps q=>⟨#[],by rw[yX (hm b _ q fun z=>z),q];simp⟩⟩
 by_cases hbe:b=e
 · subst hbe;exact heo
 · exact⟨u,k b u hbe q⟩
end
def trk (h:Heap)(H:Hp):List Addr:=(List.range h.objs.size).filter fun a=>(H a).isSome
def zYH (h:Heap)(H:Hp):Heap:=PySem.W.hideAll h (trk h H)
theorem zUB (h:Heap)(H:Hp):(zYH h H).objs.size=h.objs.size:=PySem.W.hideAll_size _ _
theorem zTF {h:Heap}{H:Hp}{b:Addr}{o:Obj}(e:h.get? b=some o)(n:H b=none):(zYH h H).get? b=some o :=
 PySem.W.hideAll_get _ e fun hm=>by
   have q:(H b).isSome=true:=(List.mem_filter.mp hm).2
   rw[n] at q;simp at q
theorem zRL {h:Heap}{H:Hp}{b:Addr}{o:Obj}(e:(zYH h H).get? b=some o):h.get? b=some o/\H b=none:=by
 have e':h.get? b=some o:=PySem.W.of_hideAll (trk h H) e
 refine⟨e',?_⟩
 cases q:H b with
 | none=>rfl
 | some x =>
   have hm:b∈trk h H:=List.mem_filter.mpr ⟨List.mem_range.mpr (Heap.lt_size e'),by simp[q]⟩
   have z:(zYH h H).get? b=none:=PySem.W.hideAll_none (trk h H) hm
   rw[z] at e;cases e
def zRp (g h:Heap)(L:Addr):List (Addr×Obj):=(List.range h.objs.size).filterMap fun a=>if a=L∨(g.get? a).isSome=true then none else(h.get? a).map fun o=>(a,o)
def rest (g h:Heap)(L d:Addr):List (Addr×Obj):=(zRp g h L).filter fun p=>decide (p.1≠d)
end L2
namespace L2
open PySem PySem.Spec PyProof.Rows
structure Mod (K:PySem.W.Frag)(mg:Str->Option Value)(base:Heap):Prop where
 kin:K.In base
 glob:base.Ns mainGlobals mg
 blt:∃mb,base.Ns builtinsNs mb/\∀x:Str,x≠"__name__"->mb x=bootBuiltins x
 nolimit:base.NoLimit
/-- the context: a def's body (or a comprehension's block) running. base: fixed through the whole law; s₀, H₀: the entry; outer: the frames whose slots others may change (a def's callers); stack: all frames that run;
  ex: iterators that were made ahead of the entry and are walked here (a comprehension's);fn: the names whose cells were made at the entry (a def: all;a comprehension's block: its own);calm: not within an except suite;pn: pins that every state bears;xe: what is wanted of an exception that leaves the code -/
structure Cx where
 prog:Program
 w:World
 K:PySem.W.Frag
 mg:Str->Option Value
 base:Heap
 A:Around
 N:List Str
 s₀:Shared
 H₀:Hp
 env:Env
 outer:List Env
 stack:List Env
 ex:List Addr
 fn:Str->Bool
 calm:Bool
 pn:List (Addr×Obj)
 xe:Value->Shared->Prop
def frs (l:List Env):List Addr:=l.filterMap (·.frame)
abbrev Cx.fs (X:Cx):List Addr:=frs X.outer
def Vis (sc:Scope)(x:Str):Prop:=sc.names.lookup x=some .local∨sc.names.lookup x=some .cell∨sc.names.lookup x=some .free
def Loc (sc:Scope)(x:Str):Prop:=sc.names.lookup x=some .local∨sc.names.lookup x=some .cell
def zOa (env:Env)(h:Heap)(m:Str->Option Value)(x:Str)(u:Value):Prop :=
 (env.kindOf x=some .local/\m x=some u)∨((env.kindOf x=some .cell∨env.kindOf x=some .free)/\∃c,env.cells.lookup x=some c/\h.IsCell c (some u))
structure Cx.Ok (X:Cx):Prop where
 mod:Mod X.K X.mg X.base
 kind:X.env.scope.kind = .function
 glob:X.env.globals=mainGlobals
 blt:X.env.builtins=builtinsNs
 above:X.s₀.heap.objs.size<=X.env.locals
 inj:∀x y c,X.env.cells.lookup x=some c->X.env.cells.lookup y=some c->x=y
 has:∀x,(X.env.kindOf x=some .cell∨X.env.kindOf x=some .free)->∃c,X.env.cells.lookup x=some c
 cab:∀x c,X.fn x=true->X.env.cells.lookup x=some c->X.s₀.heap.objs.size<=c
 hd:X.calm=true->X.A.handled=none
 frames:X.A.frames=some X.stack
 stk:X.stack=X.outer∨(X.stack=X.env::X.outer/\X.env.frame=some X.env.locals)
 exf:∀b∈X.ex,b≠X.env.locals/\∀x c,X.env.cells.lookup x=some c->c≠b
 bs:∀b o,X.base.get? b=some o->X.s₀.heap.get? b=some o/\X.H₀ b=none
 bsz:X.base.objs.size<=X.s₀.heap.objs.size
 noex:∀b o,X.base.get? b=some o->b∉X.ex
 exfs:∀b∈X.ex,b∉X.fs
 funs:X.s₀.heap.FunFrames X.base X.outer
 frf:∀b∈X.fs,X.H₀ b=none
structure Inv (X:Cx)(pins:List (Addr×Obj))(σ:List (Option V))(H:Hp)(s:Shared):Prop where
 ok:X.Ok
 os:s.os=X.s₀.os
 bare:AllBare s.gens
 base:Un X.fs X.ex X.H₀ H X.s₀.heap s.heap
 loc:∃m,s.heap.Ns X.env.locals m/\∀(i:Nat) (x:Str) (v:V),X.N[i]?=some x->σ[i]?=some (some v)->Vis X.env.scope x->∃u,RelV v u/\zOa X.env s.heap m x u
 cell:∀x c,X.env.cells.lookup x=some c->∃v,s.heap.IsCell c v
 free:H X.env.locals=none
 freeC:∀x c,X.env.cells.lookup x=some c->H c=none
 pin:∀p∈X.pn++pins,s.heap.get? p.1=some p.2/\H p.1=none/\p.1≠X.env.locals/\p.1∉X.fs/\∀v,p.2.data ≠ .cell v
 hok:HOk X.prog X.w H s.heap
 len:σ.length=X.N.length
section
variable {X:Cx} {pins:List (Addr×Obj)} {σ:List (Option V)} {H H':Hp} {s:Shared} {h':Heap}
theorem Cx.Ok.nofr (ok:X.Ok){b:Addr}{o:Obj}(e:X.base.get? b=some o):b∉X.fs:=fun hb=>by
 have:=(ok.funs.mem hb).1
 rw[e] at this;cases this
theorem Inv.bs (I:Inv X pins σ H s):∀b o,X.base.get? b=some o->s.heap.get? b=some o/\H b=none:=fun b o e =>
 ⟨I.base.keep b o (I.ok.bs b o e).1 (I.ok.bs b o e).2 (I.ok.nofr e) (I.ok.noex b o e),I.base.free b o (I.ok.bs b o e).1 (I.ok.bs b o e).2 (I.ok.noex b o e)⟩
theorem Inv.bk (I:Inv X pins σ H s):∀b o,X.base.get? b=some o->s.heap.get? b=some o:=fun b o e=>(I.bs b o e).1
theorem Inv.mod (I:Inv X pins σ H s):Mod X.K X.mg X.base:=I.ok.mod
theorem Inv.kIn (I:Inv X pins σ H s):X.K.In s.heap:=I.ok.mod.kin.keeps I.bk
theorem Inv.lt (I:Inv X pins σ H s):X.env.locals < s.heap.objs.size:=let ⟨_,hn,_⟩:=I.loc;hn.lt
theorem Inv.sz (I:Inv X pins σ H s):X.s₀.heap.objs.size<=s.heap.objs.size:=Nat.le_trans I.ok.above (Nat.le_of_lt I.lt)
theorem Inv.nofs (I:Inv X pins σ H s){a:Addr}(h:s.heap.objs.size<=a):a∉X.fs:=fun hb=>by
 obtain⟨_,o,ho,_⟩:=I.ok.funs.mem hb
 exact absurd (Nat.lt_of_lt_of_le (Heap.lt_size ho) (Nat.le_trans I.sz h)) (Nat.lt_irrefl _)
theorem Inv.cne (I:Inv X pins σ H s):∀x c,X.env.cells.lookup x=some c->c≠X.env.locals:=fun x c e z=>by
 obtain⟨v,o,ho,hd⟩:=I.cell x c e
 obtain⟨m,⟨o',es,ep,ho',hd',_⟩,_⟩:=I.loc
 rw[z,ho'] at ho;cases ho;rw[hd'] at hd;cases hd
theorem Inv.funs (I:Inv X pins σ H s):s.heap.FunFrames X.base X.outer:=by
 have all:∀(l:List Env),(∀b∈frs l,b∈X.fs)->X.s₀.heap.FunFrames X.base l->s.heap.FunFrames X.base l:=by
   intro l
   induction l with
   | nil=>intro _ _;trivial
   | cons env r ih =>
     intro hs hl
     obtain⟨hk,⟨L,o,hf,hn,ho,hd⟩,hr⟩:=hl
     have hL:L∈X.fs:=hs L (by unfold frs;rw[List.filterMap_cons,hf];exact List.mem_cons_self)
     obtain⟨sl,e⟩:=I.base.slot L o ho (I.ok.frf L hL) hL fun z=>I.ok.exfs L z hL
     exact⟨hk,⟨L,_,hf,hn,e,hd⟩,ih (fun b hb=>hs b (by unfold frs;rw[List.filterMap_cons,hf];exact List.mem_cons_of_mem _ hb)) hr⟩
 exact all X.outer (fun _ hb=>hb) I.ok.funs
theorem Inv.stack (I:Inv X pins σ H s):s.heap.FunFrames X.base X.stack:=by
 rcases I.ok.stk with e | ⟨e,hf⟩
 · rw[e];exact I.funs
 · rw[e]
   obtain⟨m,hn,_⟩:=I.loc
   refine .cons (by rw[I.ok.kind];decide) hf hn ?_ I.funs
   exact Heap.get?_none_of_le (Nat.le_trans I.ok.bsz I.ok.above)
theorem Inv.stkSub (I:Inv X pins σ H s):∀b∈frs X.stack,b∈X.env.locals::X.fs:=fun b hb=>by
 rcases I.ok.stk with e | ⟨e,hf⟩
 · rw[e] at hb;exact List.mem_cons_of_mem _ hb
 · rw[e] at hb
   unfold frs at hb
   rw[List.filterMap_cons,hf] at hb
   exact hb
theorem Inv.stkFree (I:Inv X pins σ H s):∀b∈frs X.stack,H b=none:=fun b hb=>by
 rcases List.mem_cons.mp (I.stkSub b hb) with e | hb
 · rw[e];exact I.free
 · obtain⟨_,o,ho,_⟩:=I.ok.funs.mem hb
   exact I.base.free b o ho (I.ok.frf b hb) fun z=>I.ok.exfs b z hb
theorem Inv.step {g':Array GenState}{t':Nat}{d':Drawn}{ch:List Addr}(I:Inv X pins σ H s)
   (hch:∀b∈ch,(b∈X.ex∨X.s₀.heap.objs.size<=b)/\b≠X.env.locals/\(∀x c,X.env.cells.lookup x=some c->c≠b)/\∀p∈X.pn++pins,p.1≠b)
   (keep:∀b o,b≠X.env.locals->b∉X.fs->b∉ch->s.heap.get? b=some o->H b=none->h'.get? b=some o)
   (slot:∀b o,b≠X.env.locals->b∈X.fs->b∉ch->s.heap.get? b=some o->H b=none->∃sl,h'.get? b=some { o with slots:=sl }) (free:∀b o,b∉ch->s.heap.get? b=some o->H b=none->H' b=none)
   (there:∀b o,b∉ch->s.heap.get? b=some o->∃o',h'.get? b=some o')
   (tups:∀b xs,H b=some (.tup xs)->H' b=some (.tup xs)) (frzs:∀b o u,H b=some (.frz o u)->H' b=some (.frz o u)) (tbls:∀b ps,H b=some (.tbl ps)->∃more,H' b=some (.tbl (ps++more)))
   (ns:∀m,s.heap.Ns X.env.locals m->h'.Ns X.env.locals m) (hok:HOk X.prog X.w H' h') (hg:AllBare g') :
   Inv X pins σ H' { s with heap:=h',gens:=g',drawn:=d',toks:=t' }:=by
 have neL:∀b o,X.s₀.heap.get? b=some o->b≠X.env.locals:=fun b o e=>Nat.ne_of_lt (Nat.lt_of_lt_of_le (Heap.lt_size e) I.ok.above)
 have neC:∀b o,X.s₀.heap.get? b=some o->b∉X.ex->b∉ch:=fun b o e hx hb=>by
   rcases(hch b hb).1 with z | z
   · exact hx z
   · exact absurd (Nat.lt_of_lt_of_le (Heap.lt_size e) z) (Nat.lt_irrefl _)
 have cellK:∀x c,X.env.cells.lookup x=some c->∀v,s.heap.IsCell c v->h'.IsCell c v:=fun x c e v ⟨o,ho,hd⟩=>by
   have nch:c∉ch:=fun z=>(hch c z).2.2.1 x c e rfl
   by_cases hc:c∈X.fs
   · obtain⟨sl,q⟩:=slot c o (I.cne x c e) hc nch ho (I.freeC x c e)
     exact⟨_,q,hd⟩
   · exact⟨o,keep c o (I.cne x c e) hc nch ho (I.freeC x c e),hd⟩
 refine⟨I.ok,I.os,hg,⟨fun b o e n hb hx=>?_,fun b o e n hb hx=>?_,fun b o e n hx=>?_,fun b o e hx=>?_,fun b xs e=>tups b xs (I.base.tups b xs e),fun b o xs e=>frzs b o xs (I.base.frzs b o xs e),fun b ps e=>?_⟩,?_,fun x c e=>?_,?_,fun x c e=>?_,fun p hp=>?_,hok,I.len⟩
 · exact keep b o (neL b o e) hb (neC b o e hx) (I.base.keep b o e n hb hx) (I.base.free b o e n hx)
 · obtain⟨sl,e1⟩:=I.base.slot b o e n hb hx
   obtain⟨sl',e2⟩:=slot b _ (neL b o e) hb (neC b o e hx) e1 (I.base.free b o e n hx)
   exact⟨sl',e2⟩
 · obtain⟨o',e1⟩:=I.base.there b o e hx
   exact free b o' (neC b o e hx) e1 (I.base.free b o e n hx)
 · obtain⟨o',e1⟩:=I.base.there b o e hx
   exact there b o' (neC b o e hx) e1
 · obtain⟨m1,e1⟩:=I.base.tbls b ps e
   obtain⟨m2,e2⟩:=tbls b _ e1
   exact⟨m1++m2,by rw[e2,Array.append_assoc]⟩
 · obtain⟨m,hn,hl⟩:=I.loc
   refine⟨m,ns m hn,fun i x v e1 e2 e3=>?_⟩
   obtain⟨u,r,l⟩:=hl i x v e1 e2 e3
   refine⟨u,r,?_⟩
   rcases l with l | ⟨k,c,e,z⟩
   · exact .inl l
   · exact .inr ⟨k,c,e,cellK x c e _ z⟩
 · obtain⟨v,z⟩:=I.cell x c e
   exact⟨v,cellK x c e v z⟩
 · obtain⟨m,⟨o,_,_,ho,_⟩,_⟩:=I.loc
   exact free _ o (fun z=>(hch _ z).2.1 rfl) ho I.free
 · obtain⟨v,o,ho,hd⟩:=I.cell x c e
   exact free c o (fun z=>(hch c z).2.2.1 x c e rfl) ho (I.freeC x c e)
 · obtain⟨e,n,ne,nf,d⟩:=I.pin p hp
   have nch:p.1∉ch:=fun z=>(hch p.1 z).2.2.2 p hp rfl
   exact⟨keep p.1 p.2 ne nf nch e n,free p.1 p.2 nch e n,ne,nf,d⟩
theorem Inv.un {t':Nat}(I:Inv X pins σ H s)(u:Un X.fs [] H H' s.heap h')(hok:HOk X.prog X.w H' h'):Inv X pins σ H' { s with heap:=h',toks:=t' }:=by
 obtain⟨m,⟨o,es,ep,ho,r⟩,_⟩:=id I.loc
 obtain⟨sl,hL⟩:=u.any ho I.free (by simp)
 exact I.step (g':=s.gens) (d':=s.drawn) (ch:=[]) (fun _ z=>nomatch z) (fun b o _ hb _ e n=>u.keep b o e n hb (by simp)) (fun b o _ hb _ e n=>u.slot b o e n hb (by simp)) (fun b o _ e n=>u.free b o e n (by simp)) (fun b o _ e=>u.there b o e (by simp)) u.tups u.frzs u.tbls (fun m' hm=>by
   obtain⟨o',es',ep',ho',r'⟩:=hm
   rw[ho] at ho';cases ho'
   exact⟨_,es',ep',hL,r'⟩) hok I.bare
theorem Inv.call {g':Array GenState}{t':Nat}{d':Drawn}{ch:List Addr}(I:Inv X pins σ H s)(u:Un (frs X.stack) ch H H' s.heap h')(hok:HOk X.prog X.w H' h')(hg:AllBare g')
   (hch:∀b∈ch,(b∈X.ex∨X.s₀.heap.objs.size<=b)/\b≠X.env.locals/\(∀x c,X.env.cells.lookup x=some c->c≠b)/\∀p∈X.pn++pins,p.1≠b) :
   Inv X pins σ H' { s with heap:=h',gens:=g',drawn:=d',toks:=t' }:=by
 obtain⟨m,⟨o,es,ep,ho,r⟩,_⟩:=id I.loc
 obtain⟨sl,hL⟩:=u.any ho I.free fun z=>(hch _ z).2.1 rfl
 exact I.step (ch:=ch) hch (fun b o hL hb hc e n=>u.keep b o e n (fun z=>(List.mem_cons.mp (I.stkSub b z)).elim hL hb) hc) (fun b o _ _ hc e n=>u.any e n hc) (fun b o hc e n=>u.free b o e n hc) (fun b o hc e=>u.there b o e hc) u.tups u.frzs u.tbls (fun m' hm=>by
   obtain⟨o',es',ep',ho',r'⟩:=hm
   rw[ho] at ho';cases ho'
   exact⟨_,es',ep',hL,r'⟩) hok hg
theorem Inv.turned {t':Nat}{it:Addr}(I:Inv X pins σ H s)(k:∀b o,b≠it->s.heap.get? b=some o->h'.get? b=some o)(hn:H it=none)(hL:it≠X.env.locals)
   (h1:it∈X.ex∨X.s₀.heap.objs.size<=it) (h2:∀x c,X.env.cells.lookup x=some c->c≠it) (h3:∀p∈X.pn++pins,p.1≠it):Inv X pins σ H { s with heap:=h',toks:=t' }:=by
 have nit:∀b u,H b=some u->b≠it:=fun b u e z=>by rw[z,hn] at e;cases e
 refine I.step (g':=s.gens) (d':=s.drawn) (ch:=[it]) (fun b hb=>?_) (fun b o _ _ hc e _=>k b o (fun z=>hc (by simp[z])) e) (fun b o _ _ hc e _=>⟨o.slots,k b o (fun z=>hc (by simp[z])) e⟩) (fun _ _ _ _ n=>n)
   (fun b o hc e=>⟨o,k b o (fun z=>hc (by simp[z])) e⟩) (fun _ _ e=>e) (fun _ _ _ e=>e) (fun b ps e=>⟨#[],by rw[e];simp⟩) (fun m hm=>?_) (fun b u e=>?_) I.bare
 · have e:b=it:=by simpa using hb
   subst e
   exact⟨h1,hL,h2,h3⟩
 · obtain⟨o,es,ep,ho,r⟩:=hm
   exact⟨o,es,ep,k _ o (Ne.symm hL) ho,r⟩
 · refine(I.hok b u e).stay (fun c v hc q=>k c v ?_ q) (fun _ q=>q) fun _ _ q=>q
   rcases hc with z | z
   · rw[z];exact nit b u e
   · exact nit c _ z
theorem Inv.tok (I:Inv X pins σ H s)(t:Nat):Inv X pins σ H { s with toks:=t }:=I.un (h':=s.heap) (t':=t) Un.refl I.hok
theorem Inv.kept {t':Nat}(I:Inv X pins σ H s)(k:∀b u,s.heap.get? b=some u->h'.get? b=some u):Inv X pins σ H { s with heap:=h',toks:=t' }:=I.un (Un.kept k) (I.hok.kept k)
theorem Inv.laid {a:Addr}{o:HO}{t':Nat}(I:Inv X pins σ H s)(k:∀b u,s.heap.get? b=some u->h'.get? b=some u)(hp:s.heap.objs.size<=a)(new:ObjOk X.prog X.w (upd H a o) h' a o) :
   Inv X pins σ (upd H a o) { s with heap:=h',toks:=t' }:=I.un (Un.laid k hp (I.hok.fresh hp)) (I.hok.laid k hp new)
theorem Inv.write {x e:Addr}{o:HO}{t':Nat}(I:Inv X pins σ H s)(mu:Mut (H x))(he:e=x∨H e=some (.own x))(k:∀b u,b≠e->s.heap.get? b=some u->h'.get? b=some u)(heo:∃u,h'.get? e=some u)
   (new:ObjOk X.prog X.w (upd H x o) h' x o):Inv X pins σ (upd H x o) { s with heap:=h',toks:=t' }:=I.un (Un.write mu he k heo) (I.hok.write mu he k heo new)
theorem Inv.pins_of {pins':List (Addr×Obj)}(I:Inv X pins σ H s)(h:∀p∈pins',s.heap.get? p.1=some p.2/\H p.1=none/\p.1≠X.env.locals/\p.1∉X.fs/\∀v,p.2.data ≠ .cell v):Inv X pins' σ H s :=
 ⟨I.ok,I.os,I.bare,I.base,I.loc,I.cell,I.free,I.freeC,fun p hp=>(List.mem_append.mp hp).elim (fun z=>I.pin p (List.mem_append_left _ z)) (h p),I.hok,I.len⟩
theorem zXK {N:List Str}(hN:N.Nodup){i j:Nat}{x:Str}(a:N[i]?=some x)(b:N[j]?=some x):i=j:=by
 obtain⟨h1,e1⟩:=List.getElem?_eq_some_iff.mp a
 obtain⟨h2,e2⟩:=List.getElem?_eq_some_iff.mp b
 exact(List.getElem_inj hN).mp (e1.trans e2.symm)
theorem zZI {M:Model}{A:Around}{E:Value->Shared->Prop}{i:Nat}{x:Str}{v:V}{u:Value}{Q:Unit->Shared->Prop}(I:Inv X pins σ H s)(hN:X.N.Nodup)(hi:X.N[i]?=some x)(hx:Loc X.env.scope x)(r:RelV v u)
   (h:∀s',Inv X pins (σ.set i (some v)) H s'->(∃a,Heap.SameBut a s.heap s'.heap/\(a=X.env.locals∨X.env.cells.lookup x=some a))->Q () s') (hf:X.fn x=true∨X.env.scope.names.lookup x=some .local:=by first | exact .inl rfl | exact .inr rfl | assumption):wpAny M A (storeName X.env x u) Q E s:=by
 obtain⟨m,hn,hl⟩:=id I.loc
 have hcls:(X.env.scope.kind == .class||(X.env.scope.kind == .module&&X.env.locals != X.env.globals))=false:=by rw[I.ok.kind];rfl
 have hiσ:i < σ.length:=by rw[I.len];exact(List.getElem?_eq_some_iff.mp hi).1
 have cne:=I.cne
 have tracked:∀ {a:Addr} {h':Heap},(∃o,s.heap.get? a=some o/\H a=none)->Heap.SameBut a s.heap h'->HOk X.prog X.w H h':=fun {a h'} ha hs b ob e=>by
   obtain⟨_,_,hfree⟩:=ha
   refine(I.hok b ob e).stay (fun c w' hc q=>(hs.2 c ?_).trans q) (fun _ q=>q) fun _ _ q=>q
   rintro rfl
   rcases hc with rfl | hc
   · rw[hfree] at e;cases e
   · rw[hfree] at hc;cases hc
 rcases hx with hk | hk
 · refine wpAny_storeName_local hk hn (fun h' hn' hs=>?_) hcls
   obtain⟨oL,_,_,hoL,_⟩:=id hn
   refine h _ ⟨I.ok,I.os,I.bare,⟨fun b o e n hb hx=>?_,fun b o e n hb hx=>?_,I.base.free,fun b o e hx=>?_,I.base.tups,I.base.frzs,I.base.tbls⟩,⟨_,hn',fun j y v' e1 e2 e3=>?_⟩,fun y c e=>?_,I.free,I.freeC,fun p hp=>?_,tracked ⟨oL,hoL,I.free⟩ hs,by simpa using I.len⟩ ⟨_,hs,.inl rfl⟩
   · exact(hs.2 b (Nat.ne_of_lt (Nat.lt_of_lt_of_le (Heap.lt_size e) I.ok.above))).trans (I.base.keep b o e n hb hx)
   · obtain⟨sl,e1⟩:=I.base.slot b o e n hb hx
     exact⟨sl,(hs.2 b (Nat.ne_of_lt (Nat.lt_of_lt_of_le (Heap.lt_size e) I.ok.above))).trans e1⟩
   · obtain⟨o',e1⟩:=I.base.there b o e hx
     exact⟨o',(hs.2 b (Nat.ne_of_lt (Nat.lt_of_lt_of_le (Heap.lt_size e) I.ok.above))).trans e1⟩
   · by_cases hj:j=i
     · subst hj
       rw[hi] at e1;cases e1
       rw[List.getElem?_set_self hiσ] at e2
       cases e2
       exact⟨u,r,.inl ⟨hk,by simp⟩⟩
     · rw[List.getElem?_set_ne (Ne.symm hj)] at e2
       obtain⟨u',r',q⟩:=hl j y v' e1 e2 e3
       refine⟨u',r',?_⟩
       rcases q with⟨k,e⟩ | ⟨k,c,e,z⟩
       · refine .inl ⟨k,?_⟩
         have:y≠x:=fun e=>hj (zXK hN e1 (e ▸ hi))
         simp[this,e]
       · exact .inr ⟨k,c,e,z.sameBut hs (cne y c e)⟩
   · obtain⟨w',z⟩:=I.cell y c e
     exact⟨w',z.sameBut hs (cne y c e)⟩
   · obtain⟨e,n,ne,nf,d⟩:=I.pin p hp
     exact⟨(hs.2 p.1 ne).trans e,n,ne,nf,d⟩
 · have hfn:X.fn x=true:=by
     rcases hf with z | z
     · exact z
     · rw[z] at hk;cases hk
   obtain⟨c,hc⟩:=I.ok.has x (.inl hk)
   obtain⟨w',z⟩:=I.cell x c hc
   refine wpAny_storeName_cell I.ok.kind hk hc z (fun h' hc' hs=>?_)
   obtain⟨oc,hoc,hocd⟩:=id z
   refine h { s with heap:=h' } ⟨I.ok,I.os,I.bare,⟨fun b o e n hb hx=>?_,fun b o e n hb hx=>?_,I.base.free,fun b o e hx=>?_,I.base.tups,I.base.frzs,I.base.tbls⟩,⟨m,hn.sameBut hs (Ne.symm (cne x c hc)),fun j y v' e1 e2 e3=>?_⟩,fun y c' e=>?_,I.free,I.freeC,fun p hp=>?_,tracked ⟨oc,hoc,I.freeC x c hc⟩ hs,by simpa using I.len⟩ ⟨c,hs,.inr hc⟩
   · exact(hs.2 b (Nat.ne_of_lt (Nat.lt_of_lt_of_le (Heap.lt_size e) (I.ok.cab x c hfn hc)))).trans (I.base.keep b o e n hb hx)
   · obtain⟨sl,e1⟩:=I.base.slot b o e n hb hx
     exact⟨sl,(hs.2 b (Nat.ne_of_lt (Nat.lt_of_lt_of_le (Heap.lt_size e) (I.ok.cab x c hfn hc)))).trans e1⟩
   · obtain⟨o',e1⟩:=I.base.there b o e hx
     exact⟨o',(hs.2 b (Nat.ne_of_lt (Nat.lt_of_lt_of_le (Heap.lt_size e) (I.ok.cab x c hfn hc)))).trans e1⟩
   · by_cases hj:j=i
     · subst hj
       rw[hi] at e1;cases e1
       rw[List.getElem?_set_self hiσ] at e2
       cases e2
       exact⟨u,r,.inr ⟨.inl hk,c,hc,hc'⟩⟩
     · rw[List.getElem?_set_ne (Ne.symm hj)] at e2
       obtain⟨u',r',q⟩:=hl j y v' e1 e2 e3
       refine⟨u',r',?_⟩
       rcases q with q | ⟨k,c',e,z'⟩
       · exact .inl q
       · refine .inr ⟨k,c',e,z'.sameBut hs ?_⟩
         rintro rfl
         exact hj (zXK hN e1 (I.ok.inj _ _ _ e hc ▸ hi))
   · by_cases hcc:c'=c
     · subst hcc;exact⟨_,hc'⟩
     · obtain⟨w2,z2⟩:=I.cell y c' e
       exact⟨w2,z2.sameBut hs hcc⟩
   · obtain⟨e,n,ne,nf,d⟩:=I.pin p hp
     refine⟨(hs.2 p.1 ?_).trans e,n,ne,nf,d⟩
     intro q
     rw[q,hoc] at e
     have q':oc=p.2:=Option.some.inj e
     exact d w' (by rw[←q'];exact hocd)
theorem zXY {M:Model}{A:Around}{E:Value->Shared->Prop}{i:Nat}{x:Str}{v:V}{u:Value}{Q:Unit->Shared->Prop}(I:Inv X pins σ H s)(hN:X.N.Nodup)(hi:X.N[i]?=some x)(hx:Loc X.env.scope x)(r:RelV v u)
   (h:∀s',Inv X pins (σ.set i (some v)) H s'->Q () s') (hf:X.fn x=true∨X.env.scope.names.lookup x=some .local:=by first | exact .inl rfl | exact .inr rfl | assumption):wpAny M A (storeName X.env x u) Q E s :=
 zZI I hN hi hx r (fun s' I' _=>h s' I') hf
theorem Inv.call' {s':Shared}{ch:List Addr}(I:Inv X pins σ H s)(ho:s'.os=s.os)(u:Un (frs X.stack) ch H H' s.heap s'.heap)(hok:HOk X.prog X.w H' s'.heap)(hg:AllBare s'.gens)
   (hch:∀b∈ch,(b∈X.ex∨X.s₀.heap.objs.size<=b)/\b≠X.env.locals/\(∀x c,X.env.cells.lookup x=some c->c≠b)/\∀p∈X.pn++pins,p.1≠b):Inv X pins σ H' s':=by
 obtain⟨h',g',d',t',o'⟩:=s'
 have e:o'=s.os:=ho
 subst e
 exact I.call (g':=g') (t':=t') (d':=d') u hok hg hch
end
abbrev XK:=Value->Option Addr->Hp->Prop
abbrev St:=List (Option V)
abbrev VK:=V->Hp->Prop
abbrev TE:=St->Hp->VK->Prop
abbrev TT:=St->Hp->(Bool->Hp->Prop)->Prop
abbrev TA:=St->Hp->(List V->Hp->Prop)->Prop
structure Ends where
 nx:St->Hp->Prop
 rt:VK
 bk:St->Hp->Prop:=fun _ _=>False
 ct:St->Hp->Prop:=fun _ _=>False
abbrev TS:=Ends->St->Hp->Prop
def EP (X:Cx)(pins:List (Addr×Obj))(σ:St)(Q:VK)(u:Value)(s':Shared):Prop:=∃v H',Inv X pins σ H' s'/\RelV v u/\Q v H'
def TP (X:Cx)(pins:List (Addr×Obj))(σ:St)(Q:Bool->Hp->Prop)(b:Bool)(s':Shared):Prop:=∃H',Inv X pins σ H' s'/\Q b H'
def AP (X:Cx)(pins:List (Addr×Obj))(σ:St)(Q:List V->Hp->Prop)(us:List Value)(s':Shared):Prop:=∃vs H',Inv X pins σ H' s'/\Vals vs us/\Q vs H'
def SP (X:Cx)(pins:List (Addr×Obj))(D:Ends)(f:Flow)(s':Shared):Prop :=
 match f with
 | .next=>∃σ' H',Inv X pins σ' H' s'/\D.nx σ' H'
 | .brk=>∃σ' H',Inv X pins σ' H' s'/\D.bk σ' H'
 | .cont=>∃σ' H',Inv X pins σ' H' s'/\D.ct σ' H'
 | .ret u=>∃v σ' H',Inv X pins σ' H' s'/\RelV v u/\D.rt v H'
def PE (X:Cx)(e:Expr)(t:TE):Prop :=
 ∀(pins:List (Addr×Obj)) (s:Shared) (σ:St) (H:Hp) (Q:VK),Inv X pins σ H s->t σ H Q->wpAny (model X.prog X.w) X.A (eval e X.env) (EP X pins σ Q) X.xe s
def PT (X:Cx)(e:Expr)(t:TT):Prop :=
 ∀(pins:List (Addr×Obj)) (s:Shared) (σ:St) (H:Hp) (Q:Bool->Hp->Prop),Inv X pins σ H s->t σ H Q->wpAny (model X.prog X.w) X.A (isTrue e X.env (eval e X.env)) (TP X pins σ Q) X.xe s
def PW (X:Cx)(e:Expr)(t:TT):Prop :=
 ∀(whole:Sem Value) (pins:List (Addr×Obj)) (s:Shared) (σ:St) (H:Hp) (Q:Bool->Hp->Prop),Inv X pins σ H s->t σ H Q->wpAny (model X.prog X.w) X.A (isTrue e X.env whole) (TP X pins σ Q) X.xe s
theorem PW.pt {X:Cx}{e:Expr}{t:TT}(h:PW X e t):PT X e t:=h _
def PA (X:Cx)(es:List Expr)(t:TA):Prop :=
 ∀(pos:Pos) (pins:List (Addr×Obj)) (s:Shared) (σ:St) (H:Hp) (Q:List V->Hp->Prop),Inv X pins σ H s->t σ H Q->wpAny (model X.prog X.w) X.A (spliced (backTo pos (starEach es X.env))) (AP X pins σ Q) X.xe s
def PS (X:Cx)(st:Stmt)(t:TS):Prop :=
 ∀(pins:List (Addr×Obj)) (s:Shared) (σ:St) (H:Hp) (D:Ends),Inv X pins σ H s->t D σ H->wpAny (model X.prog X.w) X.A (exec st X.env) (SP X pins D) X.xe s
def PSs (X:Cx)(st:List Stmt)(t:TS):Prop :=
 ∀(pins:List (Addr×Obj)) (s:Shared) (σ:St) (H:Hp) (D:Ends),Inv X pins σ H s->t D σ H->wpAny (model X.prog X.w) X.A (execs st X.env) (SP X pins D) X.xe s
theorem thn {α:Type}{t:Sem α}{Q Q':α->Shared->Prop}{M:Model}{A:Around}{E:Value->Shared->Prop}{s:Shared}(h:wpAny M A t Q E s)(hQ:∀a s,Q a s->Q' a s):wpAny M A t Q' E s:=wpAny_mono h hQ fun _ _ x=>x
end L2
namespace L2
open PySem PySem.Spec PyProof.Rows
section
variable {X:Cx}
def zS8 (i:Nat):TE:=fun σ H Q=>∃v,σ[i]?=some (some v)/\Q v H
def tC (v:V):TE:=fun _ H Q=>Q v H
theorem qV {i:Nat}{x:Str}{pos:Pos}(hN:X.N[i]?=some x)(hv:Vis X.env.scope x)(hd:(x==("__debug__":Str))=false:=by decide)(hcd:(x==("__classdict__":Str))=false:=by decide):PE X (.Name x pos) (zS8 i):=by
 intro pins s σ H Q I h
 obtain⟨v,e,h⟩:=h
 obtain⟨m,hn,hl⟩:=I.loc
 obtain⟨u,r,l⟩:=hl i x v hN e hv
 have fin:EP X pins σ Q u s:=⟨v,H,I,r,h⟩
 rcases l with⟨hk,hm⟩ | ⟨hk,c,hc,hcell⟩
 · exact wpAny_Name (wpAny_loadName_local I.ok.kind hk hn hm fin) hd
 · rcases hk with hk | hk
   · exact wpAny_Name (wpAny_loadName_cell I.ok.kind hk hc hcell fin) hd
   · exact wpAny_Name (wpAny_loadName_free I.ok.kind hk hc hcell fin hcd) hd
theorem zQ2 {i j pos}:PE X (.Constant (.int i) j pos) (tC (.int i)):=fun _ _ _ H _ I h=>wpAny_Constant_int ⟨.int i,H,I.tok _,⟨_,rfl⟩,h⟩
theorem zPi {b j pos}:PE X (.Constant (.bool b) j pos) (tC (.bl b)):=fun _ _ _ H _ I h=>Constant_bool ⟨.bl b,H,I,rfl,h⟩
theorem zSB {j pos}:PE X (.Constant .none j pos) (tC .non):=fun _ _ _ H _ I h=>Constant_none ⟨.non,H,I,rfl,h⟩
theorem zQo {x j pos}:PE X (.Constant (.str x) j pos) (tC (.str x)):=fun _ _ _ H _ I h=>Calls.Constant_str ⟨.str x,H,I.tok _,⟨_,rfl⟩,h⟩
def Gl (X:Cx)(x:Str):Prop:=X.env.kindOf x=some .globalImplicit
theorem zYU {E:Value->Shared->Prop}{pins:List (Addr×Obj)}{s:Shared}{σ:St}{H:Hp}{x:Str}{u:Value}{pos:Pos}{Q:Value->Shared->Prop}(I:Inv X pins σ H s)(hg:Gl X x)(hm:X.mg x=some u)(h:Q u s)
   (hd:(x==("__debug__":Str))=false:=by decide):wpAny (model X.prog X.w) X.A (eval (.Name x pos) X.env) Q E s :=
 Calls.Name_function_global I.ok.kind hg (Calls.loadGlobal_global (by rw[I.ok.glob];exact I.mod.glob.keeps I.bk) hm h) hd
theorem qY {E:Value->Shared->Prop}{pins:List (Addr×Obj)}{s:Shared}{σ:St}{H:Hp}{x:Str}{u:Value}{pos:Pos}{Q:Value->Shared->Prop}(I:Inv X pins σ H s)(hg:Gl X x)(hm:X.mg x=none)(hv:bootBuiltins x=some u)(h:Q u s)
   (hn:x≠"__name__":=by decide) (hd:(x==("__debug__":Str))=false:=by decide):wpAny (model X.prog X.w) X.A (eval (.Name x pos) X.env) Q E s:=by
 obtain⟨mb,h1,h2⟩:=I.mod.blt
 exact Calls.Name_function_global I.ok.kind hg (Calls.loadGlobal_builtin (by rw[I.ok.glob];exact I.mod.glob.keeps I.bk) hm (by rw[I.ok.blt];exact h1.keeps I.bk) ((h2 x hn).trans hv) h) hd
theorem dX {x:Str}{v:V}{u:Value}{pos:Pos}(hg:Gl X x)(hm:X.mg x=some u)(r:RelV v u)(hd:(x==("__debug__":Str))=false:=by decide):PE X (.Name x pos) (tC v) :=
 fun _ _ _ H _ I h=>zYU I hg hm ⟨v,H,I,r,h⟩ hd
theorem zRI {x:Str}{v:V}{u:Value}{pos:Pos}(hg:Gl X x)(hm:X.mg x=none)(hv:bootBuiltins x=some u)(r:RelV v u)(hn:x≠"__name__":=by decide)(hd:(x==("__debug__":Str))=false:=by decide):PE X (.Name x pos) (tC v) :=
 fun _ _ _ H _ I h=>qY I hg hm hv ⟨v,H,I,r,h⟩ hn hd
variable {a b:Expr} {ta tb:TE} {pos:Pos}
def tB (t:TE):TT:=fun σ H Q=>t σ H fun x H1=>∃c,x = .bl c/\Q c H1
theorem zP9 {e:Expr}{t:TE}(h:PE X e t)(he:∀whole,isTrue e X.env whole=(do let v ←whole;standAt e.pos;holding [v] (truthy v)):=by intro _;rfl):PT X e (tB t):=by
 intro pins s σ H Q I hw
 refine isTrue_plain (thn (h pins s σ H _ I hw) fun v s1 ⟨x,H1,I1,r1,q1⟩=>?_) (he _)
 obtain⟨d,rfl,q⟩:=q1
 cases r1
 exact wpAny_truthy_bool ⟨H1,I1,q⟩
variable {tA tB':TT} {rest:List Expr}
def zOf (t u:TT):TT:=fun σ H Q=>t σ H fun c H1=>if c=true then u σ H1 Q else Q false H1
def tOr (t u:TT):TT:=fun σ H Q=>t σ H fun c H1=>if c=true then Q true H1 else u σ H1 Q
def zOp (t:TT):TT:=fun σ H Q=>t σ H fun c H1=>Q (!c) H1
theorem zRu (ha:PT X a tA):PW X (.BoolOp .And [a] pos) tA:=by
 intro wh pins s σ H Q I h
 refine isTrue_and (thn (ha pins s σ H Q I h) fun c s1 e=>?_)
 cases c with
 | true=>exact isTrue_and_nil e
 | false=>exact e
theorem zQ1 (ha:PT X a tA):PW X (.BoolOp .Or [a] pos) tA:=by
 intro wh pins s σ H Q I h
 refine isTrue_or (thn (ha pins s σ H Q I h) fun c s1 e=>?_)
 cases c with
 | false=>exact isTrue_or_nil e
 | true=>exact e
theorem zQ5 (ha:PT X a tA)(hb:PW X (.BoolOp .And (b::rest) pos) tB'):PW X (.BoolOp .And (a::b::rest) pos) (zOf tA tB'):=by
 intro wh pins s σ H Q I h
 refine isTrue_and (thn (ha pins s σ H _ I h) fun c s1 ⟨H1,I1,q1⟩=>?_)
 cases c with
 | true=>exact hb wh pins s1 σ H1 Q I1 q1
 | false=>exact⟨H1,I1,q1⟩
theorem zOM (ha:PT X a tA)(hb:PW X (.BoolOp .Or (b::rest) pos) tB'):PW X (.BoolOp .Or (a::b::rest) pos) (tOr tA tB'):=by
 intro wh pins s σ H Q I h
 refine isTrue_or (thn (ha pins s σ H _ I h) fun c s1 ⟨H1,I1,q1⟩=>?_)
 cases c with
 | true=>exact⟨H1,I1,q1⟩
 | false=>exact hb wh pins s1 σ H1 Q I1 q1
theorem zPP (ha:PT X a tA):PT X (.UnaryOp .Not a pos) (zOp tA):=by
 intro pins s σ H Q I h
 exact isTrue_not (ha pins s σ H (fun c H1=>Q (!c) H1) I h)
def zPf (ta tb:TE):TE:=fun σ H Q=>ta σ H fun x H1=>∃c,x = .bl c/\if c=true then tb σ H1 Q else Q (.bl false) H1
def zPd (ta:TE):TE:=fun σ H Q=>ta σ H fun x H1=>∃c,x = .bl c/\Q (.bl (!c)) H1
theorem zQh {op}{t:TE}(h:PE X a t):PE X (.BoolOp op [a] pos) t:=fun pins s σ H Q I hw=>BoolOp_one (h pins s σ H Q I hw)
theorem zPz (ha:PE X a ta)(hb:PE X (.BoolOp .And (b::rest) pos) tb):PE X (.BoolOp .And (a::b::rest) pos) (zPf ta tb):=by
 intro pins s σ H Q I h
 refine BoolOp_and (thn (ha pins s σ H _ I h) fun v s1 ⟨x,H1,I1,r1,q1⟩=>?_)
 obtain⟨c,rfl,q1⟩:=q1
 cases r1
 refine wpAny_truthy_bool ?_
 cases c with
 | true=>exact hb pins s1 σ H1 Q I1 q1
 | false=>exact⟨.bl false,H1,I1,rfl,q1⟩
theorem zQ0 (ha:PE X a ta):PE X (.UnaryOp .Not a pos) (zPd ta):=by
 intro pins s σ H Q I h
 refine UnaryOp_ (thn (ha pins s σ H _ I h) fun v s1 ⟨x,H1,I1,r1,q1⟩=>?_)
 obtain⟨c,rfl,q1⟩:=q1
 cases r1
 exact not_of (wpAny_truthy_bool ⟨.bl (!c),H1,I1,rfl,q1⟩)
def tIf (t:TT)(ta tb:TE):TE:=fun σ H Q=>t σ H fun c H1=>if c=true then ta σ H1 Q else tb σ H1 Q
theorem zS0 {c:Expr}(hc:PT X c tA)(ha:PE X a ta)(hb:PE X b tb):PE X (.IfExp c a b pos) (tIf tA ta tb):=by
 intro pins s σ H Q I h
 refine wpAny_IfExp (thn (hc pins s σ H _ I h) fun d s1 ⟨H1,I1,q1⟩=>?_)
 cases d with
 | true=>exact ha pins s1 σ H1 Q I1 q1
 | false=>exact hb pins s1 σ H1 Q I1 q1
end
end L2
namespace L2
open PySem PySem.Spec PyProof.Rows
def SqL (K:PySem.W.Frag)(H:Hp)(a:Addr)(xs:List V):Prop :=
 Rd H a (.lst xs) ∨
   ∃(o:Obj) (its:Array Value) (n:Nat),K.lookup a=some o/\o.cls = .type "list"/\o.dict=none/\o.data = .seq its n/\its.size<=sizeLine/\Vals xs its.toList
def SqT (K:PySem.W.Frag)(H:Hp)(a:Addr)(xs:List V):Prop :=
 Rd H a (.tup xs) ∨
   ∃(o:Obj) (its:Array Value) (n:Nat),K.lookup a=some o/\o.cls = .type "tuple"/\o.data = .seq its n/\its.size<=sizeLine/\Vals xs its.toList
def zOo:Value->Option V
 | .none=>some .non
 | .bool b=>some (.bl b)
 | .int i _=>some (.int i)
 | .str x _=>some (.str x)
 | .bytes b _=>some (.byt b)
 | .float b _=>some (.flt b)
 | .ref a=>some (.ref a)
 | .type n=>some (.ty n)
 | _=>none
theorem RelV.abs {x:V}{u:Value}(r:RelV x u):zOo u=some x:=by
 cases x with
 | non=>cases r;rfl
 | bl _=>cases r;rfl
 | int _=>obtain⟨t,rfl⟩:=r;rfl
 | str _=>obtain⟨t,rfl⟩:=r;rfl
 | byt _=>obtain⟨t,rfl⟩:=r;rfl
 | flt _=>obtain⟨t,rfl⟩:=r;rfl
 | ref _=>cases r;rfl
 | ty _=>cases r;rfl
theorem RelV.inj {x y:V}{u:Value}(r:RelV x u)(q:RelV y u):x=y:=Option.some.inj (r.abs.symm.trans q.abs)
theorem Vals.inj:∀ {xs ys:List V} {us:List Value},Vals xs us->Vals ys us->xs=ys
 | _,_,_,.nil,.nil=>rfl
 | _,_,_,.cons r t,.cons r' t'=>by rw[r.inj r',Vals.inj t t']
section
variable {X:Cx} {pins:List (Addr×Obj)} {σ:St} {H:Hp} {s:Shared} {a:Addr} {xs ys:List V}
theorem SqL.of {K:PySem.W.Frag}(h:H a=some (.lst xs)):SqL K H a xs:=.inl (.inl h)
theorem SqT.of {K:PySem.W.Frag}(h:H a=some (.tup xs)):SqT K H a xs:=.inl (.inl h)
theorem Inv.list (I:Inv X pins σ H s)(h:SqL X.K H a xs):∃its:List Value,Vals xs its/\PlainL s.heap a its.toArray/\xs.length<=sizeLine:=by
 rcases h with h | ⟨o,its,n,hk,hc,hd,hs,hz,r⟩
 · obtain⟨z,its,n,r,e⟩:=h.ok I.hok
   exact⟨its,r,⟨_,n,e,rfl,rfl,rfl⟩,z⟩
 · refine⟨its.toList,r,⟨o,n,I.kIn a o hk,hc,hd,by simpa using hs⟩,?_⟩
   have e:=r.length
   simp only[Array.length_toList] at e
   omega
theorem Inv.tuple (I:Inv X pins σ H s)(h:SqT X.K H a xs):∃its:List Value,Vals xs its/\IsTup s.heap a its.toArray/\xs.length<=sizeLine:=by
 rcases h with h | ⟨o,its,n,hk,hc,hs,hz,r⟩
 · obtain⟨z,its,r,p⟩:=h.ok I.hok
   exact⟨its,r,p,z⟩
 · refine⟨its.toList,r,⟨o,I.kIn a o hk,hc,n,by simpa using hs⟩,?_⟩
   have e:=r.length
   simp only[Array.length_toList] at e
   omega
theorem Inv.list_inj (I:Inv X pins σ H s)(h:SqL X.K H a xs)(h':SqL X.K H a ys):xs=ys:=by
 obtain⟨its,r,⟨o,n,e,_,_,d⟩,_⟩:=I.list h
 obtain⟨its',r',⟨o',n',e',_,_,d'⟩,_⟩:=I.list h'
 rw[e] at e';cases e'
 rw[d] at d'
 injection d' with d1 _
 have:its=its':=by simpa using congrArg Array.toList d1
 subst this
 exact r.inj r'
theorem Inv.tuple_inj (I:Inv X pins σ H s)(h:SqT X.K H a xs)(h':SqT X.K H a ys):xs=ys:=by
 obtain⟨its,r,⟨o,e,_,n,d⟩,_⟩:=I.tuple h
 obtain⟨its',r',⟨o',e',_,n',d'⟩,_⟩:=I.tuple h'
 rw[e] at e';cases e'
 rw[d] at d'
 injection d' with d1 _
 have:its=its':=by simpa using congrArg Array.toList d1
 subst this
 exact r.inj r'
end
abbrev Cx.wish (X:Cx)(E:Value->Shared->Prop):Cx:={ X with xe:=E }
abbrev Cx.nox (X:Cx):Cx:=X.wish fun _ _=>False
theorem Cx.Ok.wish {X:Cx}(ok:X.Ok)(E:Value->Shared->Prop):(X.wish E).Ok :=
 ⟨ok.mod,ok.kind,ok.glob,ok.blt,ok.above,ok.inj,ok.has,ok.cab,ok.hd,ok.frames,ok.stk,ok.exf,ok.bs,ok.bsz,ok.noex,ok.exfs,ok.funs,ok.frf⟩
theorem Cx.Ok.unwish {X:Cx}{E:Value->Shared->Prop}(ok:(X.wish E).Ok):X.Ok :=
 ⟨ok.mod,ok.kind,ok.glob,ok.blt,ok.above,ok.inj,ok.has,ok.cab,ok.hd,ok.frames,ok.stk,ok.exf,ok.bs,ok.bsz,ok.noex,ok.exfs,ok.funs,ok.frf⟩
section
variable {X:Cx} {pins:List (Addr×Obj)} {σ:St} {H:Hp} {s:Shared} {E:Value->Shared->Prop}
theorem Inv.wish (I:Inv X pins σ H s)(E:Value->Shared->Prop):Inv (X.wish E) pins σ H s:=⟨I.ok.wish E,I.os,I.bare,I.base,I.loc,I.cell,I.free,I.freeC,I.pin,I.hok,I.len⟩
theorem Inv.unwish (I:Inv (X.wish E) pins σ H s):Inv X pins σ H s:=⟨I.ok.unwish,I.os,I.bare,I.base,I.loc,I.cell,I.free,I.freeC,I.pin,I.hok,I.len⟩
theorem SP.unwish {D:Ends}{f:Flow}{s':Shared}(h:SP (X.wish E) pins D f s'):SP X pins D f s':=by
 cases f with
 | next=>obtain⟨σ',H',I,q⟩:=h;exact⟨σ',H',I.unwish,q⟩
 | brk=>obtain⟨σ',H',I,q⟩:=h;exact⟨σ',H',I.unwish,q⟩
 | cont=>obtain⟨σ',H',I,q⟩:=h;exact⟨σ',H',I.unwish,q⟩
 | ret u=>obtain⟨v,σ',H',I,r,q⟩:=h;exact⟨v,σ',H',I.unwish,r,q⟩
theorem PSs.nox {st:List Stmt}{t:TS}(h:PSs X.nox st t):PSs X st t:=fun pins s σ H D I hw =>
 wpAny_mono (h pins s σ H D (I.wish _) hw) (fun _ _ q=>q.unwish) fun _ _ z=>False.elim z
end
section
variable {X:Cx} {st:Stmt} {rest:List Stmt} {t u:TS} {e:Expr} {te:TE} {pos:Pos}
def zPk:TS:=fun D σ H=>D.nx σ H
def zOr (t u:TS):TS:=fun D σ H=>t { D with nx:=u D } σ H
theorem zYK:PSs X [] zPk:=fun _ _ σ H _ I h=>wpAny_execs_nil ⟨σ,H,I,h⟩
theorem hV (h1:PS X st t)(h2:PSs X rest u):PSs X (st::rest) (zOr t u):=by
 intro pins s σ H D I h
 refine wpAny_execs_cons (thn (h1 pins s σ H { D with nx:=u D } I h) fun f s1 q=>?_)
 cases f with
 | next =>
   obtain⟨σ',H',I',q⟩:=q
   exact h2 pins s1 σ' H' D I' q
 | ret v=>exact q
 | brk=>exact q
 | cont=>exact q
theorem zQY (h1:PS X st t):PSs X [st] t:=by
 intro pins s σ H D I h
 refine wpAny_execs_cons (thn (h1 pins s σ H D I h) fun f s1 q=>?_)
 cases f with
 | next=>exact wpAny_execs_nil q
 | ret v=>exact q
 | brk=>exact q
 | cont=>exact q
theorem Inv.quiet {pins:List (Addr×Obj)}{σ:St}{H:Hp}{s:Shared}(I:Inv X pins σ H s):interactive X.env=false:=by simp[interactive,I.ok.kind]
def zON (te:TE):TS:=fun D σ H=>te σ H fun _ H1=>D.nx σ H1
theorem zVj (he:PE X e te)(hs:swapsWith e none pos.line X.env=pure false:=by rfl):PS X (.Expr e pos) (zON te):=by
 intro pins s σ H D I h
 exact wpAny_Expr_any (thn (he pins s σ H _ I h) fun v s1 ⟨x,H1,I1,r1,q1⟩=>⟨σ,H1,I1,q1⟩) I.quiet hs
def zOl (te:TE):TS:=fun D σ H=>te σ H D.rt
theorem zWU (he:PE X e te):PS X (.Return (some e) pos) (zOl te):=by
 intro pins s σ H D I h
 exact wpAny_Return_some (thn (he pins s σ H _ I h) fun v s1 ⟨x,H1,I1,r1,q1⟩=>⟨x,σ,H1,I1,r1,q1⟩)
def zOn (c:TT)(t u:TS):TS:=fun D σ H=>c σ H fun b H1=>if b=true then t D σ H1 else u D σ H1
theorem zOJ {c:Expr}{a b:List Stmt}{tc:TT}(hc:PT X c tc)(ha:PSs X a t)(hb:PSs X b u):PS X (.If c a b pos) (zOn tc t u):=by
 intro pins s σ H D I h
 refine wpAny_If (thn (hc pins s σ H _ I h) fun d s1 ⟨H1,I1,q1⟩=>?_)
 cases d with
 | true=>exact ha pins s1 σ H1 D I1 q1
 | false=>exact hb pins s1 σ H1 D I1 q1
end
abbrev TG:=V->St->Hp->(St->Hp->Prop)->Prop
abbrev TGs:=List V->St->Hp->(St->Hp->Prop)->Prop
def PG (X:Cx)(target:Expr)(t:TG):Prop :=
 ∀(pins:List (Addr×Obj)) (s:Shared) (σ:St) (H:Hp) (v:V) (u:Value) (Q:St->Hp->Prop),Inv X pins σ H s->RelV v u->t v σ H Q ->
   wpAny (model X.prog X.w) X.A (assign target X.env u) (fun _ s'=>∃σ' H',Inv X pins σ' H' s'/\Q σ' H') X.xe s
def PGs (X:Cx)(ts:List Expr)(t:TGs):Prop :=
 ∀(pins:List (Addr×Obj)) (s:Shared) (σ:St) (H:Hp) (vs:List V) (us:List Value) (Q:St->Hp->Prop),Inv X pins σ H s->Vals vs us->t vs σ H Q ->
   wpAny (model X.prog X.w) X.A (assignInOrder ((assignEach ts X.env).map (·.2)) us) (fun _ s'=>∃σ' H',Inv X pins σ' H' s'/\Q σ' H') X.xe s
abbrev zPD:=V->V->V->Hp->(Hp->Prop)->Prop
def zQm (X:Cx)(t:zPD):Prop :=
 ∀(pins:List (Addr×Obj)) (s:Shared) (σ:St) (H:Hp) (o i v:V) (ov iv u:Value) (Q:Hp->Prop),Inv X pins σ H s->RelV o ov->RelV i iv->RelV v u->t o i v H Q ->
   wpAny (model X.prog X.w) X.A (setItem ov iv u) (fun _ s'=>∃H',Inv X pins σ H' s'/\Q H') X.xe s
section
variable {X:Cx} {pos:Pos}
def zXT (i:Nat):TG:=fun v σ H Q=>Q (σ.set i (some v)) H
theorem zRm {i:Nat}{x:Str}(hN:X.N.Nodup)(hi:X.N[i]?=some x)(hx:Loc X.env.scope x)(hf:X.fn x=true∨X.env.scope.names.lookup x=some .local:=by first | exact .inl rfl | exact .inr rfl | assumption):PG X (.Name x pos) (zXT i):=by
 intro pins s σ H v u Q I r h
 exact wpAny_assign_Name (zXY I hN hi hx r (fun s' I'=>⟨_,H,I',h⟩) hf)
def zOt:TGs:=fun vs σ H Q=>vs=[]/\Q σ H
def zPr (t:TG)(u:TGs):TGs:=fun vs σ H Q=>∃v r,vs=v::r/\t v σ H fun σ' H'=>u r σ' H' Q
theorem zRW:PGs X [] zOt:=by
 intro pins s σ H vs us Q I r h
 obtain⟨e,h⟩:=h
 subst e
 cases r
 exact assignInOrder_nil ⟨σ,H,I,h⟩
theorem zS6 {e:Expr}{es:List Expr}{t:TG}{u:TGs}(h1:PG X e t)(h2:PGs X es u)
   (hs:(assignEach (e::es) X.env).map (·.2)=assign e X.env::(assignEach es X.env).map (·.2):=by rfl):PGs X (e::es) (zPr t u):=by
 intro pins s σ H vs us Q I r h
 obtain⟨v,vr,e1,h⟩:=h
 subst e1
 cases r with
 | cons r rr =>
   rw[hs]
   refine assignInOrder_cons (thn (h1 pins s σ H _ _ _ I r h) fun _ s1 ⟨σ1,H1,I1,q1⟩=>?_)
   exact h2 pins s1 σ1 H1 _ _ Q I1 rr q1
def zOj (K:PySem.W.Frag)(n:Nat)(t:TGs):TG:=fun v σ H Q=>∃a xs,v = .ref a/\SqT K H a xs/\xs.length=n/\t xs σ H Q
theorem zPv {es:List Expr}{k:Nat}{t:TGs}{n:Nat}(hc:X.calm=true)(h:PGs X es t)
   (hn:(assignEach es X.env).length=n:=by rfl) (hst:(assignEach es X.env).findIdx? (·.1)=none:=by rfl):PG X (.Tuple es k pos) (zOj X.K n t):=by
 intro pins s σ H v u Q I r hw
 obtain⟨a,xs,e1,hq,hl,hw⟩:=hw
 subst e1
 cases r
 obtain⟨its,rv,ht,hz⟩:=I.tuple hq
 refine assign_Tuple_tuple (I.ok.hd hc) ht (by simp[hn,←hl,rv.length]) hst fun h' hx=>?_
 have I1:Inv X pins σ H { s with heap:=h' }:=I.kept (t':=s.toks) fun b o e=>hx b o (Nat.ne_of_lt (Heap.lt_size e)) e
 exact h pins _ σ H xs _ Q I1 (by simpa using rv) hw
def zNY (to ti:TE)(t:zPD):TG:=fun v σ H Q=>to σ H fun o H1=>ti σ H1 fun i H2=>t o i v H2 fun H3=>Q σ H3
theorem zTT {o i:Expr}{to ti:TE}{t:zPD}(ho:PE X o to)(hi:PE X i ti)(hs:zQm X t)
   (ha:∀v,assign (.Subscript o i pos) X.env v=(do
     let ov ←holding [v] (eval o X.env)
     let iv ←holding [v,ov] (eval i X.env)
     standAt pos
     holding [v,ov,iv] (setItem ov iv v)
     release [v,ov,iv] []):=by intro _;rfl):PG X (.Subscript o i pos) (zNY to ti t):=by
 intro pins s σ H v u Q I r h
 rw[ha]
 refine wpAny_bind (wpAny_holding (thn (ho pins s σ H _ I h) fun ov s1 ⟨x,H1,I1,r1,q1⟩=>?_))
 refine wpAny_bind (wpAny_holding (thn (hi pins s1 σ H1 _ I1 q1) fun iv s2 ⟨y,H2,I2,r2,q2⟩=>?_))
 refine wpAny_bind (wpAny_standAt (wpAny_bind (wpAny_holding (thn (hs pins s2 σ H2 x y v ov iv u _ I2 r1 r2 r q2) fun _ s3 ⟨H3,I3,q3⟩=>?_))))
 exact wpAny_release ⟨σ,H3,I3,q3⟩
def zUC (te:TE)(g:TG):TS:=fun D σ H=>te σ H fun x H1=>g x σ H1 D.nx
theorem zWv {tg e:Expr}{te:TE}{g:TG}(he:PE X e te)(hg:PG X tg g)(hs:swapsWithSole [tg] e pos.line X.env=pure false:=by rfl)(hw:swappedStores [tg] e X.env=pure none:=by rfl)
   (h1:(assignEach [tg] X.env).map (·.2)=[assign tg X.env]:=by rfl):PS X (.Assign [tg] e pos) (zUC te g):=by
 intro pins s σ H D I h
 refine wpAny_Assign_stores (thn (he pins s σ H _ I h) fun v s1 ⟨x,H1,I1,r1,q1⟩=>?_) hs hw
 rw[h1]
 exact thn (hg pins s1 σ H1 x v _ I1 r1 q1) fun _ s2 q=>q
theorem zY1 {i:Nat}{x:Str}{e:Expr}{te:TE}{pos':Pos}(hN:X.N.Nodup)(hi:X.N[i]?=some x)(hx:Loc X.env.scope x)(he:PE X e te)(hs:swapsWith e (some (.Name x pos')) pos.line X.env=pure false:=by rfl)(hf:X.fn x=true∨X.env.scope.names.lookup x=some .local:=by first | exact .inl rfl | exact .inr rfl | assumption) :
   PS X (.Assign [.Name x pos'] e pos) (zUC te (zXT i)):=by
 intro pins s σ H D I h
 refine wpAny_Assign_Name (thn (he pins s σ H _ I h) fun v s1 ⟨y,H1,I1,r1,q1⟩=>?_) hs
 exact zXY I1 hN hi hx r1 (fun s2 I2=>⟨_,H1,I2,q1⟩) hf
end
section
variable {X:Cx} {pos:Pos}
def zPW (c:TT)(tb:TS):TS:=fun D σ H=>∃W:Nat->St->Hp->Prop,(∃m,W m σ H)/\∀m σ H,W m σ H ->
 c σ H fun b H1=>if b=true then ∃N:St->Hp->Prop,(∀σ' H',N σ' H'->∃m',m' < m/\W m' σ' H')/\tb { D with nx:=N,ct:=N,bk:=D.nx } σ H1 else D.nx σ H1
theorem zSV {c:Expr}{body:List Stmt}{tc:TT}{tb:TS}(hp:PassesOwn (model X.prog X.w) X.A X.env X.xe)(hc:PT X c tc)(hb:PSs X body tb):PS X (.While c body [] pos) (zPW tc tb):=by
 intro pins s σ H D I h
 obtain⟨W,⟨m0,w0⟩,turn⟩:=h
 refine wpAny_While (codeAny_whileLoop (fun n s'=>∃σ' H',Inv X pins σ' H' s'/\W n σ' H') ?_ m0 ⟨σ,H,I,w0⟩)
 rintro n s1 ⟨σ1,H1,I1,w1⟩
 refine wpAny_passesOwn hp (thn (hc pins s1 σ1 H1 _ I1 (turn n σ1 H1 w1)) fun b s2 ⟨H2,I2,q2⟩=>?_)
 cases b with
 | true =>
   obtain⟨N,hN,q2⟩:=q2
   rw[if_pos rfl]
   refine wpAny_passesOwn hp (thn (hb pins s2 σ1 H2 _ I2 q2) fun f s3 q3=>?_)
   cases f with
   | next =>
     obtain⟨σ3,H3,I3,n3⟩:=q3
     obtain⟨m',hm,w3⟩:=hN σ3 H3 n3
     exact⟨m',hm,σ3,H3,I3,w3⟩
   | cont =>
     obtain⟨σ3,H3,I3,n3⟩:=q3
     obtain⟨m',hm,w3⟩:=hN σ3 H3 n3
     exact⟨m',hm,σ3,H3,I3,w3⟩
   | brk=>exact q3
   | ret v=>exact q3
 | false =>
   rw[if_neg Bool.false_ne_true]
   exact wpAny_execs_nil ⟨σ1,H2,I2,q2⟩
end
structure It where
 go:Nat->Hp->Prop
 yld:Nat->Hp->V->Hp->Prop
 stop:Nat->Hp->Prop
def oV (X:Cx)(pins:List (Addr×Obj))(H:Hp)(b:Addr):Prop :=
 H b=none/\b≠X.env.locals/\b∉X.fs/\(b∈X.ex∨X.s₀.heap.objs.size<=b)/\(∀x c,X.env.cells.lookup x=some c->c≠b)/\∀p∈X.pn++pins,p.1≠b
theorem Inv.fpOk {X:Cx}{pins:List (Addr×Obj)}{σ:St}{H H':Hp}{s:Shared}{b:Addr}(I:Inv X pins σ H s)(hb:s.heap.objs.size<=b)(hn:H' b=none):oV X pins H' b:=by
 refine⟨hn,Nat.ne_of_gt (Nat.lt_of_lt_of_le I.lt hb),I.nofs hb,.inr (Nat.le_trans I.sz hb),fun x c e z=>?_,fun p hp z=>?_⟩
 · obtain⟨v,q⟩:=I.cell x c e
   exact absurd (Nat.lt_of_lt_of_le q.lt (by rw[z];exact hb)) (Nat.lt_irrefl _)
 · exact absurd (Nat.lt_of_lt_of_le (Heap.lt_size (I.pin p hp).1) (by rw[z];exact hb)) (Nat.lt_irrefl _)
structure Turn (P:Program)(w:World)(K:PySem.W.Frag)(tg:Expr)(J:It)(fp:List Addr)(it:Addr)(tn:Nat->Heap->Prop):Prop where
 mem:it∈fp
 obj:∀i h,tn i h->∀b∈fp,∃o,h.get? b=some o/\∀v,o.data ≠ .cell v
 keep:∀i h h',tn i h->(∀b∈fp,∀o,h.get? b=some o->h'.get? b=some o)->tn i h'
 item:∀(X:Cx),X.prog=P->X.w=w->X.K=K->X.calm=true->∀(i:Nat) (pins:List (Addr×Obj)) (s:Shared) (σ:St) (H:Hp) (E:Value->Shared->Prop),Inv X pins σ H s->(∀b∈fp,oV X pins H b)->tn i s.heap->J.go i H ->
   wpAny (model P w) X.A (pyNext (.ref it)) (fun r s1=>∃u,r=some u /\
     wpAny (model P w) X.A (letOwnedTupleGo tg (.ref it) u) (fun _ s2=>∃x H',Inv X pins σ H' s2/\RelV x u/\J.yld i H x H'/\tn (i+1) s2.heap/\∀b∈fp,H' b=none) E s1) E s
 done:∀(X:Cx),X.prog=P->X.w=w->X.K=K->X.calm=true->∀(i:Nat) (pins:List (Addr×Obj)) (s:Shared) (σ:St) (H:Hp) (E:Value->Shared->Prop),Inv X pins σ H s->(∀b∈fp,oV X pins H b)->tn i s.heap->J.stop i H ->
   wpAny (model P w) X.A (pyNext (.ref it)) (fun r s1=>r=none/\Inv X pins σ H s1) E s
 self:∀(A:Around) (i:Nat) (s:Shared) (Q:Value->Shared->Prop) (E:Value->Shared->Prop),tn i s.heap->Q (.ref it) s->wpAny (model P w) A (pyIter (.ref it)) Q E s
abbrev TI:=St->Hp->(It->Hp->Prop)->Prop
def PIE (X:Cx)(pins:List (Addr×Obj))(σ:St)(tg:Expr)(R:It->Hp->Prop)(itv:Value)(s2:Shared):Prop :=
 ∃(it:Addr) (fp:List Addr) (tn:Nat->Heap->Prop) (J:It) (H':Hp),itv = .ref it/\Inv X pins σ H' s2/\Turn X.prog X.w X.K tg J fp it tn/\tn 0 s2.heap/\(∀b∈fp,oV X pins H' b)/\R J H'
def PI (X:Cx)(tg iter:Expr)(wi:TI):Prop :=
 ∀(pins:List (Addr×Obj)) (s:Shared) (σ:St) (H:Hp) (R:It->Hp->Prop),Inv X pins σ H s->wi σ H R ->
   wpAny (model X.prog X.w) X.A (eval iter X.env) (fun v s1=>wpAny (model X.prog X.w) X.A (pyIter v) (PIE X pins σ tg R) X.xe s1) X.xe s
theorem zXg {M:Model}{A:Around}{E:Value->Shared->Prop}{s:Shared}{tg:Expr}{it:Addr}{u:Value}{o:Obj}{n:String}{vs:Array Value}{Q:Unit->Shared->Prop}(ho:s.heap.get? it=some o)(hc:o.cls = .type n)(hd:o.data = .fields vs)
   (hn:["enumerate","zip","dict_itemiterator","dict_reverseitemiterator","odict_iterator","itertools.zip_longest","itertools.pairwise"].contains n=false) (hQ:Q () s):wpAny M A (letOwnedTupleGo tg (.ref it) u) Q E s:=by
 unfold letOwnedTupleGo
 cases tg<;>first
   | exact wpAny_pure hQ
   | (cases u<;>first
       | exact wpAny_pure hQ
       | (refine wpAny_bind (wpAny_load ho ?_)
          rw[hc,hd]
          show wpAny M A (if (["enumerate","zip","dict_itemiterator","dict_reverseitemiterator","odict_iterator","itertools.zip_longest","itertools.pairwise"].contains n&&vs[0]?==some (rawInt _))=true then _ else _) Q E s
          rw[if_neg (by intro h;rw[hn,Bool.false_and] at h;cases h)]
          exact wpAny_pure hQ))
def Itl (K:PySem.W.Frag)(a:Addr):It :=
 ⟨fun i H=>∃xs x,SqL K H a xs/\xs[i]?=some x,fun i H x H'=>H'=H/\∀xs,SqL K H a xs->xs[i]?=some x,fun i H=>∃xs,SqL K H a xs/\xs.length<=i⟩
def Itt (K:PySem.W.Frag)(a:Addr):It :=
 ⟨fun i H=>∃xs x,SqT K H a xs/\xs[i]?=some x,fun i H x H'=>H'=H/\∀xs,SqT K H a xs->xs[i]?=some x,fun i H=>∃xs,SqT K H a xs/\xs.length<=i⟩
def Itr (lo:Int)(n:Nat):It:=⟨fun i _=>i < n,fun i H x H'=>H'=H/\x = .int (lo+i),fun i _=>n<=i⟩
theorem zUt {P:Program}{w:World}{K:PySem.W.Frag}{tg:Expr}(a it:Addr):Turn P w K tg (Itl K a) [it] it (fun i h=>h.IsListIter it a i) where
 mem:=by simp
 obj:=fun i h st b hb=>by
   have e:b=it:=by simpa using hb
   subst e
   obtain⟨o,e,c,d⟩:=st
   exact⟨o,e,fun v z=>by rw[d] at z;cases z⟩
 keep:=fun i h h' st k=>st.at fun o e=>k it (by simp) o e
 item:=by
   intro X hP hw hK hc i pins s σ H E I hf st hg
   subst hP hw hK
   obtain⟨xs,x,hq,hx⟩:=hg
   obtain⟨its,rv,p,hz⟩:=I.list hq
   obtain⟨u,hu,ru⟩:=rv.get hx
   obtain⟨f0,f1,f2,f3,f4,f5⟩:=hf it (by simp)
   refine wpAny_pyNext_list_item st p.isList (x:=u) (by simpa using hu) fun h' st' sb=>?_
   have I1:Inv X pins σ H { s with heap:=h' }:=I.turned (t':=s.toks) (fun b o hb e=>(sb.2 b hb).trans e) f0 f1 f3 f4 f5
   obtain⟨o,e,c,d⟩:=id st'
   exact⟨u,rfl,zXg (s:={ s with heap:=h' }) e c d (by decide) ⟨x,H,I1,ru,⟨rfl,fun ys hy=>by rw[I.list_inj hy hq];exact hx⟩,st',fun b hb=>(hf b hb).1⟩⟩
 done:=by
   intro X hP hw hK hc i pins s σ H E I hf st hg
   subst hP hw hK
   obtain⟨xs,hq,hx⟩:=hg
   obtain⟨its,rv,p,hz⟩:=I.list hq
   obtain⟨f0,f1,f2,f3,f4,f5⟩:=hf it (by simp)
   have hl:=rv.length
   exact wpAny_pyNext_list_end (I.ok.hd hc) st p.isList (by simp;omega) fun h' eb=>⟨rfl,I.turned (t':=s.toks) (fun b o hb e=>eb b o hb e) f0 f1 f3 f4 f5⟩
 self:=fun _ _ _ _ _ st h=>wpAny_pyIter_listiter st h
theorem zWA {P:Program}{w:World}{K:PySem.W.Frag}{tg:Expr}(a it:Addr):Turn P w K tg (Itt K a) [it] it (fun i h=>h.IsTupleIter it a i) where
 mem:=by simp
 obj:=fun i h st b hb=>by
   have e:b=it:=by simpa using hb
   subst e
   obtain⟨o,e,c,d⟩:=st
   exact⟨o,e,fun v z=>by rw[d] at z;cases z⟩
 keep:=fun i h h' st k=>st.at fun o e=>k it (by simp) o e
 item:=by
   intro X hP hw hK hc i pins s σ H E I hf st hg
   subst hP hw hK
   obtain⟨xs,x,hq,hx⟩:=hg
   obtain⟨its,rv,p,hz⟩:=I.tuple hq
   obtain⟨u,hu,ru⟩:=rv.get hx
   obtain⟨f0,f1,f2,f3,f4,f5⟩:=hf it (by simp)
   refine wpAny_pyNext_tuple_item st (show s.heap.IsTuple a its.toArray from p) (x:=u) (by simpa using hu) fun h' st' sb=>?_
   have I1:Inv X pins σ H { s with heap:=h' }:=I.turned (t':=s.toks) (fun b o hb e=>(sb.2 b hb).trans e) f0 f1 f3 f4 f5
   obtain⟨o,e,c,d⟩:=id st'
   exact⟨u,rfl,zXg (s:={ s with heap:=h' }) e c d (by decide) ⟨x,H,I1,ru,⟨rfl,fun ys hy=>by rw[I.tuple_inj hy hq];exact hx⟩,st',fun b hb=>(hf b hb).1⟩⟩
 done:=by
   intro X hP hw hK hc i pins s σ H E I hf st hg
   subst hP hw hK
   obtain⟨xs,hq,hx⟩:=hg
   obtain⟨its,rv,p,hz⟩:=I.tuple hq
   obtain⟨f0,f1,f2,f3,f4,f5⟩:=hf it (by simp)
   have hl:=rv.length
   exact wpAny_pyNext_tuple_end (I.ok.hd hc) st (show s.heap.IsTuple a its.toArray from p) (by simp;omega) fun h' eb=>⟨rfl,I.turned (t':=s.toks) (fun b o hb e=>eb b o hb e) f0 f1 f3 f4 f5⟩
 self:=fun _ _ _ _ _ st h=>wpAny_pyIter_tupleiter st h
theorem zWd {P:Program}{w:World}{K:PySem.W.Frag}{tg:Expr}(it:Addr)(lo:Int)(n:Nat):Turn P w K tg (Itr lo n) [it] it (fun i h=>IsRangeIter h it (lo+(i:Nat)*1) ((n:Int) - (i:Nat)) 1) where
 mem:=by simp
 obj:=fun i h st b hb=>by
   have e:b=it:=by simpa using hb
   subst e
   exact⟨_,st,fun v z=>by
     have z':Data.fields _=Data.cell v:=z
     cases z'⟩
 keep:=fun i h h' st k=>k it (by simp) _ st
 item:=by
   intro X hP hw hK hc i pins s σ H E I hf st hg
   subst hP hw hK
   obtain⟨f0,f1,f2,f3,f4,f5⟩:=hf it (by simp)
   have W:=Walks.range (prog:=X.prog) (w:=X.w) (I.ok.hd hc) it lo 1 n
   refine W.item i s _ _ hg st fun v h' tk hv st' kk=>?_
   obtain⟨t,rfl⟩:=hv
   have I1:Inv X pins σ H { s with heap:=h',toks:=tk }:=I.turned (fun b o hb e=>kk b o (by simpa using hb) e) f0 f1 f3 f4 f5
   refine⟨_,rfl,zXg (s:={ s with heap:=h',toks:=tk }) (n:="range_iterator") st' rfl rfl (by decide) ⟨.int (lo+i),H,I1,⟨t,?_⟩,⟨rfl,rfl⟩,st',fun b hb=>(hf b hb).1⟩⟩
   rw[Int.mul_one]
 done:=by
   intro X hP hw hK hc i pins s σ H E I hf st hg
   subst hP hw hK
   obtain⟨f0,f1,f2,f3,f4,f5⟩:=hf it (by simp)
   exact wpAny_pyNext_range_end (I.ok.hd hc) st (by have:n<=i:=hg;omega) fun h' eb=>⟨rfl,I.turned (t':=s.toks) (fun b o hb e=>eb b o hb e) f0 f1 f3 f4 f5⟩
 self:=fun _ _ _ _ _ st h=>wpAny_pyIter_rangeiter st h
end L2
namespace L2
open PySem PySem.Spec PyProof.Rows
section
variable {X:Cx} {tg:Expr}
def zPo (K:PySem.W.Frag)(tl:TE):TI:=fun σ H R=>tl σ H fun x H1=>∃a,x = .ref a/\(∃xs,SqL K H1 a xs)/\R (Itl K a) H1
def zOm (K:PySem.W.Frag)(tl:TE):TI:=fun σ H R=>tl σ H fun x H1=>∃a,x = .ref a/\(∃xs,SqT K H1 a xs)/\R (Itt K a) H1
theorem zVW {l:Expr}{tl:TE}(hl:PE X l tl):PI X tg l (zPo X.K tl):=by
 intro pins s σ H R I h
 refine thn (hl pins s σ H _ I h) fun v s1 ⟨x,H1,I1,r1,q1⟩=>?_
 obtain⟨a,e,⟨xs,hq⟩,q⟩:=q1
 subst e
 cases r1
 obtain⟨its,rv,p,hz⟩:=I1.list hq
 refine wpAny_pyIter_list p.isList ?_
 refine⟨s1.heap.objs.size,[s1.heap.objs.size],_,_,H1,rfl,I1.kept (t':=s1.toks) fun b o e=>Heap.get?_push_of_some _ e,zUt a _,⟨_,Heap.get?_push_size _ rfl,rfl,rfl⟩,fun b hb=>?_,q⟩
 have e:b=s1.heap.objs.size:=by simpa using hb
 subst e
 exact I1.fpOk (Nat.le_refl _) (I1.hok.fresh (Nat.le_refl _))
theorem zP8 {l:Expr}{tl:TE}(hl:PE X l tl):PI X tg l (zOm X.K tl):=by
 intro pins s σ H R I h
 refine thn (hl pins s σ H _ I h) fun v s1 ⟨x,H1,I1,r1,q1⟩=>?_
 obtain⟨a,e,⟨xs,hq⟩,q⟩:=q1
 subst e
 cases r1
 obtain⟨its,rv,p,hz⟩:=I1.tuple hq
 refine wpAny_pyIter_tuple (show s1.heap.IsTuple a its.toArray from p) ?_
 refine⟨s1.heap.objs.size,[s1.heap.objs.size],_,_,H1,rfl,I1.kept (t':=s1.toks) fun b o e=>Heap.get?_push_of_some _ e,zWA a _,⟨_,Heap.get?_push_size _ rfl,rfl,rfl⟩,fun b hb=>?_,q⟩
 have e:b=s1.heap.objs.size:=by simpa using hb
 subst e
 exact I1.fpOk (Nat.le_refl _) (I1.hok.fresh (Nat.le_refl _))
theorem zYq {pins:List (Addr×Obj)}{σ:St}{H:Hp}{s:Shared}{R:It->Hp->Prop}{E:Value->Shared->Prop}{lo hi:Int}{t u v:Tok}{tk:Nat}(I:Inv X pins σ H s)(h1 : -(2^62)<=lo)(h2:lo < 2^62)(h3 : -(2^62)<=hi)(h4:hi < 2^62)
   (q:R (Itr lo (hi - lo).toNat) H):wpAny (model X.prog X.w) X.A (pyIter (.ref s.heap.objs.size)) (PIE X pins σ tg R) E { s with heap:=s.heap.push { cls:=.type "range",data:=.fields #[.int lo t,.int hi u,.int 1 v] },toks:=tk }:=by
 refine wpAny_pyIter_range (IsRange.new ..) (small_one h1 h2 h3 h4) ?_
 have I1:Inv X pins σ H { s with heap:=s.heap.push { cls:=.type "range",data:=.fields #[.int lo t,.int hi u,.int 1 v] },toks:=tk }:=I.kept fun b o e=>Heap.get?_push_of_some _ e
 refine⟨(s.heap.push { cls:=.type "range",data:=.fields #[.int lo t,.int hi u,.int 1 v] }).objs.size,[(s.heap.push { cls:=.type "range",data:=.fields #[.int lo t,.int hi u,.int 1 v] }).objs.size],_,_,H,rfl,
   I1.kept (t':=tk) fun b o e=>Heap.get?_push_of_some _ e,zWd _ lo (hi - lo).toNat,?_,fun b hb=>?_,q⟩
 · have e1:lo+((0:Nat):Int)*1=lo:=by simp
   have e2:(((hi - lo).toNat:Nat):Int) - ((0:Nat):Int)=Builtin.Range.rangeSize lo hi 1:=by rw[rangeSize_one];split<;>omega
   show IsRangeIter _ _ (lo+((0:Nat):Int)*1) ((((hi - lo).toNat:Nat):Int) - ((0:Nat):Int)) 1
   rw[e1,e2]
   exact Heap.get?_push_size _ rfl
 · have e:b=(s.heap.push { cls:=.type "range",data:=.fields #[.int lo t,.int hi u,.int 1 v] }).objs.size:=by simpa using hb
   subst e
   exact I1.fpOk (Nat.le_refl _) (I1.hok.fresh (Nat.le_refl _))
def zPj (ta:TA):TI:=fun σ H R=>ta σ H fun vs H1=>∃j:Int,vs=[.int j] /\ -(2^62)<=j/\j < 2^62/\R (Itr 0 j.toNat) H1
def zOw (ta:TA):TI:=fun σ H R=>ta σ H fun vs H1=>∃i j:Int,vs=[.int i,.int j]/\(-(2^62)<=i/\i < 2^62 /\ -(2^62)<=j/\j < 2^62)/\R (Itr i (j - i).toNat) H1
theorem zU1 {a:Expr}{ta:TA}{p pos:Pos}(hg:Gl X "range")(hm:X.mg "range"=none)(ha:PA X [a] ta)(hs:starEach [a] X.env=[(false,eval a X.env)]:=by rfl):PI X tg (.Call (.Name "range" p) [a] [] pos) (zPj ta):=by
 intro pins s σ H R I h
 refine Call_ (qY I hg hm boot_range (PyProof.Rows.callWith_type1 (thn (ha pos pins s σ H _ I h) fun us s1 ⟨vs,H1,I1,r1,q1⟩=>?_) hs rfl))
 obtain⟨j,e,q1,q2,q⟩:=q1
 subst e
 cases r1 with
 | cons r rr =>
   cases rr
   obtain⟨t,rfl⟩:=r
   exact call_range_1 (zYq I1 (by omega) (by omega) q1 q2 (by simpa using q))
theorem zUs {a b:Expr}{ta:TA}{p pos:Pos}(hg:Gl X "range")(hm:X.mg "range"=none)(ha:PA X [a,b] ta)(hs:starEach [a,b] X.env=[(false,eval a X.env),(false,eval b X.env)]:=by rfl)(hs2:starEach [b] X.env=[(false,eval b X.env)]:=by rfl) :
   PI X tg (.Call (.Name "range" p) [a,b] [] pos) (zOw ta):=by
 intro pins s σ H R I h
 refine Call_ (qY I hg hm boot_range (PyProof.Rows.callWith_type1 (thn (ha pos pins s σ H _ I h) fun us s1 ⟨vs,H1,I1,r1,q1⟩=>?_) (by rw[hs,hs2]) (by rw[hs2];rfl)))
 obtain⟨i,j,e,⟨q1,q2,q3,q4⟩,q⟩:=q1
 subst e
 cases r1 with
 | cons r rr =>
   cases rr with
   | cons r' rr =>
     cases rr
     obtain⟨t,rfl⟩:=r
     obtain⟨t',rfl⟩:=r'
     exact call_range_2 (zYq I1 q1 q2 q3 q4 q)
def zNZ (wi:TI)(g:TG)(tb:TS):TS:=fun D σ H=>wi σ H fun J H1=>∃W:Nat->Nat->St->Hp->Prop,(∃m,W 0 m σ H1)/\∀i m σ H,W i m σ H ->
 (J.stop i H/\D.nx σ H)∨(J.go i H/\∃N:St->Hp->Prop,(∀σ' H',N σ' H'->∃m',m' < m/\W (i+1) m' σ' H')/\∀x H',J.yld i H x H'->g x σ H' fun σ2 H2=>tb { D with nx:=N,ct:=N,bk:=D.nx } σ2 H2)
def bL (fp:List Addr)(h:Heap):List (Addr×Obj):=fp.filterMap fun b=>(h.get? b).map fun o=>(b,o)
theorem nS {fp:List Addr}{h:Heap}{b:Addr}{o:Obj}(hb:b∈fp)(e:h.get? b=some o):(b,o)∈bL fp h:=List.mem_filterMap.mpr ⟨b,hb,by rw[e];rfl⟩
theorem zUQ {fp:List Addr}{h:Heap}{p:Addr×Obj}(hp:p∈bL fp h):p.1∈fp/\h.get? p.1=some p.2:=by
 obtain⟨b,hb,e⟩:=List.mem_filterMap.mp hp
 cases q:h.get? b with
 | none=>rw[q] at e;cases e
 | some o =>
   rw[q] at e
   have e':(b,o)=p:=Option.some.inj e
   subst e'
   exact⟨hb,q⟩
theorem Inv.pinned {pins:List (Addr×Obj)}{σ:St}{H:Hp}{s:Shared}{fp:List Addr}(I:Inv X pins σ H s)(hf:∀b∈fp,oV X pins H b)(ho:∀b∈fp,∃o,s.heap.get? b=some o/\∀v,o.data ≠ .cell v):Inv X (pins++bL fp s.heap) σ H s :=
 I.pins_of fun p hp=>(List.mem_append.mp hp).elim (fun z=>I.pin p (List.mem_append_right _ z)) fun z=>by
   obtain⟨hb,e⟩:=zUQ z
   obtain⟨f0,f1,f2,_⟩:=hf p.1 hb
   obtain⟨o,e',d⟩:=ho p.1 hb
   rw[e] at e';cases e'
   exact⟨e,f0,f1,f2,d⟩
theorem Inv.unpinned {pins pl:List (Addr×Obj)}{σ:St}{H:Hp}{s:Shared}(I:Inv X (pins++pl) σ H s):Inv X pins σ H s:=I.pins_of fun p hp=>I.pin p (List.mem_append_right _ (List.mem_append_left _ hp))
theorem zPY {iter:Expr}{body:List Stmt}{wi:TI}{g:TG}{tb:TS}{pos:Pos}(hp:PassesOwn (model X.prog X.w) X.A X.env X.xe)(hc:X.calm=true)(hi:PI X tg iter wi)(hg:PG X tg g)(hb:PSs X body tb)
   (hs:∀x,foldedSetIterable iter X.env x=pure x:=by intro _;rfl):PS X (.For tg iter body [] pos) (zNZ wi g tb):=by
 intro pins s σ H D I h
 refine wpAny_For (thn (hi pins s σ H _ I h) fun v s1 h1=>thn h1 fun itv s2 h2=>?_) hs
 obtain⟨it,fp,tn,J,H2,e,I2,T,st2,f2,W,⟨m0,w0⟩,turn⟩:=h2
 subst e
 -- what stays true of the iterator's objects through the loop
 have stat:∀ {H':Hp},(∀b∈fp,H' b=none)->∀b∈fp,oV X pins H' b:=fun hn b hb=>⟨hn b hb,(f2 b hb).2⟩
 refine codeAny_forLoop_any (fun n s'=>∃i σ' H',Inv X pins σ' H' s'/\tn i s'.heap/\(∀b∈fp,H' b=none)/\W i n σ' H') ?_ m0 ⟨0,σ,H2,I2,st2,fun b hb=>(f2 b hb).1,w0⟩
 rintro n s3 ⟨i,σ3,H3,I3,st3,fr3,w3⟩
 rcases turn i n σ3 H3 w3 with⟨stop,qn⟩ | ⟨go,N,hN,step⟩
 · refine wpAny_passesOwn hp (thn (T.done X rfl rfl rfl hc i pins s3 σ3 H3 X.xe I3 (stat fr3) st3 stop) fun r s4 ⟨hr,I4⟩=>?_)
   subst hr
   exact wpAny_execs_nil ⟨σ3,H3,I4,qn⟩
 · refine wpAny_passesOwn hp (thn (T.item X rfl rfl rfl hc i pins s3 σ3 H3 X.xe I3 (stat fr3) st3 go) fun r s4 ⟨u,hr,h4⟩=>?_)
   subst hr
   refine wpAny_passesOwn hp (thn h4 fun _ s5 ⟨x,H5,I5,r5,y5,st5,fr5⟩=>?_)
   have I5':=I5.pinned (stat fr5) (T.obj _ _ st5)
   refine wpAny_passesOwn hp (thn (hg _ s5 σ3 H5 x u _ I5' r5 (step x H5 y5)) fun _ s6 ⟨σ6,H6,I6,q6⟩=>?_)
   refine wpAny_passesOwn hp (thn (hb _ s6 σ6 H6 _ I6 q6) fun f s7 q7=>?_)
   have again:∀ {σ7:St} {H7:Hp},Inv X (pins++bL fp s5.heap) σ7 H7 s7->N σ7 H7->∃m,m < n/\∃i σ' H',Inv X pins σ' H' s7/\tn i s7.heap/\(∀b∈fp,H' b=none)/\W i m σ' H':=fun {σ7 H7} I7 n7=>by
     obtain⟨m',hm,w7⟩:=hN σ7 H7 n7
     refine⟨m',hm,i+1,σ7,H7,I7.unpinned,T.keep _ _ _ st5 fun b hb o e=>(I7.pin (b,o) (List.mem_append_right _ (List.mem_append_right _ (nS hb e)))).1,fun b hb=>?_,w7⟩
     obtain⟨o,e,d⟩:=T.obj _ _ st5 b hb
     exact(I7.pin (b,o) (List.mem_append_right _ (List.mem_append_right _ (nS hb e)))).2.1
   cases f with
   | next=>obtain⟨σ7,H7,I7,n7⟩:=q7;exact again I7 n7
   | cont=>obtain⟨σ7,H7,I7,n7⟩:=q7;exact again I7 n7
   | brk=>obtain⟨σ7,H7,I7,q7⟩:=q7;exact⟨σ7,H7,I7.unpinned,q7⟩
   | ret v=>obtain⟨x7,σ7,H7,I7,r7,q7⟩:=q7;exact⟨x7,σ7,H7,I7.unpinned,r7,q7⟩
end
end L2
namespace L2
open PySem PySem.Spec PyProof.Rows
abbrev R2:=V->V->Hp->VK->Prop
def OpR (X:Cx)(f:Value->Value->Sem Value)(r:R2):Prop :=
 ∀(pins:List (Addr×Obj)) (s:Shared) (σ:St) (H:Hp) (x y:V) (v u:Value) (Q:VK),Inv X pins σ H s->RelV x v->RelV y u->r x y H Q ->
   wpAny (model X.prog X.w) X.A (f v u) (EP X pins σ Q) X.xe s
def UnR (X:Cx)(f:Value->Sem Value)(r:V->Hp->VK->Prop):Prop :=
 ∀(pins:List (Addr×Obj)) (s:Shared) (σ:St) (H:Hp) (x:V) (v:Value) (Q:VK),Inv X pins σ H s->RelV x v->r x H Q ->
   wpAny (model X.prog X.w) X.A (f v) (EP X pins σ Q) X.xe s
def CallR (X:Cx)(f:Value)(r:List V->Hp->VK->Prop):Prop :=
 ∀(pins:List (Addr×Obj)) (s:Shared) (σ:St) (H:Hp) (xs:List V) (us:List Value) (Q:VK),Inv X pins σ H s->Vals xs us->r xs H Q ->
   wpAny (model X.prog X.w) X.A (call f us) (EP X pins σ Q) X.xe s
def tOp (r:R2)(ta tb:TE):TE:=fun σ H Q=>ta σ H fun x H1=>tb σ H1 fun y H2=>r x y H2 Q
def tUn (r:V->Hp->VK->Prop)(ta:TE):TE:=fun σ H Q=>ta σ H fun x H1=>r x H1 Q
def rI (C:Int->Int->Prop)(g:Int->Int->V):R2:=fun x y H Q=>∃i j,x = .int i/\y = .int j/\C i j/\Q (g i j) H
def rI0 (g:Int->Int->V):R2:=fun x y H Q=>∃i j,x = .int i/\y = .int j/\Q (g i j) H
def rU (g:Int->V):V->Hp->VK->Prop:=fun x H Q=>∃i,x = .int i/\Q (g i) H
section
variable {X:Cx} {a b c:Expr} {ta tb tc:TE} {pos:Pos}
theorem zPV (ha:PE X a ta)(hb:PE X b tb){pins:List (Addr×Obj)}{s:Shared}{σ:St}{H:Hp}{R:V->V->Hp->Prop}(I:Inv X pins σ H s)
   (h:ta σ H fun x H1=>tb σ H1 fun y H2=>R x y H2) {Q:Value->Shared->Prop} {f:Value->Value->Sem Value}
   (hf:∀v u s2 x y H2,Inv X pins σ H2 s2->RelV x v->RelV y u->R x y H2->wpAny (model X.prog X.w) X.A (f v u) Q X.xe s2) :
   wpAny (model X.prog X.w) X.A (eval a X.env) (fun v s₁=>wpAny (model X.prog X.w) X.A (eval b X.env) (fun u s₂=>wpAny (model X.prog X.w) X.A (f v u) Q X.xe s₂) X.xe s₁) X.xe s:=by
 refine thn (ha pins s σ H _ I h) fun v s1 ⟨x,H1,I1,r1,q1⟩=>?_
 refine thn (hb pins s1 σ H1 _ I1 q1) fun u s2 ⟨y,H2,I2,r2,q2⟩=>?_
 exact hf v u s2 x y H2 I2 r1 r2 q2
theorem zZQ {op:Operator}{r:R2}(ho:OpR X (binaryOp op) r)(ha:PE X a ta)(hb:PE X b tb):PE X (.BinOp a op b pos) (tOp r ta tb):=by
 intro pins s σ H Q I h
 exact wpAny_BinOp (zPV ha hb I h fun v u s2 x y H2 I2 rx ry q=>ho pins s2 σ H2 x y v u Q I2 rx ry q)
theorem zOB {op:UnaryOp}{r:V->Hp->VK->Prop}(ho:UnR X (unaryOp op) r)(ha:PE X a ta):PE X (.UnaryOp op a pos) (tUn r ta):=by
 intro pins s σ H Q I h
 exact UnaryOp_ (thn (ha pins s σ H _ I h) fun v s1 ⟨x,H1,I1,r1,q1⟩=>ho pins s1 σ H1 x v Q I1 r1 q1)
theorem opI {f:Value->Value->Sem Value}{C:Int->Int->Prop}{g:Int->Int->Int}
   (rule:∀(i j:Int) (t u:Tok) (s:Shared) (Q:Value->Shared->Prop) (E:Value->Shared->Prop),C i j->Q (.int (g i j) s.toks) { s with toks:=s.toks+1 }->wpAny (model X.prog X.w) X.A (f (.int i t) (.int j u)) Q E s) :
   OpR X f (rI C fun i j=>.int (g i j)):=by
 intro pins s σ H x y v u Q I rx ry h
 obtain⟨i,j,rfl,rfl,hc,q⟩:=h
 obtain⟨t,rfl⟩:=rx
 obtain⟨t',rfl⟩:=ry
 exact rule i j t t' s _ _ hc ⟨.int (g i j),H,I.tok _,⟨_,rfl⟩,q⟩
theorem zQw {f:Value->Value->Sem Value}{g:Int->Int->Int}
   (rule:∀(i j:Int) (t u:Tok) (s:Shared) (Q:Value->Shared->Prop) (E:Value->Shared->Prop),Q (.int (g i j) s.toks) { s with toks:=s.toks+1 }->wpAny (model X.prog X.w) X.A (f (.int i t) (.int j u)) Q E s) :
   OpR X f (rI0 fun i j=>.int (g i j)):=by
 intro pins s σ H x y v u Q I rx ry h
 obtain⟨i,j,rfl,rfl,q⟩:=h
 obtain⟨t,rfl⟩:=rx
 obtain⟨t',rfl⟩:=ry
 exact rule i j t t' s _ _ ⟨.int (g i j),H,I.tok _,⟨_,rfl⟩,q⟩
theorem zO9 {f:Value->Value->Sem Value}{g:Int->Int->Bool}
   (rule:∀(i j:Int) (t u:Tok) (s:Shared) (Q:Value->Shared->Prop) (E:Value->Shared->Prop),Q (.bool (g i j)) s->wpAny (model X.prog X.w) X.A (f (.int i t) (.int j u)) Q E s) :
   OpR X f (rI0 fun i j=>.bl (g i j)):=by
 intro pins s σ H x y v u Q I rx ry h
 obtain⟨i,j,rfl,rfl,q⟩:=h
 obtain⟨t,rfl⟩:=rx
 obtain⟨t',rfl⟩:=ry
 exact rule i j t t' s _ _ ⟨.bl (g i j),H,I,rfl,q⟩
def zNO (i j:Int):Prop:=0 < j/\j < 1073741824
def CMul (i j:Int):Prop:=(-(2^64) < i/\i < 2^64)∨(-(2^64) < j/\j < 2^64)
theorem CMul.ok {i j:Int}(h:CMul i j):IntMulOk i j:=by
 rcases h with⟨h1,h2⟩ | ⟨h1,h2⟩
 · exact .of_left (intBits_le_64 h1 h2)
 · exact .of_right (intBits_le_64 h1 h2)
theorem op_add:OpR X (binaryOp .Add) (rI0 fun i j=>.int (i+j)):=zQw fun _ _ _ _ _ _ _ q=>add_int q
theorem zPC:OpR X (binaryOp .Sub) (rI0 fun i j=>.int (i - j)):=zQw fun _ _ _ _ _ _ _ q=>sub_int q
theorem zQr:OpR X (binaryOp .Mult) (rI CMul fun i j=>.int (i*j)):=opI fun _ _ _ _ _ _ _ hc q=>mul_int q hc.ok
theorem zRr:OpR X (binaryOp .FloorDiv) (rI zNO fun i j=>.int (i / j)):=opI fun i j _ _ _ _ _ hc q=>by
 have h1:(0:Int) < j:=hc.1
 have h2:j < 1073741824:=hc.2
 exact floordiv_int (by omega) (by rw[Int.fdiv_eq_ediv_of_nonneg i (by omega)];exact q) (.inl (PyProof.noPylong_small (by omega)))
theorem zQk:OpR X (binaryOp .Mod) (rI (fun _ j=>0 < j) fun i j=>.int (i % j)):=opI fun i j _ _ _ _ _ hc q=>by
 have h1:(0:Int) < j:=hc
 exact mod_int' (by omega) (by rw[Int.fmod_eq_emod_of_nonneg i (by omega)];exact q)
theorem zPT:OpR X (binaryOp .BitXor) (rI0 fun i j=>.int (Builtin.bitXor i j)):=zQw fun _ _ _ _ _ _ _ q=>xor_int q
theorem unI {f:Value->Sem Value}{g:Int->Int}
   (rule:∀(i:Int) (t:Tok) (s:Shared) (Q:Value->Shared->Prop) (E:Value->Shared->Prop),Q (.int (g i) s.toks) { s with toks:=s.toks+1 }->wpAny (model X.prog X.w) X.A (f (.int i t)) Q E s) :
   UnR X f (rU fun i=>.int (g i)):=by
 intro pins s σ H x v Q I rx h
 obtain⟨i,rfl,q⟩:=h
 obtain⟨t,rfl⟩:=rx
 exact rule i t s _ _ ⟨.int (g i),H,I.tok _,⟨_,rfl⟩,q⟩
theorem zQi:UnR X (unaryOp .USub) (rU fun i=>.int (-i)):=unI fun _ _ _ _ _ q=>neg_int q
end
def zQl:V->V->Bool
 | .non,.non=>true | .non,.int _=>true | .int _,.non=>true | .non,.bl _=>true | .bl _,.non=>true | .non,.str _=>true | .str _,.non=>true
 | .int _,.int _=>true | .bl _,.bl _=>true | .str _,.str _=>true | .byt _,.byt _=>true
 | .int _,.str _=>true | .str _,.int _=>true | .bl _,.str _=>true | .str _,.bl _=>true
 | _,_=>false
def rEq:R2:=fun x y H Q=>zQl x y=true/\Q (.bl (decide (x=y))) H
def rNe:R2:=fun x y H Q=>zQl x y=true/\Q (.bl (!decide (x=y))) H
theorem zVp {i j:Int}:decide (V.int i=V.int j)=(i==j):=by
 rw[Bool.eq_iff_iff]
 simp
theorem zYB {i j:Bool}:decide (V.bl i=V.bl j)=(i==j):=by
 rw[Bool.eq_iff_iff]
 simp
theorem zVC {i j:Str}:decide (V.str i=V.str j)=(i==j):=by
 rw[Bool.eq_iff_iff]
 simp
theorem zVB {i j:Array UInt8}:decide (V.byt i=V.byt j)=(i.toList==j.toList):=by
 rw[Bool.eq_iff_iff]
 cases i
 cases j
 simp
section
variable {X:Cx} {a b c:Expr} {ta tb tc:TE} {pos:Pos}
theorem yF {pins:List (Addr×Obj)}{σ:St}{H:Hp}{s:Shared}{Q:VK}{k k':Bool}(I:Inv X pins σ H s)(q:Q (.bl k) H)(e:k=k'):EP X pins σ Q (.bool k') s:=by
 subst e
 exact⟨.bl k,H,I,rfl,q⟩
theorem zOH:OpR X (compareOp .Eq) rEq:=by
 intro pins s σ H x y v u Q I rx ry h
 obtain⟨hs,q⟩:=h
 cases x with
 | non =>
   cases rx
   cases y with
   | non=>cases ry;exact PySem.EqNone.eq_none_none (yF I q (by simp))
   | bl j=>cases ry;exact PySem.EqNone.eq_none_bool (yF I q (by simp))
   | int j=>obtain⟨t',rfl⟩:=ry;exact PySem.EqNone.eq_none_int (yF I q (by simp))
   | str j=>obtain⟨t',rfl⟩:=ry;exact PySem.EqNone.eq_none_str (yF I q (by simp))
   | _=>exact absurd (show false=true from hs) Bool.false_ne_true
 | bl i =>
   cases rx
   cases y with
   | non=>cases ry;exact PySem.EqNone.eq_bool_none (yF I q (by simp))
   | bl j=>cases ry;exact eq_bool (yF I q zYB)
   | str j=>obtain⟨t',rfl⟩:=ry;exact PySem.EqMixed.eq_bool_str (yF I q (by simp))
   | _=>exact absurd (show false=true from hs) Bool.false_ne_true
 | int i =>
   obtain⟨t,rfl⟩:=rx
   cases y with
   | non=>cases ry;exact PySem.EqNone.eq_int_none (yF I q (by simp))
   | int j=>obtain⟨t',rfl⟩:=ry;exact eq_int (yF I q zVp)
   | str j=>obtain⟨t',rfl⟩:=ry;exact PySem.EqMixed.eq_int_str (yF I q (by simp))
   | _=>exact absurd (show false=true from hs) Bool.false_ne_true
 | str i =>
   obtain⟨t,rfl⟩:=rx
   cases y with
   | non=>cases ry;exact PySem.EqNone.eq_str_none (yF I q (by simp))
   | bl j=>cases ry;exact PySem.EqMixed.eq_str_bool (yF I q (by simp))
   | int j=>obtain⟨t',rfl⟩:=ry;exact PySem.EqMixed.eq_str_int (yF I q (by simp))
   | str j=>obtain⟨t',rfl⟩:=ry;exact eq_str (yF I q zVC)
   | _=>exact absurd (show false=true from hs) Bool.false_ne_true
 | byt i =>
   obtain⟨t,rfl⟩:=rx
   cases y with
   | byt j=>obtain⟨t',rfl⟩:=ry;exact PySem.W.eq_bytes (yF I q zVB)
   | _=>exact absurd (show false=true from hs) Bool.false_ne_true
 | _=>cases y<;>exact absurd (show false=true from hs) Bool.false_ne_true
theorem zOG:OpR X (compareOp .NotEq) rNe:=by
 intro pins s σ H x y v u Q I rx ry h
 obtain⟨hs,q⟩:=h
 cases x with
 | non =>
   cases rx
   cases y with
   | non=>cases ry;exact PySem.EqNone.ne_none_none (yF I q (by simp))
   | bl j=>cases ry;exact PySem.EqNone.ne_none_bool (yF I q (by simp))
   | int j=>obtain⟨t',rfl⟩:=ry;exact PySem.EqNone.ne_none_int (yF I q (by simp))
   | str j=>obtain⟨t',rfl⟩:=ry;exact PySem.EqNone.ne_none_str (yF I q (by simp))
   | _=>exact absurd (show false=true from hs) Bool.false_ne_true
 | bl i =>
   cases rx
   cases y with
   | non=>cases ry;exact PySem.EqNone.ne_bool_none (yF I q (by simp))
   | bl j=>cases ry;exact ne_bool (yF I q (congrArg not zYB))
   | str j=>obtain⟨t',rfl⟩:=ry;exact PySem.EqMixed.ne_bool_str (yF I q (by simp))
   | _=>exact absurd (show false=true from hs) Bool.false_ne_true
 | int i =>
   obtain⟨t,rfl⟩:=rx
   cases y with
   | non=>cases ry;exact PySem.EqNone.ne_int_none (yF I q (by simp))
   | int j=>obtain⟨t',rfl⟩:=ry;exact ne_int (yF I q (congrArg not zVp))
   | str j=>obtain⟨t',rfl⟩:=ry;exact PySem.EqMixed.ne_int_str (yF I q (by simp))
   | _=>exact absurd (show false=true from hs) Bool.false_ne_true
 | str i =>
   obtain⟨t,rfl⟩:=rx
   cases y with
   | non=>cases ry;exact PySem.EqNone.ne_str_none (yF I q (by simp))
   | bl j=>cases ry;exact PySem.EqMixed.ne_str_bool (yF I q (by simp))
   | int j=>obtain⟨t',rfl⟩:=ry;exact PySem.EqMixed.ne_str_int (yF I q (by simp))
   | str j=>obtain⟨t',rfl⟩:=ry;exact ne_str (yF I q (congrArg not zVC))
   | _=>exact absurd (show false=true from hs) Bool.false_ne_true
 | byt i =>
   obtain⟨t,rfl⟩:=rx
   cases y with
   | byt j=>obtain⟨t',rfl⟩:=ry;exact PySem.W.ne_bytes (yF I q (congrArg not zVB))
   | _=>exact absurd (show false=true from hs) Bool.false_ne_true
 | _=>cases y<;>exact absurd (show false=true from hs) Bool.false_ne_true
theorem zOA:OpR X (compareOp .LtE) (rI0 fun i j=>.bl (decide (i<=j))):=zO9 fun _ _ _ _ _ _ _ q=>le_int q
theorem zOR:OpR X (compareOp .Gt) (rI0 fun i j=>.bl (decide (j < i))):=zO9 fun _ _ _ _ _ _ _ q=>gt_int q
theorem zVi:OpR X (compareOp .In) (fun x y H Q=>∃i j,x = .str i/\y = .str j/\Q (.bl (!(Builtin.Str.occurrences j i 0 j.length 1).isEmpty)) H):=by
 intro pins s σ H x y v u Q I rx ry h
 obtain⟨i,j,rfl,rfl,q⟩:=h
 obtain⟨t,rfl⟩:=rx
 obtain⟨t',rfl⟩:=ry
 exact in_str (yF I q rfl)
theorem op_isN:OpR X (compareOp .Is) (fun x y H Q=>y = .non/\Q (.bl (decide (x = .non))) H):=by
 intro pins s σ H x y v u Q I rx ry h
 obtain⟨rfl,q⟩:=h
 cases ry
 refine is_none_gen (yF I q ?_)
 cases x<;>first
   | (cases rx;rfl)
   | (obtain⟨t,rfl⟩:=rx;rfl)
theorem zRk:OpR X (compareOp .IsNot) (fun x y H Q=>y = .non/\Q (.bl (!decide (x = .non))) H):=by
 intro pins s σ H x y v u Q I rx ry h
 obtain⟨rfl,q⟩:=h
 cases ry
 refine isnot_none_gen (yF I q ?_)
 cases x<;>first
   | (cases rx;rfl)
   | (obtain⟨t,rfl⟩:=rx;rfl)
theorem OpR.or {f:Value->Value->Sem Value}{r r':R2}(h:OpR X f r)(h':OpR X f r'):OpR X f (fun x y H Q=>r x y H Q∨r' x y H Q):=by
 intro pins s σ H x y v u Q I rx ry q
 rcases q with q | q
 · exact h pins s σ H x y v u Q I rx ry q
 · exact h' pins s σ H x y v u Q I rx ry q
theorem dO (b:Expr){op:CmpOp}(h:op ≠ .In:=by decide)(h2:op ≠ .NotIn:=by decide):behindInMarks op b=false:=by
 have e1:(op==CmpOp.In)=false:=by cases op<;>first | rfl | exact absurd rfl h
 have e2:(op==CmpOp.NotIn)=false:=by cases op<;>first | rfl | exact absurd rfl h2
 cases b<;>simp[behindInMarks,e1,e2]
theorem zR5 {op:CmpOp}{r:R2}(ho:OpR X (compareOp op) r)(ha:PE X a ta)(hb:PE X b tb)(hm:behindInMarks op b=false):PE X (.Compare a [op] [b] pos) (tOp r ta tb):=by
 intro pins s σ H Q I h
 exact wpAny_Compare1 (zPV ha hb I h fun v u s2 x y H2 I2 rx ry q=>ho pins s2 σ H2 x y v u Q I2 rx ry q) hm
def zQF (t:TE):TT:=fun σ H Q=>t σ H fun x H'=>∃k,x = .bl k/\Q k H'
theorem dW {op:CmpOp}{r:R2}(ho:OpR X (compareOp op) r)(ha:PE X a ta)(hb:PE X b tb)(hm:behindInMarks op b=false):PT X (.Compare a [op] [b] pos) (zQF (tOp r ta tb)):=by
 intro pins s σ H Q I h
 refine wpAny_isTrue_Compare1 (thn (ha pins s σ H _ I h) fun v s1 ⟨x,H1,I1,r1,q1⟩=>thn (hb pins s1 σ H1 _ I1 q1) fun u s2 ⟨y,H2,I2,r2,q2⟩ =>
   thn (ho pins s2 σ H2 x y v u _ I2 r1 r2 q2) fun c s3 ⟨z,H3,I3,r3,k,e,q3⟩=>?_) hm
 subst e
 cases r3
 exact wpAny_truthy_bool ⟨H3,I3,q3⟩
def zP1 (r r':R2)(ta tb tc:TE):TE:=fun σ H Q=>ta σ H fun x H1=>tb σ H1 fun y H2=>r x y H2 fun z H3=>∃k,z = .bl k /\
 (if k=true then tc σ H3 fun w' H4=>r' y w' H4 Q else Q (.bl false) H3)
theorem zS7 {op op':CmpOp}{r r':R2}(ho:OpR X (compareOp op) r)(ho':OpR X (compareOp op') r')(ha:PE X a ta)(hb:PE X b tb)(hc:PE X c tc)
   (hm:lastMarks [op,op'] [b,c]=false:=by with_unfolding_all rfl):PE X (.Compare a [op,op'] [b,c] pos) (zP1 r r' ta tb tc):=by
 intro pins s σ H Q I h
 refine Compare_chain (thn (ha pins s σ H _ I h) fun v s1 ⟨x,H1,I1,r1,q1⟩=>chain_link (thn (hb pins s1 σ H1 _ I1 q1) fun u s2 ⟨y,H2,I2,r2,q2⟩ =>
   thn (ho pins s2 σ H2 x y v u _ I2 r1 r2 q2) fun d s3 ⟨z,H3,I3,r3,k,e,q3⟩=>?_)) hm
 subst e
 cases r3
 refine wpAny_truthy_bool ?_
 cases k with
 | false=>exact ite_ff ⟨.bl false,H3,I3,rfl,q3⟩
 | true=>exact ite_tt (chain_last (thn (hc pins s3 σ H3 _ I3 q3) fun w' s4 ⟨z',H4,I4,r4,q4⟩=>ho' pins s4 σ H4 y z' u w' Q I4 r2 r4 q4))
theorem gA:(sizeLine:Nat) < 2^63:=by rw[sizeLine_eq];decide
theorem zWM:OpR X (binaryOp .Add) (fun x y H Q=>∃i j,x = .str i/\y = .str j/\i.length+j.length<=sizeLine/\Q (.str (i++j)) H):=by
 intro pins s σ H x y v u Q I rx ry h
 obtain⟨i,j,rfl,rfl,hz,q⟩:=h
 obtain⟨t,rfl⟩:=rx
 obtain⟨t',rfl⟩:=ry
 exact add_str (fun t' tk=>⟨.str (i++j),H,I.tok _,⟨_,rfl⟩,q⟩) hz
theorem pZ {x:V}{us:List Value}(r:Vals [x] us):∃u,us=[u]/\RelV x u:=by
 cases r with
 | cons r1 r2=>cases r2;exact⟨_,rfl,r1⟩
theorem zSx {x y:V}{us:List Value}(r:Vals [x,y] us):∃u w',us=[u,w']/\RelV x u/\RelV y w':=by
 cases r with
 | cons r1 r2 =>
   cases r2 with
   | cons r3 r4=>cases r4;exact⟨_,_,rfl,r1,r3⟩
theorem call_int1:CallR X (.type "int") (fun xs H Q=>(∃i,xs=[.int i]/\Q (.int i) H)∨∃k,xs=[.bl k]/\Q (.int (if k then 1 else 0)) H):=by
 intro pins s σ H xs us Q I r h
 rcases h with⟨i,rfl,q⟩ | ⟨k,rfl,q⟩
 · obtain⟨u,rfl,t,rfl⟩:=pZ r
   exact call_int_int ⟨.int i,H,I,⟨_,rfl⟩,q⟩
 · obtain⟨u,rfl,r1⟩:=pZ r
   cases r1
   exact call_int_bool ⟨.int (if k then 1 else 0),H,I.tok _,⟨_,rfl⟩,q⟩
theorem zYZ:CallR X (.type "str") (fun xs H Q=>∃i,xs=[.int i]/\i.natAbs.log2 < 1920/\Q (.str (toString i)) H):=by
 intro pins s σ H xs us Q I r h
 obtain⟨i,rfl,hz,q⟩:=h
 obtain⟨u,rfl,t,rfl⟩:=pZ r
 exact PySem.P.str_of_int hz ⟨.str _,H,I.tok _,⟨_,rfl⟩,q⟩
end
end L2
namespace L2
open PySem PySem.Spec PyProof.Rows
structure ObjM (h:Heap)(x dx C:Addr)(mA:Str->Option Value):Prop where
 obj:h.get? x=some (PySem.W.instObj C dx)
 ns:h.Ns1 dx mA
 ne:dx≠x
theorem zUw {h:Heap}{dx:Addr}{mA:Str->Option Value}(n:h.Ns1 dx mA):∃od,h.get? dx=some od/\∀name,PySem.W.lookIn name od=some (mA name):=by
 obtain⟨o,es,ep,ho,hd,hk,_,hm⟩:=n
 refine⟨o,ho,fun name=>?_⟩
 have e:=hm name
 unfold nsFind findBy at e
 rw[←Array.find?_toList] at e
 unfold PySem.W.lookIn
 rw[hd]
 dsimp only
 split
 · rename_i y q
   rw[q] at e
   exact congrArg some e
 · rename_i q
   rw[q] at e
   have a:es.toList.any (·.refKey)=false:=by
     rw[List.any_eq_false]
     intro y hy
     obtain⟨z,t,hkey⟩:=hk y (Array.mem_toList_iff.mp hy)
     simp[DictEntry.refKey,hkey]
   have a':¬es.toList.any (·.refKey)=true:=by rw[a];exact Bool.false_ne_true
   rw[if_neg a']
   exact congrArg some e
theorem ObjM.look {h:Heap}{x dx C:Addr}{mA:Str->Option Value}(I:ObjM h x dx C mA):∃od,PySem.W.InstAt h x (PySem.W.instObj C dx) C (some od)/\∀name,PySem.W.lookIn name od=some (mA name) :=
 let ⟨od,ho,hl⟩:=zUw I.ns
 ⟨od,⟨I.obj,rfl,rfl,ho⟩,hl⟩
section
variable {prog:Program} {w:World} {A:Around} {E:Value->Shared->Prop} {s:Shared} {K:PySem.W.Frag} {x dx C f:Addr} {mA:Str->Option Value} {name:Str} {v:Value}
theorem zRU {expr:Bool}{Q:Value->Shared->Prop}(X:K.In s.heap)(I:ObjM s.heap x dx C mA)(hg:PySem.W.plainGet K C name=true)(hh:PySem.W.hasDictIn K C=true)
   (ha:PySem.W.findIn K (.ref C) name=some none) (hv:mA name=some v) (hv':PySem.W.handedIn v=true) (h:Q v { s with toks:=s.toks+1 }) :
   wpAny (model prog w) A (getAttr (.ref x) name expr) Q E s:=by
 obtain⟨od,J,hl⟩:=I.look
 exact PySem.W.get_value X J (PySem.W.plainGet_of hg).1 (PySem.W.findObj_own hh ha rfl (by rw[hl,hv])) hv' h
theorem zRd {ns:List Str}{Q:Unit->Shared->Prop}(X:K.In s.heap)(I:ObjM s.heap x dx C mA)
   (hs:PySem.W.findIn K (.ref C) "__setattr__"=some (some (.builtin "object.__setattr__"))) (hp:PySem.W.plainOver K C=true) (ht:PySem.W.takerIn K C name=some none) (hh:PySem.W.hasDictIn K C=true)
   (hw:PySem.Within mA ns) (hsz:ns.length<=sizeLine)
   (h:∀h',ObjM h' x dx C (fun y=>if y=name then some v else mA y)->Heap.SameBut dx s.heap h'->Q () { s with heap:=h',toks:=s.toks+2 }) :
   wpAny (model prog w) A (setAttr (.ref x) name v) Q E s:=by
 obtain⟨od,J,hl⟩:=I.look
 refine PySem.W.set_plain X J hs (PySem.W.osa_open (s:={ s with toks:=s.toks+1 }) (r:=none) X J hp ht fun b=>?_)
 obtain⟨cd,hc,hd'⟩:=PySem.W.any_some hh
 have hx:s.heap.get? x=some ⟨.ref C,some dx,.plain,#[]⟩:=I.obj
 refine wpAny_bind (wpAny_pure (wpAny_bind (wpAny_bind (wpAny_loadPart hx (wpAny_bind (PySem.W.Looks.here (s:={ s with toks:=s.toks+1 }) (PySem.W.looks_clsIn X hc) ?_))))))
 rw[hd']
 refine wpAny_pure (a:=some dx) (wpAny_bind (wpAny_pure (wpAny_bind ?_)))
 refine wpAny_nsSet1 (s:={ s with toks:=s.toks+1 }) I.ns fun h' hn2 hs2=>?_
 obtain⟨oD,esD,epD,hoD,hdD,hcD⟩:=hn2.count (PySem.Within.cons name v hw)
 refine wpAny_bind (wpAny_lookBehind hoD (by rw[hdD];exact pastItsLine_dict (Nat.le_trans hcD (by rw[List.length_cons];omega))) ?_)
 exact wpAny_pure (h _ ⟨(hs2.2 _ (Ne.symm I.ne)).trans I.obj,hn2,I.ne⟩ hs2)
theorem zSt {R:Result->Shared->Prop}{vs:List Value}{kw:List (Str×Value)}(X:K.In s.heap)(hm:PySem.W.makesIn K C=true)
   (hi:PySem.W.findIn K (.ref C) "__init__"=some (some (.ref f))) (hf:PySem.W.typeIn K (.ref f)=some (.type "function"))
   (h:codeAny (model prog w) (A.under (.builtin "type.__call__" ⟨.ref C::vs,kw⟩)) (.call (.ref f) ⟨.ref (s.heap.objs.size+1)::vs,kw⟩) (PySem.W.InitBack (s.heap.objs.size+1) R)
     { s with heap:=(s.heap.push PySem.W.emptyDict).push (PySem.W.instObj C s.heap.objs.size) }) :
   codeAny (model prog w) A (.call (.ref C) ⟨vs,kw⟩) R s:=by
 obtain⟨hh,g,d,t,os⟩:=s
 exact PySem.W.make_core (PySem.W.makes_of X hm) (PySem.W.looks_findIn X hi) (fun self=>PySem.W.bind_fn X self hf) (.inl rfl) h
end
def mX (f:Str)(v:V):List (Str×V)->List (Str×V)
 | []=>[(f,v)]
 | (g,x)::r=>if g=f then(g,v)::r else(g,x)::mX f v r
theorem eZ (f g:Str)(v:V):∀fs:List (Str×V),(mX f v fs).lookup g=if g=f then some v else fs.lookup g
 | []=>by
   show List.lookup g [(f,v)]=_
   by_cases h:g=f
   · have hb:(g==f)=true:=beq_iff_eq.mpr h
     simp only[List.lookup,hb,if_pos h]
   · have hb:(g==f)=false:=beq_eq_false_iff_ne.mpr h
     simp only[List.lookup,hb,if_neg h]
 | (k,x)::r=>by
   have ih:=eZ f g v r
   rw[show mX f v ((k,x)::r)=(if k=f then(k,v)::r else(k,x)::mX f v r) from rfl]
   by_cases hk:k=f
   · rw[if_pos hk]
     by_cases h:g=k
     · have hb:(g==k)=true:=beq_iff_eq.mpr h
       simp only[List.lookup,hb,if_pos (h.trans hk)]
     · have hb:(g==k)=false:=beq_eq_false_iff_ne.mpr h
       simp only[List.lookup,hb,if_neg (fun e:g=f=>h (e.trans hk.symm))]
   · rw[if_neg hk]
     by_cases h:g=k
     · have hb:(g==k)=true:=beq_iff_eq.mpr h
       simp only[List.lookup,hb,if_neg (fun e:g=f=>hk (h.symm.trans e))]
     · have hb:(g==k)=false:=beq_eq_false_iff_ne.mpr h
       simp only[List.lookup,hb]
       exact ih
theorem gJ (f:Str)(v:V):∀fs:List (Str×V),f∈(mX f v fs).map (·.1)/\∀g,g∈fs.map (·.1)->g∈(mX f v fs).map (·.1)
 | []=>⟨by simp[mX],fun g h=>by simp at h⟩
 | (k,x)::r=>by
   obtain⟨i1,i2⟩:=gJ f v r
   rw[show mX f v ((k,x)::r)=(if k=f then(k,v)::r else(k,x)::mX f v r) from rfl]
   by_cases hk:k=f
   · rw[if_pos hk]
     subst hk
     exact⟨by simp,fun g h=>by simpa using h⟩
   · rw[if_neg hk]
     refine⟨?_,fun g h=>?_⟩
     · rw[List.map_cons]
       exact List.mem_cons_of_mem _ i1
     · rw[List.map_cons] at h ⊢
       rcases List.mem_cons.mp h with e | e
       · exact List.mem_cons.mpr (.inl e)
       · exact List.mem_cons_of_mem _ (i2 g e)
theorem fJ (f:Str)(v:V):∀fs:List (Str×V),(mX f v fs).length<=fs.length+1
 | []=>by simp[mX]
 | (k,x)::r=>by
   have ih:=fJ f v r
   rw[show mX f v ((k,x)::r)=(if k=f then(k,v)::r else(k,x)::mX f v r) from rfl]
   by_cases hk:k=f
   · rw[if_pos hk,List.length_cons,List.length_cons];omega
   · rw[if_neg hk,List.length_cons,List.length_cons];omega
theorem RelO.some_of {v:V}{o:Option Value}(r:RelO (some v) o):∃u,o=some u/\RelV v u:=by
 cases o with
 | none=>exact(show False from r).elim
 | some u=>exact⟨u,rfl,r⟩
theorem zUY {v:V}{u:Value}(r:RelV v u):PySem.W.handedIn u=true:=by
 cases v with
 | non=>cases (show u=Value.none from r);rfl
 | bl b=>cases (show u=Value.bool b from r);rfl
 | int i=>obtain⟨t,e⟩:=(show ∃t,u=Value.int i t from r);cases e;rfl
 | str x=>obtain⟨t,e⟩:=(show ∃t,u=Value.str x t from r);cases e;rfl
 | byt b=>obtain⟨t,e⟩:=(show ∃t,u=Value.bytes b t from r);cases e;rfl
 | flt b=>obtain⟨t,e⟩:=(show ∃t,u=Value.float b t from r);cases e;rfl
 | ref a=>cases (show u=Value.ref a from r);rfl
 | ty n=>cases (show u=Value.type n from r);rfl
section
variable {P:Program} {w:World} {H H':Hp} {h h':Heap} {a C dx:Addr} {fs fs':List (Str×V)}
theorem zVz (hok:HOk P w H h)(e:H a=some (.ins C dx fs)):∃mA,ObjM h a dx C mA/\(∀f,RelO (fs.lookup f) (mA f))/\PySem.Within mA (fs.map (·.1))/\fs.length<=1000/\H dx=some (.own a):=by
 obtain⟨d,z,ne,ob,mA,n,r,q⟩:=(show ObjOk P w H h a (.ins C dx fs) from hok a _ e)
 exact⟨mA,⟨ob,n,ne⟩,r,q,z,d⟩
end
structure Cls (K:PySem.W.Frag)(C:Addr):Prop where
 pg:PySem.W.plainGet K C Str.empty=true
 hd:PySem.W.hasDictIn K C=true
 po:PySem.W.plainOver K C=true
 sa:PySem.W.findIn K (.ref C) "__setattr__"=some (some (.builtin "object.__setattr__"))
theorem Cls.get {K:PySem.W.Frag}{C:Addr}(c:Cls K C)(f:Str):PySem.W.plainGet K C f=true:=c.pg
def NoAttr (K:PySem.W.Frag)(C:Addr)(f:Str):Prop:=PySem.W.findIn K (.ref C) f=some none
theorem NoAttr.taker {K:PySem.W.Frag}{C:Addr}{f:Str}(n:NoAttr K C f):PySem.W.takerIn K C f=some none:=by
 unfold PySem.W.takerIn
 rw[show PySem.W.findIn K (.ref C) f=some none from n]
 rfl
structure Con (K:PySem.W.Frag)(C:Addr)(f:Str)(v:V)(u:Value):Prop where
 at_:PySem.W.findIn K (.ref C) f=some (some u)
 rel:RelV v u
 get:PySem.W.specialIn K u "__get__"=some none
 cp:PySem.W.copiedNames.contains f=false
structure Meth (K:PySem.W.Frag)(C:Addr)(m:Str)(f:Addr):Prop where
 at_:PySem.W.findIn K (.ref C) m=some (some (.ref f))
 fn:PySem.W.isFn K (.ref f)=true
 kp:PySem.W.keepIn K (.ref f)=true
section
variable {X:Cx} {pins:List (Addr×Obj)} {σ:St} {H:Hp} {s:Shared} {a C dx:Addr} {fs:List (Str×V)} {f:Str} {v:V} {A:Around} {E:Value->Shared->Prop}
theorem zWo {b:Bool}{Q:Value->Shared->Prop}(I:Inv X pins σ H s)(e:H a=some (.ins C dx fs))(c:Cls X.K C)(n:NoAttr X.K C f)(l:fs.lookup f=some v)
   (h:∀u s',Inv X pins σ H s'->RelV v u->Q u s'):wpAny (model X.prog X.w) A (getAttr (.ref a) f b) Q E s:=by
 obtain⟨mA,O,r,_,_,_⟩:=zVz I.hok e
 obtain⟨u,hu,ru⟩:=RelO.some_of (v:=v) (o:=mA f) (by rw[←l];exact r f)
 exact zRU I.kIn O (c.get f) c.hd n hu (zUY ru) (h u _ (I.tok _) ru)
theorem zW6 {y:V}{u:Value}{Q:Unit->Shared->Prop}(I:Inv X pins σ H s)(e:H a=some (.ins C dx fs))(c:Cls X.K C)(n:NoAttr X.K C f)(hl:fs.length < 1000)(ry:RelV y u)
   (h:∀s',Inv X pins σ (upd H a (.ins C dx (mX f y fs))) s'->Q () s'):wpAny (model X.prog X.w) A (setAttr (.ref a) f u) Q E s:=by
 obtain⟨mA,O,r,wi,_,ho⟩:=zVz I.hok e
 have hz:(fs.map (·.1)).length<=sizeLine:=by rw[List.length_map,sizeLine_eq];omega
 refine zRd I.kIn O c.sa c.po n.taker c.hd wi hz fun h' O' sb=>h _ ?_
 have hd:∃o,h'.get? dx=some o:=let ⟨o,_,_,e',_⟩:=O'.ns;⟨o,e'⟩
 refine I.write (x:=a) (e:=dx) (by rw[e];exact True.intro) (.inr ho) (fun b q hb z=>(sb.2 b hb).trans z) hd ?_
 refine⟨by rw[yX O.ne];exact ho,?_,O.ne,O'.obj,_,O'.ns,fun g=>?_,fun g hg=>?_⟩
 · have:=fJ f y fs;omega
 · show RelO ((mX f y fs).lookup g) (if g=f then some u else mA g)
   rw[eZ]
   by_cases q:g=f
   · rw[if_pos q,if_pos q];exact ry
   · rw[if_neg q,if_neg q];exact r g
 · by_cases q:g=f
   · rw[q];exact(gJ f y fs).1
   · refine(gJ f y fs).2 g (wi g fun z=>hg ?_)
     show(if g=f then some u else mA g)=none
     rw[if_neg q];exact z
theorem Inv.made (I:Inv X pins σ H s):Inv X pins σ (upd (upd H s.heap.objs.size (.own (s.heap.objs.size+1))) (s.heap.objs.size+1) (.ins C s.heap.objs.size []))
   { s with heap:=(s.heap.push PySem.W.emptyDict).push (PySem.W.instObj C s.heap.objs.size) }:=by
 have e1:(s.heap.push PySem.W.emptyDict).get? s.heap.objs.size=some PySem.W.emptyDict:=Heap.get?_push_size s.heap rfl
 have e2:((s.heap.push PySem.W.emptyDict).push (PySem.W.instObj C s.heap.objs.size)).get? (s.heap.objs.size+1)=some (PySem.W.instObj C s.heap.objs.size):=by
   have:=Heap.get?_push_size (s.heap.push PySem.W.emptyDict) (o:=PySem.W.instObj C s.heap.objs.size) rfl
   rwa[Heap.size_push] at this
 have e3:(s.heap.push PySem.W.emptyDict).Ns s.heap.objs.size (fun _=>none):=⟨PySem.W.emptyDict,#[],_,e1,rfl,(fun e he=>absurd he (by simp)),fun _=>rfl⟩
 have I1:=I.laid (a:=s.heap.objs.size) (o:=.own (s.heap.objs.size+1)) (h':=s.heap.push PySem.W.emptyDict) (t':=s.toks) (fun b u q=>Heap.get?_push_of_some _ q) (Nat.le_refl _) ⟨_,e1⟩
 refine I1.laid (a:=s.heap.objs.size+1) (o:=.ins C s.heap.objs.size []) (t':=s.toks) (fun b u q=>Heap.get?_push_of_some _ q) (Nat.le_of_eq (Heap.size_push _ _)) ?_
 have ne:s.heap.objs.size≠s.heap.objs.size+1:=Nat.ne_of_lt (Nat.lt_succ_self _)
 refine⟨by rw[yX ne,zD],Nat.zero_le _,ne,e2,fun _=>none,(Heap.Ns1.of_empty e3).at fun o q=>Heap.get?_push_of_some _ q,fun _=>True.intro,fun y hy=>absurd rfl hy⟩
theorem zQZ {prog:Program}{w:World}{env:Env}{e:Expr}{f:Str}{pos:Pos}{s:Shared}{Q:Value->Shared->Prop}(hb:attributeBase e f env (eval e env)=eval e env)
   (h:wpAny (model prog w) A (eval e env) (fun o s₁=>wpAny (model prog w) A (getAttr o f true) Q E s₁) E s):wpAny (model prog w) A (eval (.Attribute e f pos) env) Q E s :=
 Attribute_any_ h (by rw[arm_eval_Attribute,hb])
end
def zNS (K:PySem.W.Frag)(ta:TE)(f:Str):TE:=fun σ H Q=>ta σ H fun x H1=>∃a C dx fs v,x = .ref a/\H1 a=some (.ins C dx fs)/\Cls K C/\NoAttr K C f/\fs.lookup f=some v/\Q v H1
def zOh (K:PySem.W.Frag)(ta tv:TE)(f:Str):TS:=fun D σ H=>tv σ H fun y H1=>ta σ H1 fun x H2=>∃a C dx fs,x = .ref a/\H2 a=some (.ins C dx fs)/\Cls K C/\NoAttr K C f/\fs.length < 1000 /\
 D.nx σ (upd H2 a (.ins C dx (mX f y fs)))
section
variable {X:Cx} {o e value:Expr} {f:Str} {pos pos' tpos:Pos} {ta tv:TE}
theorem zQp (he:PE X e ta)(hb:attributeBase e f X.env (eval e X.env)=eval e X.env):PE X (.Attribute e f pos) (zNS X.K ta f):=by
 intro pins s σ H Q I h
 refine zQZ hb (thn (he pins s σ H _ I h) fun u s1 ⟨x,H1,I1,rx,a,C,dx,fs,v,ex,ea,c,n,l,q⟩=>?_)
 subst ex
 obtain rfl:u=Value.ref a:=rx
 exact zWo I1 ea c n l fun u' s2 I2 ru=>⟨v,H1,I2,ru,q⟩
theorem zWc (ha:PE X o ta)(hv:PE X value tv)(hs:swapsWith value (some (.Attribute o f pos')) pos.line X.env=pure false):PS X (.Assign [.Attribute o f pos'] value pos) (zOh X.K ta tv f):=by
 intro pins s σ H D I h
 refine plainObj_wpAny_Assign_Attribute (thn (hv pins s σ H _ I h) fun u s1 ⟨y,H1,I1,ry,q⟩=>thn (ha pins s1 σ H1 _ I1 q) fun ov s2 ⟨x,H2,I2,rx,a,C,dx,fs,ex,ea,c,n,l,q2⟩=>?_) hs
 subst ex
 obtain rfl:ov=Value.ref a:=rx
 exact zW6 I2 ea c n l ry fun s3 I3=>⟨σ,_,I3,q2⟩
end
section
variable {X:Cx} {pins:List (Addr×Obj)} {σ:St} {H:Hp} {s:Shared} {A:Around} {E:Value->Shared->Prop} {Q:Value->Shared->Prop} {c:Value} {b:Bool}
inductive TyOf (K:PySem.W.Frag)(H:Hp):V->Value->Prop where
 | non:TyOf K H .non (.type "NoneType")
 | bl (x:Bool):TyOf K H (.bl x) (.type "bool")
 | int (i:Int):TyOf K H (.int i) (.type "int")
 | str (x:Str):TyOf K H (.str x) (.type "str")
 | flt (x:UInt64):TyOf K H (.flt x) (.type "float")
 | lst {a:Addr} {xs:List V} (e:H a=some (.lst xs)):TyOf K H (.ref a) (.type "list")
 | frz {a:Addr} {o:Obj} {xs:List V} (e:H a=some (.frz o (.lst xs))):TyOf K H (.ref a) (.type "list")
 | tup {a:Addr} {xs:List V} (e:H a=some (.tup xs)):TyOf K H (.ref a) (.type "tuple")
 | dK {a:Addr} {kvs:List (Key×V)} (e:H a=some (.dK kvs)):TyOf K H (.ref a) (.type "dict")
 | dT {a:Addr} {kvs:List (List Key×V)} (e:H a=some (.dT kvs)):TyOf K H (.ref a) (.type "dict")
 | ins {a C dx:Addr} {fs:List (Str×V)} (e:H a=some (.ins C dx fs)) (cl:Cls K C) (ha:PySem.W.findIn K (.ref C) "__class__"=some (some (.builtin "object.__class__")))
     (hn:PySem.W.specialIn K (.builtin "object.__class__") "__get__"=some (some (.builtin "getset_descriptor.__get__"))) (htk:PySem.W.takesIn K (.builtin "object.__class__")=some true)
     (hm:PySem.W.mroIn K C (.type "object")=some true):TyOf K H (.ref a) (.ref C)
end
end L2
namespace L2
open PySem PySem.Spec PyProof.Rows
structure Room (k:Nat)(A:Around):Prop where
 hd:A.handled=none
 dp:A.depth+3*k+5 < recursionLimit
 un:A.units+16*k+200 < cLine
theorem Room.mono {j k:Nat}{A:Around}(r:Room k A)(h:j<=k):Room j A:=⟨r.hd,by have:=r.dp;omega,by have:=r.un;omega⟩
theorem Room.deeper {k:Nat}{A:Around}(r:Room (k+1) A)(env:Env):Room k (A.deeper env) :=
 ⟨r.hd,by have:=r.dp;show A.depth+1+3*k+5 < _;omega,by have:=r.un;show A.units+3+16*k+200 < _;omega⟩
theorem zWQ {A:Around}{C:Addr}{us:List Value}{kw:List (Str×Value)}:(A.under (.builtin "type.__call__" ⟨.ref C::us,kw⟩)).depth=A.depth+1:=by
 first | rfl | simp[Around.under,Code.weight,Code.isCreation,Code.isGuard,Code.isCaller,Code.frames,Code.isFrame,guardIds]
theorem zWW {A:Around}{C:Addr}{us:List Value}{kw:List (Str×Value)}:(A.under (.builtin "type.__call__" ⟨.ref C::us,kw⟩)).units=A.units+1:=by
 first | rfl | simp[Around.under,Code.cUnits,Code.frames,Code.isFrame]
theorem Room.make {k:Nat}{A:Around}(r:Room (k+1) A)(C:Addr)(us:List Value)(kw:List (Str×Value)):Room k (A.under (.builtin "type.__call__" ⟨.ref C::us,kw⟩)) :=
 ⟨r.hd,by have:=r.dp;rw[zWQ];omega,by have:=r.un;rw[zWW];omega⟩
theorem Room.depth {k:Nat}{A:Around}(r:Room k A):A.depth < recursionLimit:=by have:=r.dp;omega
theorem Room.units {k:Nat}{A:Around}(r:Room k A):A.units+64 < cLine:=by have:=r.un;omega
theorem Room.units0 {k:Nat}{A:Around}(r:Room k A):A.units < cLine:=by have:=r.un;omega
def zWh:TA:=fun _ H Q=>Q [] H
def cZ (ta:TE)(tr:TA):TA:=fun σ H Q=>ta σ H fun x H1=>tr σ H1 fun xs H2=>Q (x::xs) H2
section
variable {X:Cx} {e:Expr} {es:List Expr} {te:TE} {t:TA} {pos:Pos}
theorem yI:PA X [] zWh:=fun _ _ _ _ H Q I h=>Calls.spliced_nil ⟨[],H,I,.nil,h⟩
theorem yW (ha:PE X e te)(hr:PA X es t)(hs:starEach (e::es) X.env=(false,eval e X.env)::starEach es X.env:=by rfl):PA X (e::es) (cZ te t):=by
 intro pos pins s σ H Q I h
 rw[hs]
 show wpAny _ _ (spliced ((false,eval e X.env)::backTo pos (starEach es X.env))) _ _ s
 refine Calls.spliced_cons (thn (ha pins s σ H _ I h) fun u s1 ⟨x,H1,I1,r1,q1⟩=>?_)
 exact thn (hr pos pins s1 σ H1 _ I1 q1) fun us s2 ⟨xs,H2,I2,r2,q2⟩=>⟨x::xs,H2,I2,.cons r1 r2,q2⟩
def zOc (t:TA):TE:=fun σ H Q=>t σ H fun xs H1=>xs.length<=sizeLine/\∀p,H1 p=none->Q (.ref p) (upd H1 p (.tup xs))
def zNR (t:TA):TE:=fun σ H Q=>t σ H fun xs H1=>xs.length<=sizeLine/\∀p,H1 p=none->Q (.ref p) (upd H1 p (.lst xs))
theorem zQy {x1}(h:PA X es t):PE X (.Tuple es x1 pos) (zOc t):=by
 intro pins s σ H Q I hq
 refine wpAny_Tuple_spliced (thn (h pos pins s σ H _ I hq) fun us s1 ⟨xs,H1,I1,r,z,q⟩=>⟨by rw[←r.length];exact z,?_⟩)
 have hf:H1 s1.heap.objs.size=none:=I1.hok.fresh (Nat.le_refl _)
 refine⟨.ref s1.heap.objs.size,upd H1 s1.heap.objs.size (.tup xs),I1.laid (t':=s1.toks) (fun b u e=>Heap.get?_push_of_some _ e) (Nat.le_refl _) ?_,rfl,q _ hf⟩
 exact⟨z,us,r,⟨_,Heap.get?_push_size _ rfl,rfl,_,rfl⟩⟩
theorem zSj (h:PA X es t):PE X (.List es pos) (zNR t):=by
 intro pins s σ H Q I hq
 refine wpAny_List_spliced (thn (h pos pins s σ H _ I hq) fun us s1 ⟨xs,H1,I1,r,z,q⟩=>⟨by rw[←r.length];exact z,?_⟩)
 have hf:H1 s1.heap.objs.size=none:=I1.hok.fresh (Nat.le_refl _)
 refine⟨.ref s1.heap.objs.size,upd H1 s1.heap.objs.size (.lst xs),I1.laid (t':=s1.toks) (fun b u e=>Heap.get?_push_of_some _ e) (Nat.le_refl _) ?_,rfl,q _ hf⟩
 exact⟨z,us,0,r,Heap.get?_push_size _ rfl⟩
end
abbrev Sp:=List V->Hp->VK->XK->Prop
abbrev CXT:=List Env->Hp->Shared->XK->Value->Shared->Prop
structure Env0 (P:Program)(w:World)(K:PySem.W.Frag)(mg:Str->Option Value)(base:Heap)(A:Around)(outer:List Env)(s:Shared)(H:Hp):Prop where
 frames:A.frames=some outer
 mod:Mod K mg base
 bs:∀b o,base.get? b=some o->s.heap.get? b=some o/\H b=none
 bsz:base.objs.size<=s.heap.objs.size
 funs:s.heap.FunFrames base outer
 frf:∀b∈frs outer,H b=none
 hok:HOk P w H s.heap
 bare:AllBare s.gens
def CE (outer:List Env)(P:Program)(w:World)(H:Hp)(s:Shared)(Q:VK)(u:Value)(s':Shared):Prop :=
 ∃v H',s'.os=s.os/\AllBare s'.gens/\Un (frs outer) [] H H' s.heap s'.heap/\HOk P w H' s'.heap/\RelV v u/\Q v H'
def CR (CX:CXT)(outer:List Env)(P:Program)(w:World)(H:Hp)(s:Shared)(Q:VK)(E:XK)(r:Result)(s':Shared):Prop :=
 match r with
 | .ok (.ret u)=>CE outer P w H s Q u s'
 | .ok _=>False
 | .error e=>CX outer H s E e s'
structure FnOk (P:Program)(w:World)(K:PySem.W.Frag)(mg:Str->Option Value)(base:Heap)(CX:CXT)(k:Nat)(f:Addr)(fd:FuncData)(ps:List Str)(sp:Sp):Prop where
 len:∀vs H Q E,sp vs H Q E->vs.length=ps.length
 run:∀(A:Around) (outer:List Env) (s:Shared) (H:Hp) (args:Args) (us:List Value) (vs:List V) (Q:VK) (E:XK),Room k A->Env0 P w K mg base A outer s H->BindsTo s fd args (ps.zip us)->Vals vs us->sp vs H Q E ->
   codeAny (model P w) A (.call (.ref f) args) (CR CX outer P w H s Q E) s
theorem Env0.make {P:Program}{w:World}{K:PySem.W.Frag}{mg:Str->Option Value}{base:Heap}{A:Around}{outer:List Env}{s:Shared}{H:Hp}(e:Env0 P w K mg base A outer s H)(C:Addr)(us:List Value)(kw:List (Str×Value)) :
   Env0 P w K mg base (A.under (.builtin "type.__call__" ⟨.ref C::us,kw⟩)) outer s H:=⟨by first | exact e.frames | (simpa [Around.under,Code.envs,Code.isFrame,pushEnvs] using e.frames),e.mod,e.bs,e.bsz,e.funs,e.frf,e.hok,e.bare⟩
section
variable {X:Cx} {pins:List (Addr×Obj)} {σ:St} {H:Hp} {s s':Shared}
theorem Inv.env0 (I:Inv X pins σ H s):Env0 X.prog X.w X.K X.mg X.base X.A X.stack s H :=
 ⟨I.ok.frames,I.ok.mod,I.bs,Nat.le_trans I.ok.bsz I.sz,I.stack,I.stkFree,I.hok,I.bare⟩
theorem Inv.after {Q:VK}{u:Value}(I:Inv X pins σ H s)(h:CE X.stack X.prog X.w H s Q u s'):EP X pins σ Q u s':=by
 obtain⟨v,H',os,bare,un,hok,r,q⟩:=h
 obtain⟨hh,g,d,t,os'⟩:=s'
 obtain rfl:os'=s.os:=os
 exact⟨v,H',I.call (h':=hh) (g':=g) (d':=d) (t':=t) (ch:=[]) un hok bare (fun b z=>absurd z (by simp)),r,q⟩
end
def zPl (sp:Sp)(dvs:List V)(E:XK)(t:TA):TE:=fun σ H Q=>t σ H fun vs H1=>sp (vs++dvs) H1 Q E
def zPs (C:Addr)(sp:Sp)(dvs:List V)(E:XK)(t:TA):TE:=fun σ H Q=>t σ H fun vs H1=>∀x dx,H1 x=none->H1 dx=none->dx≠x ->
 sp (.ref x::(vs++dvs)) (upd (upd H1 dx (.own x)) x (.ins C dx [])) (fun v H2=>v = .non/\Q (.ref x) H2) E
def Binds (K:PySem.W.Frag)(fd:FuncData)(ps:List Str)(ds:List Value):Prop :=
 ∀(s:Shared) (us:List Value),K.In s.heap->(us++ds).length=ps.length->BindsTo s fd ⟨us,[]⟩ (ps.zip (us++ds))
theorem Binds.all {K:PySem.W.Frag}{fd:FuncData}{ps:List Str}(h:∀us:List Value,us.length=ps.length->bindArgs fd ⟨us,[]⟩=pure (ps.zip us)):Binds K fd ps []:=fun s us _ hl=>by
 rw[List.append_nil] at hl ⊢
 exact .of_eq (h us hl)
def dD (CX:CXT)(X:Cx)(E:XK):Prop:=∀(pins:List (Addr×Obj)) (σ:St) (H:Hp) (s:Shared) (e:Value) (s':Shared),Inv X pins σ H s->CX X.stack H s E e s'->X.xe e s'
section
variable {X:Cx} {CX:CXT} {k:Nat} {f C:Addr} {fd:FuncData} {ps:List Str} {sp:Sp} {dvs:List V} {ds:List Value} {E:XK} {x m:Str} {p pos apos:Pos} {e o:Expr} {es:List Expr} {ta:TE} {t:TA}
theorem zPw {pins:List (Addr×Obj)}{σ:St}{H:Hp}{s:Shared}{Q:VK}{us:List Value}{vs:List V}(F:FnOk X.prog X.w X.K X.mg X.base CX k f fd ps sp)(hr:Room k X.A)(hb:Binds X.K fd ps ds)(hd:Vals dvs ds)(hx:dD CX X E)
   (I:Inv X pins σ H s) (r:Vals vs us) (h:sp (vs++dvs) H Q E):wpAny (model X.prog X.w) X.A (call (.ref f) us) (EP X pins σ Q) X.xe s:=by
 have r2:Vals (vs++dvs) (us++ds):=r.append hd
 have hl:(us++ds).length=ps.length:=by rw[←r2.length];exact F.len _ _ _ _ h
 refine wpAny_call (codeAny_mono (F.run X.A X.stack s H ⟨us,[]⟩ (us++ds) (vs++dvs) Q E hr I.env0 (hb s us I.kIn hl) r2 h) fun r s' hq=>?_)
 cases r with
 | error e=>exact hx pins σ H s e s' I hq
 | ok fl =>
   cases fl with
   | ret u=>exact I.after hq
   | next=>exact False.elim hq
   | brk=>exact False.elim hq
   | cont=>exact False.elim hq
theorem zVn (F:FnOk X.prog X.w X.K X.mg X.base CX k f fd ps sp)(hr:Room k X.A)(hg:Gl X x)(hm:X.mg x=some (.ref f))(hk:PySem.W.keepIn X.K (.ref f)=true)(hb:Binds X.K fd ps ds)(hd:Vals dvs ds)(hx:dD CX X E)
   (ha:PA X (e::es) t) (hdb:(x==("__debug__":Str))=false:=by decide) (he:starEach (e::es) X.env=(false,eval e X.env)::starEach es X.env:=by rfl) (hpl:(backTo pos (starEach es X.env)).any (·.1)=false:=by rfl) :
   PE X (.Call (.Name x p) (e::es) [] pos) (zPl sp dvs E t):=by
 intro pins s σ H Q I h
 refine wpAny_Call_Name_kw (zYU I hg hm ?_ hdb)
 refine PySem.W.callWith_K (h₀:=X.base) I.ok.mod.kin hk (thn (ha pos pins s σ H _ I h) fun us s1 ⟨vs,H1,I1,r,q⟩=>⟨I1.kIn,?_⟩) he hpl
 exact zPw F hr hb hd hx I1 r q
structure Mk (K:PySem.W.Frag)(C f:Addr):Prop where
 makes:PySem.W.makesIn K C=true
 init:PySem.W.findIn K (.ref C) "__init__"=some (some (.ref f))
 fn:PySem.W.isFn K (.ref f)=true
 kp:PySem.W.keepIn K (.ref C)=true
theorem zTr {pins:List (Addr×Obj)}{σ:St}{H:Hp}{s:Shared}{Q:VK}{us:List Value}{vs:List V}(M:Mk X.K C f)(F:FnOk X.prog X.w X.K X.mg X.base CX k f fd ps sp)(hr:Room (k+1) X.A)(hb:Binds X.K fd ps ds)(hd:Vals dvs ds)
   (hx:dD CX X E) (I:Inv X pins σ H s) (r:Vals vs us)
   (h:∀x dx,H x=none->H dx=none->dx≠x->sp (.ref x::(vs++dvs)) (upd (upd H dx (.own x)) x (.ins C dx [])) (fun v H2=>v = .non/\Q (.ref x) H2) E) :
   wpAny (model X.prog X.w) X.A (call (.ref C) us) (EP X pins σ Q) X.xe s:=by
 have hq:=h (s.heap.objs.size+1) s.heap.objs.size (I.hok.fresh (Nat.le_succ _)) (I.hok.fresh (Nat.le_refl _)) (Nat.ne_of_lt (Nat.lt_succ_self _))
 have I2:=Inv.made (C:=C) I
 have r2:Vals (V.ref (s.heap.objs.size+1)::(vs++dvs)) (Value.ref (s.heap.objs.size+1)::(us++ds)):=.cons rfl (r.append hd)
 have hl:(Value.ref (s.heap.objs.size+1)::us++ds).length=ps.length:=by
   have e:=r2.length
   rw[F.len _ _ _ _ hq] at e
   exact e.symm
 refine wpAny_call (zSt (f:=f) I.kIn M.makes M.init (beq_iff_eq.mp M.fn) (codeAny_mono (F.run _ X.stack _ _ ⟨Value.ref (s.heap.objs.size+1)::us,[]⟩ (Value.ref (s.heap.objs.size+1)::(us++ds)) _ _ E (hr.make C us [])
   (I2.env0.make C us []) (hb _ (Value.ref (s.heap.objs.size+1)::us) I2.kIn hl) r2 hq) fun r s' hq'=>?_))
 cases r with
 | error e=>exact hx pins σ _ _ e s' I2 hq'
 | ok fl =>
   cases fl with
   | ret u =>
     obtain⟨v,H',I3,rv,ev,q3⟩:=I2.after hq'
     subst ev
     exact⟨rv,⟨V.ref (s.heap.objs.size+1),H',I3,rfl,q3⟩⟩
   | next=>exact False.elim hq'
   | brk=>exact False.elim hq'
   | cont=>exact False.elim hq'
theorem zVQ (M:Mk X.K C f)(F:FnOk X.prog X.w X.K X.mg X.base CX k f fd ps sp)(hr:Room (k+1) X.A)(hg:Gl X x)(hm:X.mg x=some (.ref C))(hb:Binds X.K fd ps ds)(hd:Vals dvs ds)(hx:dD CX X E)
   (ha:PA X (e::es) t) (hdb:(x==("__debug__":Str))=false:=by decide) (he:starEach (e::es) X.env=(false,eval e X.env)::starEach es X.env:=by rfl) (hpl:(backTo pos (starEach es X.env)).any (·.1)=false:=by rfl) :
   PE X (.Call (.Name x p) (e::es) [] pos) (zPs C sp dvs E t):=by
 intro pins s σ H Q I h
 refine wpAny_Call_Name_kw (zYU I hg hm ?_ hdb)
 refine PySem.W.callWith_K (h₀:=X.base) I.ok.mod.kin M.kp (thn (ha pos pins s σ H _ I h) fun us s1 ⟨vs,H1,I1,r,q⟩=>⟨I1.kIn,?_⟩) he hpl
 exact zTr M F hr hb hd hx I1 r q
end
section
variable {X:Cx} {CX:CXT} {k:Nat} {f C:Addr} {fd:FuncData} {ps ks:List Str} {sp:Sp} {E:XK} {x m:Str} {p pos apos kpos:Pos} {e o:Expr} {es:List Expr} {kws:List Keyword} {te ta:TE} {t tk:TA} {nm:Option Str}
structure KBinds (K:PySem.W.Frag)(fd:FuncData)(ps ks:List Str)(g:List Value->List Value->List Value)(gV:List V->List V->List V):Prop where
 to:∀(s:Shared) (us ws:List Value),K.In s.heap->(g us ws).length=ps.length->BindsTo s fd ⟨us,ks.zip ws⟩ (ps.zip (g us ws))
 rel:∀ {vs:List V} {us:List Value} {zs:List V} {ws:List Value},Vals vs us->Vals zs ws->Vals (gV vs zs) (g us ws)
variable {g:List Value->List Value->List Value} {gV:List V->List V->List V}
end
structure FnScope (N P:List Str)(sc:Scope):Prop where
 kind:sc.kind = .function
 co:sc.isCoroutine=false
 gen:sc.isGenerator=false
 nd:N.Nodup
 pre:N.take P.length=P
 par:∀x∈P,sc.names.lookup x=some .local∨sc.names.lookup x=some .cell
 nofree:∀y∈sc.names,y.2 ≠ .free
theorem zZW {kindOf:Str->Option NameKind}{x:Str}:∀ {binds:List (Str×Value)} {m:Str->Option Value},(∀v,(x,v)∉binds)->bindL kindOf binds m x=m x
 | [],_,_=>rfl
 | (n,v)::r,m,h=>by
   unfold bindL
   rw[zZW fun w hw=>h w (List.mem_cons_of_mem _ hw)]
   split
   · have:x≠n:=by rintro rfl;exact h v List.mem_cons_self
     simp[this]
   · rfl
theorem zZG {kindOf:Str->Option NameKind}{x:Str}:∀ {binds:List (Str×Value)} {m:Str->Option Value},(∀v,(x,v)∉binds)->bindC kindOf binds m x=m x
 | [],_,_=>rfl
 | (n,v)::r,m,h=>by
   unfold bindC
   rw[zZG fun w hw=>h w (List.mem_cons_of_mem _ hw)]
   split
   · rfl
   · have:x≠n:=by rintro rfl;exact h v List.mem_cons_self
     simp[this]
theorem zZP {kindOf:Str->Option NameKind}{x:Str}{v:Value}:∀ {P:List Str} {vs:List Value} {i:Nat} {m:Str->Option Value},P.Nodup->P[i]?=some x->vs[i]?=some v->kindOf x=some .local ->
   bindL kindOf (P.zip vs) m x=some v
 | [],_,_,_,_,h,_,_=>by simp at h
 | _::_,[],_,_,_,_,h,_=>by simp at h
 | p::P,w::vs,0,m,nd,h1,h2,hk=>by
   simp at h1 h2;subst h1;subst h2
   show bindL kindOf ((p,w)::P.zip vs) m p=_
   unfold bindL
   rw[zZW fun v hv=>(List.nodup_cons.mp nd).1 (List.of_mem_zip hv).1,if_pos hk]
   simp
 | p::P,w::vs,i+1,m,nd,h1,h2,hk=>by
   show bindL kindOf ((p,w)::P.zip vs) m x=_
   unfold bindL
   exact zZP (i:=i) (List.nodup_cons.mp nd).2 (by simpa using h1) (by simpa using h2) hk
theorem zZK {kindOf:Str->Option NameKind}{x:Str}{v:Value}:∀ {P:List Str} {vs:List Value} {i:Nat} {m:Str->Option Value},P.Nodup->P[i]?=some x->vs[i]?=some v->kindOf x≠some .local ->
   bindC kindOf (P.zip vs) m x=some v
 | [],_,_,_,_,h,_,_=>by simp at h
 | _::_,[],_,_,_,_,h,_=>by simp at h
 | p::P,w::vs,0,m,nd,h1,h2,hk=>by
   simp at h1 h2;subst h1;subst h2
   show bindC kindOf ((p,w)::P.zip vs) m p=_
   unfold bindC
   rw[zZG fun v hv=>(List.nodup_cons.mp nd).1 (List.of_mem_zip hv).1,if_neg hk]
   simp
 | p::P,w::vs,i+1,m,nd,h1,h2,hk=>by
   show bindC kindOf ((p,w)::P.zip vs) m x=_
   unfold bindC
   exact zZK (i:=i) (List.nodup_cons.mp nd).2 (by simpa using h1) (by simpa using h2) hk
def pT (N:List Str)(vs:List V):St:=vs.map some++List.replicate (N.length - vs.length) none
def aH (CX:CXT)(P:Program)(w:World)(K:PySem.W.Frag)(mg:Str->Option Value)(base:Heap)(N:List Str)(qual:Str)(scope:Scope)(f:Addr)(cd:Value)(A:Around)(outer:List Env)(s:Shared)(H:Hp)(E:XK):Cx where
 prog:=P
 w:=w
 K:=K
 mg:=mg
 base:=base
 A:=A.deeper (envOfC qual scope s.heap.objs.size f cd)
 N:=N
 s₀:=s
 H₀:=H
 env:=envOfC qual scope s.heap.objs.size f cd
 outer:=outer
 stack:=envOfC qual scope s.heap.objs.size f cd::outer
 ex:=[]
 calm:=true
 fn:=fun _=>true
 pn:=[]
 xe:=fun e s'=>wpAny (model P w) (A.deeper (envOfC qual scope s.heap.objs.size f cd)) (leaving (envOfC qual scope s.heap.objs.size f cd) e) (fun _ s''=>CX outer H s E e s'') (fun e' s''=>CX outer H s E e' s'') s'
theorem zXo {sc:Scope}{n:Nat}{x:Str}(h:sc.names.lookup x=some .cell):∃c,(cellsFrom n sc.names []).lookup x=some c:=by
 have q:=PySem.W.cellsFrom_some sc.names n [] (.inl h)
 exact Option.isSome_iff_exists.mp q
theorem zVg {CX:CXT}{P:Program}{w:World}{K:PySem.W.Frag}{mg:Str->Option Value}{base:Heap}{N ps:List Str}{qual:Str}{scope:Scope}{f:Addr}{cd:Value}{A:Around}{outer:List Env}{s s1:Shared}{H:Hp}{E:XK}{us:List Value}{vs:List V}
   (S:FnScope N ps scope) (hd:A.handled=none) (e0:Env0 P w K mg base A outer s H) (hl:vs.length=ps.length) (r:Vals vs us)
   (x:InCallC s s.heap.objs.size (bindL (envOfC qual scope s.heap.objs.size f cd).kindOf (ps.zip us) fun _=>none) (cellsFrom (s.heap.objs.size+1) scope.names []) (bindC (envOfC qual scope s.heap.objs.size f cd).kindOf (ps.zip us) fun _=>none) s1) :
   Inv (aH CX P w K mg base N qual scope f cd A outer s H E) [] (pT N vs) H s1:=by
 have hpl:ps.length<=N.length:=by have:=congrArg List.length S.pre;rw[List.length_take] at this;omega
 obtain⟨h1,tk,rfl,hk⟩:=x.done
 have noA:∀b:Addr,b∉(aH CX P w K mg base N qual scope f cd A outer s H E).ex:=fun b z=>absurd (show b∈([]:List Addr) from z) (by simp)
 refine⟨⟨e0.mod,S.kind,rfl,rfl,Nat.le_refl _,fun y z c h1 h2=>?_,fun y hy=>?_,fun y c _ h=>?_,fun _=>hd,Around.frames_deeper e0.frames,.inr ⟨rfl,rfl⟩,fun b z=>absurd z (noA b),e0.bs,e0.bsz,fun b _ _=>noA b,fun b z=>absurd z (noA b),e0.funs,e0.frf⟩,
   rfl,e0.bare,Un.kept hk,⟨_,x.toInCall.ns,fun i y v h1 h2 h3=>?_⟩,fun y c h=>⟨_,x.cell y c h⟩,e0.hok.fresh (Nat.le_refl _),fun y c h=>?_,fun p hp=>absurd (show p∈([]:List (Addr×Obj)) from hp) (by simp),e0.hok.kept hk,?_⟩
 · exact name_of_addr x.apart (PySem.mem_of_lookup h1) (PySem.mem_of_lookup h2)
 · have hy:scope.names.lookup y=some .cell∨scope.names.lookup y=some .free:=hy
   rcases hy with hy | hy
   · exact zXo hy
   · exact absurd rfl (S.nofree _ (PySem.mem_of_lookup hy))
 · exact Nat.le_of_lt (x.above y c (PySem.mem_of_lookup h))
 · have hi:i < vs.length:=by
     unfold pT at h2
     by_cases hi:i < vs.length
     · exact hi
     · rw[List.getElem?_append_right (by simpa using hi)] at h2
       rw[List.getElem?_replicate] at h2
       split at h2<;>cases h2
   have ha:vs[i]?=some v:=by
     unfold pT at h2
     rw[List.getElem?_append_left (by simpa using hi),List.getElem?_map] at h2
     cases e:vs[i]? with
     | none=>rw[e] at h2;cases h2
     | some a=>rw[e] at h2;cases h2;rfl
   obtain⟨u,hu,rv⟩:=r.get ha
   have hp:ps[i]?=some y:=by
     rw[←S.pre,List.getElem?_take_of_lt (by omega)];exact h1
   have ndP:ps.Nodup:=by rw[←S.pre];exact S.nd.sublist (List.take_sublist _ _)
   refine⟨u,rv,?_⟩
   rcases S.par y (List.mem_of_getElem? hp) with k | k
   · exact .inl ⟨k,zZP ndP hp hu k⟩
   · obtain⟨c,e⟩:=zXo (n:=s.heap.objs.size+1) k
     refine .inr ⟨.inl k,c,e,?_⟩
     have q:=x.cell y c e
     rw[zZK ndP hp hu (by show scope.names.lookup y≠_;rw[k];decide)] at q
     exact q
 · exact e0.hok.fresh (Nat.le_of_lt (x.above y c (PySem.mem_of_lookup h)))
 · unfold pT
   show _=N.length
   rw[List.length_append,List.length_map,List.length_replicate]
   omega
theorem zPn {CX:CXT}{P:Program}{w:World}{K:PySem.W.Frag}{mg:Str->Option Value}{base:Heap}{k:Nat}{f:Addr}{name qual:Str}{params:Arguments}{body:List Stmt}{scope:Scope}{dV kV doc pm cdv ct oc:Value}{an od:Option Addr}
   {osl:Array (Option Value)} {N ps:List Str} {sp:Sp} (lk:K.lookup f=some ⟨oc,od,.func (PySem.W.fnOf name qual params body scope dV kV doc pm an cdv ct),osl⟩) (hcd:PySem.W.codeIn K cdv qual=true) (S:FnScope N ps scope)
   (len:∀vs H Q E,sp vs H Q E->vs.length=ps.length)
   (hbody:∀(A:Around) (outer:List Env) (s:Shared) (H:Hp) (vs:List V) (Q:VK) (E:XK),Room k (A.deeper (envOfC qual scope s.heap.objs.size f cdv))->sp vs H Q E ->
     ∃t,PSs (aH CX P w K mg base N qual scope f cdv A outer s H E) body t/\t { nx:=fun _ H'=>Q .non H',rt:=Q } (pT N vs) H) :
   FnOk P w K mg base CX (k+1) f (PySem.W.fnOf name qual params body scope dV kV doc pm an cdv ct) ps sp:=by
 refine⟨len,fun A outer s H args us vs Q E hr e0 hb r hsp=>?_⟩
 have hl:=len _ _ _ _ hsp
 have KX:K.In s.heap:=e0.mod.kin.keeps fun b o e=>(e0.bs b o e).1
 have lim:s.heap.NoLimit:=e0.mod.nolimit.keeps fun b o e=>(e0.bs b o e).1
 have hkind:∀y∈ps.zip us,scope.names.lookup y.1=some .local∨(scope.names.lookup y.1=some .cell/\((cellsFrom (s.heap.objs.size+1) scope.names []).lookup y.1).isSome=true):=fun⟨n,v⟩ hy=>by
   rcases S.par n (List.of_mem_zip hy).1 with q | q
   · exact .inl q
   · exact .inr ⟨q,PySem.W.cellsFrom_some _ _ _ (.inl q)⟩
 refine codeAny_call_function hr.depth (KX _ _ lk) rfl S.co S.gen rfl (PySem.W.codeRec_of KX hcd) (hb _ _ _ _ ?_)
 refine wpAny_newFunctionEnv_cells S.kind hkind fun env he s1 x=>?_
 subst he
 refine⟨lim.keeps x.toInCall.keep,codeAny_func ?_⟩
 obtain⟨t,ht,hq⟩:=hbody A outer s H vs Q E (hr.deeper _) hsp
 have I:Inv (aH CX P w K mg base N qual scope f cdv A outer s H E) [] (pT N vs) H s1:=zVg S hr.hd e0 hl r x
 refine wpAny_mono (ht [] s1 (pT N vs) H _ I hq) (fun fl s' hs=>?_) fun e s' hs=>hs
 have fin:∀ {σ':St} {H':Hp} {v:V} {u:Value},Inv (aH CX P w K mg base N qual scope f cdv A outer s H E) [] σ' H' s'->RelV v u->Q v H'->CE outer P w H s Q u s' :=
   fun {σ' H' v u} J rv q=>⟨v,H',J.os,J.bare,J.base,J.hok,rv,q⟩
 cases fl with
 | ret u =>
   obtain⟨v,σ',H',J,rv,q⟩:=hs
   exact fin J rv q
 | next =>
   obtain⟨σ',H',J,q⟩:=hs
   exact fin (v:=V.non) (u:=Value.none) J rfl q
 | brk =>
   obtain⟨_,_,_,q⟩:=hs
   exact False.elim q
 | cont =>
   obtain⟨_,_,_,q⟩:=hs
   exact False.elim q
end L2
namespace L2
open PySem PySem.Spec PyProof.Rows
section
variable {X:Cx} {x:Str} {p pos:Pos} {e:Expr} {es:List Expr} {t:TA} {id T:String} {r:List V->Hp->VK->Prop}
def tCB (r:List V->Hp->VK->Prop)(t:TA):TE:=fun σ H Q=>t σ H fun vs H1=>r vs H1 Q
theorem rA (hc:CallR X (.builtin id) r)(hg:Gl X x)(hm:X.mg x=none)(hv:bootBuiltins x=some (.builtin id))(ha:PA X (e::es) t)(hn:x≠"__name__":=by decide)(hdb:(x==("__debug__":Str))=false:=by decide)
   (he:starEach (e::es) X.env=(false,eval e X.env)::starEach es X.env:=by rfl) (hpl:(backTo pos (starEach es X.env)).any (·.1)=false:=by rfl):PE X (.Call (.Name x p) (e::es) [] pos) (tCB r t):=by
 intro pins s σ H Q I h
 refine wpAny_Call_Name_kw (qY I hg hm hv ?_ hn hdb)
 exact PyProof.Rows.callWith_builtin1 (thn (ha pos pins s σ H _ I h) fun us s1 ⟨vs,H1,I1,r1,q1⟩=>hc pins s1 σ H1 vs us Q I1 r1 q1) he hpl
theorem rG (hc:CallR X (.type T) r)(hg:Gl X x)(hm:X.mg x=none)(hv:bootBuiltins x=some (.type T))(ha:PA X (e::es) t)(hn:x≠"__name__":=by decide)(hdb:(x==("__debug__":Str))=false:=by decide)
   (he:starEach (e::es) X.env=(false,eval e X.env)::starEach es X.env:=by rfl) (hpl:(backTo pos (starEach es X.env)).any (·.1)=false:=by rfl):PE X (.Call (.Name x p) (e::es) [] pos) (tCB r t):=by
 intro pins s σ H Q I h
 refine wpAny_Call_Name_kw (qY I hg hm hv ?_ hn hdb)
 exact PyProof.Rows.callWith_type1 (thn (ha pos pins s σ H _ I h) fun us s1 ⟨vs,H1,I1,r1,q1⟩=>hc pins s1 σ H1 vs us Q I1 r1 q1) he hpl
end
end L2
namespace HT
open PySem PyProof.Rows
section
open PySem.SeqAt
open PySem.AutoSeq1 (wpAny_loadPart')
open PySem.MeetsSeq PySem.MeetsSeq2 PySem.MeetsSeq3
end
section
variable {prog:Program} {w:World} {A:Around} {E:Value->Shared->Prop} {s:Shared}
def sIx (n d:Nat):Option Int->Nat
 | none=>d
 | some v=>if v < 0 then(v+(n:Int)).toNat else min v.toNat n
end
end HT
namespace L2
open PySem PySem.Spec PyProof.Rows
abbrev TO:=St->Hp->(Option Int->Hp->Prop)->Prop
def PO (X:Cx)(e:Option Expr)(t:TO):Prop :=
 ∀(pins:List (Addr×Obj)) (s:Shared) (σ:St) (H:Hp) (Q:Option Int->Hp->Prop),Inv X pins σ H s->t σ H Q ->
   wpAny (model X.prog X.w) X.A (evalPart e X.env) (fun u s'=>∃o H',Inv X pins σ H' s'/\IsPart u o/\Q o H') X.xe s
def zRj:TO:=fun _ H Q=>Q none H
def zOv (t:TE):TO:=fun σ H Q=>t σ H fun x H1=>∃i,x = .int i/\Q (some i) H1
theorem zWy {ns:List Int}:∀ {us:List Value},Vals (ns.map V.int) us->IntsAre us ns:=by
 induction ns with
 | nil=>intro us r;rw[List.map_nil] at r;cases r;exact .nil
 | cons n ns ih =>
   intro us r
   rw[List.map_cons] at r
   cases r with
   | cons r1 r2 =>
     obtain⟨t,e⟩:=r1
     subst e
     exact .cons n t (ih r2)
section
variable {X:Cx} {e:Expr} {te:TE} {lo hi:Option Expr} {tl th:TO} {pos p2:Pos}
theorem zRz:PO X none zRj:=by
 intro pins s σ H Q I h
 rw[evalPart_none]
 exact wpAny_pure ⟨none,H,I,.none,h⟩
theorem zRP (h:PE X e te):PO X (some e) (zOv te):=by
 intro pins s σ H Q I hw
 rw[evalPart_some]
 refine thn (h pins s σ H _ I hw) fun u s1 ⟨x,H1,I1,r1,q1⟩=>?_
 obtain⟨i,rfl,q⟩:=q1
 obtain⟨t,rfl⟩:=r1
 exact⟨some i,H1,I1,.int i t,q⟩
def SlR (X:Cx)(r:V->Option Int->Option Int->Hp->VK->Prop):Prop :=
 ∀(pins:List (Addr×Obj)) (s:Shared) (σ:St) (H:Hp) (x:V) (v vl vu:Value) (lo hi:Option Int) (sl:Addr) (Q:VK),Inv X pins σ H s->RelV x v->s.heap.IsSliceOf sl vl vu .none->IsPart vl lo->IsPart vu hi->r x lo hi H Q ->
   ∃T id,typeLookup (.type T) "__getitem__"=pure (some (.builtin id))/\s.TypeIs v T/\wpAny (model X.prog X.w) X.A (getItem v (.ref sl)) (EP X pins σ Q) X.xe s
def tSl (r:V->Option Int->Option Int->Hp->VK->Prop)(te:TE)(tl th:TO):TE:=fun σ H Q=>te σ H fun x H1=>tl σ H1 fun l H2=>th σ H2 fun u H3=>r x l u H3 Q
theorem zTA {r:V->Option Int->Option Int->Hp->VK->Prop}(hr:SlR X r)(he:PE X e te)(hl:PO X lo tl)(hu:PO X hi th):PE X (.Subscript e (.Slice lo hi none p2) pos) (tSl r te tl th):=by
 intro pins s σ H Q I h
 refine Subscript_ (thn (he pins s σ H _ I h) fun v s1 ⟨x,H1,I1,r1,q1⟩=>?_)
 refine wpAny_Slice (thn (hl pins s1 σ H1 _ I1 q1) fun vl s2 ⟨l,H2,I2,pl,q2⟩=>thn (hu pins s2 σ H2 _ I2 q2) fun vu s3 ⟨u,H3,I3,pu,q3⟩=>?_)
 rw[evalPart_none]
 refine wpAny_pure ?_
 have I4:Inv X pins σ H3 { s3 with heap:=s3.heap.push { cls:=.type "slice",data:=.fields #[vl,vu,.none] } }:=I3.kept (t':=s3.toks) fun b ob q=>Heap.get?_push_of_some _ q
 obtain⟨T,id,hT,ht,hg⟩:=hr pins { s3 with heap:=s3.heap.push { cls:=.type "slice",data:=.fields #[vl,vu,.none] } } σ H3 x v vl vu l u s3.heap.objs.size Q I4 r1 (Heap.IsSliceOf.new ..) pl pu q3
 show wpAny (model X.prog X.w) X.A (subscriptTail e (.Slice lo hi none p2) v (.ref s3.heap.objs.size)) (EP X pins σ Q) X.xe { s3 with heap:=s3.heap.push { cls:=.type "slice",data:=.fields #[vl,vu,.none] } }
 exact tail_any (ops:=[.ref s3.heap.objs.size,v]) ht hT hg (by with_unfolding_all rfl)
def zUR (xs:List V)(lo hi:Option Int):List V:=(xs.drop (HT.sIx xs.length 0 lo)).take (HT.sIx xs.length xs.length hi - HT.sIx xs.length 0 lo)
theorem zXI (xs:List V)(lo hi:Option Int):(zUR xs lo hi).length<=xs.length:=by
 unfold zUR
 rw[List.length_take,List.length_drop]
 omega
end
end L2
namespace L2
open PySem PySem.Spec PyProof.Rows
def ixN (n:Nat)(i:Int):Option Nat:=if 0<=i then(if i < n then some i.toNat else none) else if -(n:Int)<=i then some (i+n).toNat else none
def atI {α:Type}(xs:List α)(i:Int):Option α:=(ixN xs.length i).bind fun j=>xs[j]?
theorem zZg {n:Nat}{i:Int}{j:Nat}(h:ixN n i=some j):seqIndex? i n=some j/\j < n /\ -(n:Int)<=i/\i < n:=by
 unfold ixN at h
 by_cases h0:0<=i
 · rw[if_pos h0] at h
   by_cases h1:i < n
   · rw[if_pos h1] at h
     have e:i.toNat=j:=Option.some.inj h
     exact⟨by rw[seqIndex_of h0 h1,e],by omega,by omega,h1⟩
   · rw[if_neg h1] at h;cases h
 · rw[if_neg h0] at h
   by_cases h1 : -(n:Int)<=i
   · rw[if_pos h1] at h
     have e:(i+n).toNat=j:=Option.some.inj h
     exact⟨by rw[seqIndex_neg (by omega) h1,e],by omega,h1,by omega⟩
   · rw[if_neg h1] at h;cases h
theorem zZc {α:Type}{xs:List α}{i:Int}{v:α}(h:atI xs i=some v):∃j,seqIndex? i xs.length=some j/\xs[j]?=some v/\j < xs.length /\ -(xs.length:Int)<=i/\i < xs.length:=by
 unfold atI at h
 cases e:ixN xs.length i with
 | none=>rw[e] at h;cases h
 | some j =>
   rw[e] at h
   obtain⟨h1,h2,h3,h4⟩:=zZg e
   exact⟨j,h1,h,h2,h3,h4⟩
theorem zYX {α:Type}{xs:List α}{j:Nat}{v:α}(h:xs[j]?=some v):atI xs (j:Int)=some v:=by
 have hj:j < xs.length:=(List.getElem?_eq_some_iff.mp h).1
 have e:ixN xs.length (j:Int)=some j:=by
   unfold ixN
   rw[if_pos (by omega),if_pos (by omega)];simp
 unfold atI;rw[e];exact h
def zYO (b:Expr):Prop:=∀o i,subscripted b false o i=operate [o,i] (getItem o i)
def IxR (X:Cx)(r:R2):Prop :=
 ∀(value slice:Expr) (pins:List (Addr×Obj)) (s:Shared) (σ:St) (H:Hp) (x y:V) (v u:Value) (Q:VK),Inv X pins σ H s->RelV x v->RelV y u->r x y H Q ->
   subscripted slice false v u=operate [v,u] (getItem v u)->wpAny (model X.prog X.w) X.A (subscriptTail value slice v u) (EP X pins σ Q) X.xe s
def MtR (X:Cx)(id:String)(r:V->List V->Hp->VK->Prop):Prop :=
 ∀(pins:List (Addr×Obj)) (s:Shared) (σ:St) (H:Hp) (x:V) (xs:List V) (v:Value) (us:List Value) (Q:VK),Inv X pins σ H s->RelV x v->Vals xs us->r x xs H Q ->
   wpAny (model X.prog X.w) X.A (call (.builtin id) (v::us)) (EP X pins σ Q) X.xe s
section
variable {X:Cx} {a b:Expr} {ta tb:TE} {pos:Pos}
theorem IxR.or {r r':R2}(h:IxR X r)(h':IxR X r'):IxR X (fun x y H Q=>r x y H Q∨r' x y H Q):=by
 intro value slice pins s σ H x y v u Q I rx ry q hs
 rcases q with q | q
 · exact h value slice pins s σ H x y v u Q I rx ry q hs
 · exact h' value slice pins s σ H x y v u Q I rx ry q hs
theorem zQK {r:R2}(hr:IxR X r)(ha:PE X a ta)(hb:PE X b tb)(hs:zYO b):PE X (.Subscript a b pos) (tOp r ta tb):=by
 intro pins s σ H Q I h
 exact Subscript_ (zPV ha hb I h fun v u s2 x y H2 I2 rx ry q=>hr a b pins s2 σ H2 x y v u Q I2 rx ry q (hs _ _))
def zO1 (K:PySem.W.Frag):R2:=fun x y H Q=>∃p xs i v,x = .ref p/\y = .int i/\SqL K H p xs/\atI xs i=some v/\Q v H
def zO3 (K:PySem.W.Frag):R2:=fun x y H Q=>∃p xs i v,x = .ref p/\y = .int i/\SqT K H p xs/\atI xs i=some v/\Q v H
def zPc:R2:=fun x y H Q=>∃z i c,x = .str z/\y = .int i/\z.length<=sizeLine/\atI z.cps.toList i=some c/\Q (.str ⟨#[c]⟩) H
theorem ix_list:IxR X (zO1 X.K):=by
 intro value slice pins s σ H x y v u Q I rx ry h hs
 obtain⟨p,xs,i,z,rfl,rfl,hq,he,q⟩:=h
 cases rx
 obtain⟨t,rfl⟩:=ry
 obtain⟨its,r,pl,hz⟩:=I.list hq
 obtain⟨j,h1,h2,h3,h4,h5⟩:=zZc he
 obtain⟨w,ew,rw'⟩:=r.get h2
 have hl:=r.length
 have hn:=gA
 have fin:EP X pins σ Q w s:=⟨z,H,I,rw',q⟩
 by_cases h0:0<=i
 · have hj:i.toNat=j:=by
     rw[seqIndex_of h0 h5] at h1
     exact Option.some.inj h1
   exact item_listR pl.isList h0 (by omega) (by rw[hj];simpa using ew) fin hs
 · have hj:(i+(its.toArray.size:Int)).toNat=j:=by
     rw[seqIndex_neg (by omega) h4] at h1
     rw[List.size_toArray,←hl]
     exact Option.some.inj h1
   exact subscriptTail_builtinR (x:=w) pl.isList.typeIs slot_list_getitem.lookup
     (wpAny_getItem_list_neg (Q:=fun r s'=>r=w/\EP X pins σ Q r s') pl.isList (by omega) (by rw[List.size_toArray]<;>omega) (by omega) (by rw[hj];simpa using ew) ⟨rfl,fin⟩) hs
theorem ix_tup:IxR X (zO3 X.K):=by
 intro value slice pins s σ H x y v u Q I rx ry h hs
 obtain⟨p,xs,i,z,rfl,rfl,hq,he,q⟩:=h
 cases rx
 obtain⟨t,rfl⟩:=ry
 obtain⟨its,r,pl,hz⟩:=I.tuple hq
 obtain⟨j,h1,h2,h3,h4,h5⟩:=zZc he
 obtain⟨w,ew,rw'⟩:=r.get h2
 have hl:=r.length
 have hn:=gA
 have fin:EP X pins σ Q w s:=⟨z,H,I,rw',q⟩
 exact subscriptTail_builtinR (x:=w) pl.typeIs slot_tuple_getitem.lookup
   (getItem_tuple (j:=j) (Q:=fun r s'=>r=w/\EP X pins σ Q r s') pl (by omega) (by omega) (by rw[List.size_toArray,←hl];exact h1) (by simpa using ew) ⟨rfl,fin⟩) hs
theorem zPR:IxR X zPc:=by
 intro value slice pins s σ H x y v u Q I rx ry h hs
 obtain⟨z,i,c,rfl,rfl,hz,he,q⟩:=h
 obtain⟨t,rfl⟩:=rx
 obtain⟨t',rfl⟩:=ry
 obtain⟨j,h1,h2,h3,h4,h5⟩:=zZc he
 have hl:z.cps.toList.length=z.length:=by simp[Str.length]
 rw[hl] at h1 h4 h5
 have hn:=gA
 exact tail_any (typeIs_str s z t) slot_str_getitem.lookup (getItem_str (c:=c) (by
   have e1:decide (i < -(2^63:Int))=false:=decide_eq_false (by omega)
   have e2:decide (i≥2^63)=false:=decide_eq_false (by omega)
   rw[e1,e2,Bool.or_false]) (by rw[h1];simpa using h2) ⟨.str ⟨#[c]⟩,H,I.tok _,⟨_,rfl⟩,q⟩) hs
def rIx (K:PySem.W.Frag):R2:=fun x y H Q=>zO1 K x y H Q∨zO3 K x y H Q∨zPc x y H Q
theorem zPK:IxR X (rIx X.K):=ix_list.or (ix_tup.or zPR)
theorem zW3 (its:List Value)(n j:Nat)(u:Value):Obj.mapSeq (·.setIfInBounds j u) { cls:=.type "list",data:=.seq its.toArray n }={ cls:=.type "list",data:=.seq (its.set j u).toArray n }:=by
 simp[Obj.mapSeq]
theorem Inv.lst {pins:List (Addr×Obj)}{σ:St}{H:Hp}{s:Shared}{p:Addr}{xs:List V}(I:Inv X pins σ H s)(h:H p=some (.lst xs)) :
   ∃(its:List Value) (n:Nat),Vals xs its/\s.heap.get? p=some { cls:=.type "list",data:=.seq its.toArray n }/\xs.length<=sizeLine:=by
 obtain⟨z,its,n,r,e⟩:=I.hok p _ h
 exact⟨its,n,r,e,z⟩
theorem Inv.lstUpd {pins:List (Addr×Obj)}{σ:St}{H:Hp}{s:Shared}{p:Addr}{xs ys:List V}{its its':List Value}{n n':Nat}{f:Obj->Obj}(I:Inv X pins σ H s)(h:H p=some (.lst xs))
   (ho:s.heap.get? p=some { cls:=.type "list",data:=.seq its.toArray n }) (hf:f { cls:=.type "list",data:=.seq its.toArray n }={ cls:=.type "list",data:=.seq its'.toArray n' }) (r:Vals ys its') (hz:ys.length<=sizeLine) (t:Nat) :
   Inv X pins σ (upd H p (.lst ys)) { s with heap:=s.heap.update p f,toks:=t }:=by
 have e:(s.heap.update p f).get? p=some { cls:=.type "list",data:=.seq its'.toArray n' }:=by
   rw[Heap.get?_update_self f ho (by rw[hf]<;>rfl),hf]
 refine I.write (x:=p) (e:=p) (by rw[h];trivial) (.inl rfl) (fun b u hb q=>(Heap.get?_update_other _ _ (Ne.symm hb)).trans q) ⟨_,e⟩ ?_
 exact⟨hz,its',n',r,e⟩
def zPh:V->V->V->Hp->(Hp->Prop)->Prop:=fun o i v H Q=>∃p xs k j,o = .ref p/\i = .int k/\H p=some (.lst xs)/\ixN xs.length k=some j/\Q (upd H p (.lst (xs.set j v)))
theorem zSs:zQm X zPh:=by
 intro pins s σ H o i v ov iv u Q I ro ri rv h
 obtain⟨p,xs,k,j,rfl,rfl,hp,hj,q⟩:=h
 cases ro
 obtain⟨t,rfl⟩:=ri
 obtain⟨its,n,r,ho,hz⟩:=I.lst hp
 obtain⟨h1,h2,h3,h4⟩:=zZg hj
 have hl:=r.length
 have hn:=gA
 have I':Inv X pins σ (upd H p (.lst (xs.set j v))) { s with heap:=s.heap.update p (Obj.mapSeq (·.setIfInBounds j u)) } :=
   I.lstUpd hp ho (zW3 its n j u) (r.set rv j) (by rw[List.length_set];exact hz) s.toks
 by_cases h0:0<=k
 · have hk:k.toNat=j:=by
     rw[seqIndex_of h0 h4] at h1
     exact Option.some.inj h1
   exact PySem.W.ki_setAt ho h0 (by omega) (by rw[List.size_toArray,←hl];exact h4) (by rw[hk];exact⟨_,I',q⟩)
 · have hk:(k+(its.toArray.size:Int)).toNat=j:=by
     rw[seqIndex_neg (by omega) h3] at h1
     rw[List.size_toArray,←hl]
     exact Option.some.inj h1
   exact PySem.W.ki_setBack ho (by omega) (by rw[List.size_toArray,←hl];exact h3) (by omega) (by rw[hk];exact⟨_,I',q⟩)
theorem zYS (lo hi:Option Int)(n:Nat):(sliceBounds lo hi none n).1=((HT.sIx n 0 lo:Nat):Int)/\(sliceBounds lo hi none n).2.1=((HT.sIx n n hi:Nat):Int)/\(sliceBounds lo hi none n).2.2=1:=by
 refine⟨?_,?_,rfl⟩
 · cases lo with
   | none=>simp[sliceBounds,HT.sIx]
   | some i =>
     simp only[sliceBounds,HT.sIx,Option.getD_none,show(1:Int) > 0 by decide,if_true]
     by_cases h:i < 0
     · simp only[h,if_true]<;>omega
     · simp only[h,if_false]<;>omega
 · cases hi with
   | none=>simp[sliceBounds,HT.sIx]
   | some i =>
     simp only[sliceBounds,HT.sIx,Option.getD_none,show(1:Int) > 0 by decide,if_true]
     by_cases h:i < 0
     · simp only[h,if_true]<;>omega
     · simp only[h,if_false]<;>omega
theorem aZ (its:List Value)(lo hi:Option Int):slicePick its.toArray lo hi none=((its.drop (HT.sIx its.length 0 lo)).take (HT.sIx its.length its.length hi - HT.sIx its.length 0 lo)).toArray:=by
 obtain⟨h1,h2,h3⟩:=zYS lo hi its.toArray.size
 unfold slicePick
 rw[h1,h2,h3]
 simp only[sliceRange_one,pick_run,List.size_toArray]<;>rfl
def zNX (K:PySem.W.Frag):V->Option Int->Option Int->Hp->VK->Prop:=fun x lo hi H Q=>∃a xs,x = .ref a/\SqL K H a xs/\∀p,H p=none->Q (.ref p) (upd H p (.lst (zUR xs lo hi)))
theorem zRw:SlR X (zNX X.K):=by
 intro pins s σ H x v vl vu lo hi sl Q I rx hs pl pu h
 obtain⟨a,xs,rfl,hx,q⟩:=h
 cases rx
 obtain⟨its,r,ht,hz⟩:=I.list hx
 have hlen:=r.length
 refine⟨"list",_,slot_list_getitem.lookup,ht.isList.typeIs,?_⟩
 refine wpAny_getItem_list_slice ht.isList hs pl pu .none (by simp) ?_ (by rw[List.size_toArray]<;>omega)
 rw[aZ,←hlen]
 refine⟨.ref s.heap.objs.size,_,I.laid (t':=s.toks) (o:=.lst (zUR xs lo hi)) (fun b ob q=>Heap.get?_push_of_some _ q) (Nat.le_refl _) ?_,rfl,q _ (I.hok.fresh (Nat.le_refl _))⟩
 exact⟨Nat.le_trans (zXI xs lo hi) hz,_,0,(r.drop (HT.sIx xs.length 0 lo)).take (HT.sIx xs.length xs.length hi - HT.sIx xs.length 0 lo),Heap.get?_push_size _ rfl⟩
def mI:V->Bool
 | .non=>true
 | .bl _=>true
 | .int _=>true
 | .str _=>true
 | _=>false
def eqV:V->V->Bool
 | .non,.non=>true
 | .bl a,.bl b=>a==b
 | .bl a,.int b=>(if a then 1 else 0)==b
 | .int a,.bl b=>a==(if b then 1 else 0)
 | .int a,.int b=>a==b
 | .str a,.str b=>a==b
 | _,_=>false
theorem zPB {A:Around}{s:Shared}{y x:V}{u v:Value}(ry:RelV y u)(rx:RelV x v)(fy:mI y=true)(fx:mI x=true):SeqAt.EqAt A s u v (eqV y x):=by
 cases y with
 | non =>
   cases ry
   cases x with
   | non=>cases rx;exact SeqAt.EqAt.same _
   | bl b=>cases rx;exact SeqAt.EqAt.none_bool b
   | int b=>obtain⟨t,rfl⟩:=rx;exact SeqAt.EqAt.none_int b t
   | str b=>obtain⟨t,rfl⟩:=rx;exact SeqAt.EqAt.none_str b t
   | _=>exact absurd (show false=true from fx) Bool.false_ne_true
 | bl a =>
   cases ry
   cases x with
   | non=>cases rx;exact SeqAt.EqAt.bool_none a
   | bl b=>cases rx;exact SeqAt.EqAt.bool_bool a b
   | int b=>obtain⟨t,rfl⟩:=rx;exact SeqAt.EqAt.bool_int a b t
   | str b=>obtain⟨t,rfl⟩:=rx;exact SeqAt.EqAt.bool_str a b t
   | _=>exact absurd (show false=true from fx) Bool.false_ne_true
 | int a =>
   obtain⟨t',rfl⟩:=ry
   cases x with
   | non=>cases rx;exact SeqAt.EqAt.int_none a t'
   | bl b=>cases rx;exact SeqAt.EqAt.int_bool a t' b
   | int b=>obtain⟨t,rfl⟩:=rx;exact SeqAt.EqAt.int_int a t' b t
   | str b=>obtain⟨t,rfl⟩:=rx;exact SeqAt.EqAt.int_str a t' b t
   | _=>exact absurd (show false=true from fx) Bool.false_ne_true
 | str a =>
   obtain⟨t',rfl⟩:=ry
   cases x with
   | non=>cases rx;exact SeqAt.EqAt.str_none a t'
   | bl b=>cases rx;exact SeqAt.EqAt.str_bool a t' b
   | int b=>obtain⟨t,rfl⟩:=rx;exact SeqAt.EqAt.str_int a t' b t
   | str b=>obtain⟨t,rfl⟩:=rx;exact SeqAt.EqAt.str_str a t' b t
   | _=>exact absurd (show false=true from fx) Bool.false_ne_true
 | _=>exact absurd (show false=true from fy) Bool.false_ne_true
def eqU (x:V)(u:Value):Bool:=match u with
 | .none=>eqV .non x
 | .bool b=>eqV (.bl b) x
 | .int i _=>eqV (.int i) x
 | .str z _=>eqV (.str z) x
 | _=>false
theorem zTD {x y:V}{u:Value}(r:RelV y u)(f:mI y=true):eqU x u=eqV y x:=by
 cases y with
 | non=>cases r;rfl
 | bl b=>cases r;rfl
 | int i=>obtain⟨t,rfl⟩:=r;rfl
 | str z=>obtain⟨t,rfl⟩:=r;rfl
 | _=>exact absurd (show false=true from f) Bool.false_ne_true
theorem zYA {x:V}:∀ {xs:List V} {us:List Value},Vals xs us->xs.all mI=true->us.any (eqU x)=xs.any fun y=>eqV y x
 | _,_,.nil,_=>rfl
 | y::xs,u::us,.cons r t,f=>by
   rw[List.all_cons,Bool.and_eq_true] at f
   rw[List.any_cons,List.any_cons,zTD r f.1,zYA t f.2]
theorem bR {A:Around}{s:Shared}{x:V}{v:Value}(rx:RelV x v)(fx:mI x=true):∀ {xs:List V} {us:List Value},Vals xs us->xs.all mI=true->∀u∈us,SeqAt.EqAt A s u v (eqU x u)
 | _,_,.nil,_=>fun u hu=>by cases hu
 | y::xs,u::us,.cons r t,f=>fun u' hu=>by
   rw[List.all_cons,Bool.and_eq_true] at f
   rcases List.mem_cons.mp hu with rfl | hu
   · rw[zTD r f.1];exact zPB r rx f.1 fx
   · exact bR rx fx t f.2 u' hu
def inV (x:V)(xs:List V):Bool:=xs.any fun y=>eqV y x
def rIn (K:PySem.W.Frag)(neg:Bool):R2:=fun x y H Q=>∃p xs,y = .ref p/\(SqL K H p xs∨SqT K H p xs)/\mI x=true/\xs.all mI=true/\Q (.bl (if neg then !inV x xs else inV x xs)) H
theorem zUK:OpR X (compareOp .In) (rIn X.K false):=by
 intro pins s σ H x y v u Q I rx ry h
 obtain⟨p,xs,rfl,hq,fx,fs,q⟩:=h
 cases ry
 rcases hq with hq | hq
 · obtain⟨its,r,pl,hz⟩:=I.list hq
   refine SeqAt.in_listAt (eqU x) pl.isList (fun w hw=>bR rx fx r fs w (by simpa using hw)) ⟨.bl _,H,I,rfl,?_⟩
   rw[show its.toArray.any (eqU x)=its.any (eqU x) by simp,zYA r fs]
   exact q
 · obtain⟨its,r,pl,hz⟩:=I.tuple hq
   refine SeqAt.in_tupleAt (eqU x) pl (fun w hw=>bR rx fx r fs w (by simpa using hw)) ⟨.bl _,H,I,rfl,?_⟩
   rw[show its.toArray.any (eqU x)=its.any (eqU x) by simp,zYA r fs]
   exact q
theorem call_len_seq:CallR X (.builtin "len") (fun xs H Q=>∃p ys,xs=[.ref p]/\(SqL X.K H p ys∨SqT X.K H p ys)/\Q (.int ys.length) H):=by
 intro pins s σ H xs us Q I r h
 obtain⟨p,ys,rfl,hq,q⟩:=h
 obtain⟨u,rfl,rx⟩:=pZ r
 cases rx
 have hn:=gA
 rcases hq with hq | hq
 · obtain⟨its,r',pl,hz⟩:=I.list hq
   have hlen:=r'.length
   exact Calls.call_len_list pl.isList (by simp only[List.size_toArray]<;>omega) ⟨.int ys.length,H,I.tok _,⟨s.toks+1,by rw[List.size_toArray,hlen]⟩,q⟩
 · obtain⟨its,r',pl,hz⟩:=I.tuple hq
   have hlen:=r'.length
   exact len_tuple pl (by simp only[List.size_toArray]<;>omega) ⟨.int ys.length,H,I.tok _,⟨s.toks+1,by rw[List.size_toArray,hlen]⟩,q⟩
theorem zY6:CallR X (.builtin "len") (fun xs H Q=>∃z,xs=[.str z]/\z.length<=sizeLine/\Q (.int z.length) H):=by
 intro pins s σ H xs us Q I r h
 obtain⟨z,rfl,hz,q⟩:=h
 obtain⟨u,rfl,t,rfl⟩:=pZ r
 have hn:=gA
 exact len_str (by omega) ⟨.int z.length,H,I.tok _,⟨_,rfl⟩,q⟩
theorem CallR.or {f:Value}{r r':List V->Hp->VK->Prop}(h:CallR X f r)(h':CallR X f r'):CallR X f (fun xs H Q=>r xs H Q∨r' xs H Q):=by
 intro pins s σ H xs us Q I rs q
 rcases q with q | q
 · exact h pins s σ H xs us Q I rs q
 · exact h' pins s σ H xs us Q I rs q
theorem zY9:CallR X (.type "list") (fun xs H Q=>∃p ys,xs=[.ref p]/\(SqL X.K H p ys∨SqT X.K H p ys)/\∀l,H l=none->Q (.ref l) (upd H l (.lst ys))):=by
 intro pins s σ H xs us Q I r h
 obtain⟨p,ys,rfl,hq,q⟩:=h
 obtain⟨u,rfl,rx⟩:=pZ r
 cases rx
 have fin:∀(its:List Value),Vals ys its->ys.length<=sizeLine->∀(h':Heap) (c':Nat),(∀b o',s.heap.get? b=some o'->h'.get? b=some o') ->
     h'.get? s.heap.objs.size=some { cls:=.type "list",dict:=none,data:=.seq its.toArray c',slots:=#[] }->EP X pins σ Q (.ref s.heap.objs.size) { s with heap:=h' }:=fun its r' hz h' c' kp e =>
   ⟨.ref s.heap.objs.size,_,I.laid (t':=s.toks) kp (Nat.le_refl _) (show ObjOk X.prog X.w _ h' _ (.lst ys) from⟨hz,its,c',r',e⟩),rfl,q _ (I.hok.fresh (Nat.le_refl _))⟩
 rcases hq with hq | hq
 · obtain⟨its,r',pl,hz⟩:=I.list hq
   have hlen:=r'.length
   obtain⟨o,ho,hc,n,hd⟩:=pl.isList
   exact call_list_seq p (.inl rfl) ho hc hd (fun h' c' kp e=>fin its r' hz h' c' kp e) (by simp only[List.size_toArray]<;>omega)
 · obtain⟨its,r',pl,hz⟩:=I.tuple hq
   have hlen:=r'.length
   obtain⟨o,ho,hc,n,hd⟩:=pl
   exact call_list_seq p (.inr rfl) ho hc hd (fun h' c' kp e=>fin its r' hz h' c' kp e) (by simp only[List.size_toArray]<;>omega)
theorem aY:CallR X (.type "tuple") (fun xs H Q=>∃p ys,xs=[.ref p]/\((SqL X.K H p ys/\∀l,H l=none->Q (.ref l) (upd H l (.tup ys)))∨(SqT X.K H p ys/\Q (.ref p) H))):=by
 intro pins s σ H xs us Q I r h
 obtain⟨p,ys,rfl,h⟩:=h
 obtain⟨u,rfl,rx⟩:=pZ r
 cases rx
 rcases h with⟨hq,q⟩ | ⟨hq,q⟩
 · obtain⟨its,r',pl,hz⟩:=I.list hq
   have hlen:=r'.length
   refine call_tuple_list pl.isList (fun h' kp=>?_) (by simp only[List.size_toArray]<;>omega)
   have I1:Inv X pins σ H { s with heap:=h' }:=I.kept (t':=s.toks) kp
   have I2:Inv X pins σ (upd H h'.objs.size (.tup ys)) { s with heap:=h'.push { cls:=.type "tuple",data:=.seq its.toArray } } :=
     I1.laid (t':=s.toks) (fun b o e=>Heap.get?_push_of_some _ e) (Nat.le_refl _) (show ObjOk X.prog X.w _ _ _ (.tup ys) from⟨hz,its,r',IsTup.new _ _⟩)
   exact⟨.ref h'.objs.size,_,I2,rfl,q _ (I1.hok.fresh (Nat.le_refl _))⟩
 · obtain⟨its,r',pl,hz⟩:=I.tuple hq
   exact call_tuple_same pl ⟨.ref p,H,I,rfl,q⟩
def tyV (K:PySem.W.Frag)(T:String)(x:V)(H:Hp):Prop:=match x with
 | .str _=>T="str"
 | .int _=>T="int"
 | .ref p=>(T="list"/\∃xs,SqL K H p xs)∨(T="tuple"/\∃o,K.lookup p=some o/\o.cls = .type "tuple"/\o.dict=none) ∨
     (T="dict"/\((∃kvs,H p=some (.dK kvs))∨∃kvs,H p=some (.dT kvs)))∨(T="set"/\∃S n,H p=some (.set S n))
 | _=>False
theorem zTk {pins:List (Addr×Obj)}{σ:St}{H:Hp}{s:Shared}{T:String}{x:V}{v:Value}(I:Inv X pins σ H s)(r:RelV x v)(ty:tyV X.K T x H) :
   s.TypeIs v T/\∀a,v = .ref a->∃ob,s.heap.get? a=some ob/\ob.dict=none:=by
 cases x with
 | str z =>
   obtain⟨t,rfl⟩:=r
   cases (show T="str" from ty)
   exact⟨typeIs_str s z t,fun _ e=>nomatch e⟩
 | int i =>
   obtain⟨t,rfl⟩:=r
   cases (show T="int" from ty)
   exact⟨typeIs_int s i t,fun _ e=>nomatch e⟩
 | ref p =>
   cases r
   rcases ty with⟨rfl,xs,hq⟩ | ⟨rfl,o,hk,hc,hd⟩ | ⟨rfl,hk⟩ | ⟨rfl,S,n,hk⟩
   · obtain⟨its,_,pl,_⟩:=I.list hq
     refine⟨pl.isList.typeIs,fun a e=>?_⟩
     cases e
     obtain⟨o,n,e,c,hd,_⟩:=pl
     exact⟨o,e,hd⟩
   · refine⟨⟨o,I.kIn p o hk,hc⟩,fun a e=>?_⟩
     cases e
     exact⟨o,I.kIn _ o hk,hd⟩
   · have z:∃o,s.heap.get? p=some o/\o.ExactDict:=by
       rcases hk with⟨kvs,hk⟩ | ⟨kvs,hk⟩
       · obtain⟨_,_,_,_,o,_,_,e,ex,_⟩:=I.hok p _ hk
         exact⟨o,e,ex⟩
       · obtain⟨_,_,_,_,o,_,_,e,ex,_⟩:=I.hok p _ hk
         exact⟨o,e,ex⟩
     obtain⟨o,e,ex⟩:=z
     refine⟨⟨o,e,ex.1⟩,fun a e2=>?_⟩
     cases e2
     exact⟨o,e,ex.2.1⟩
   · obtain⟨o,_,_,_,e,ex,_⟩:=I.hok p _ hk
     refine⟨⟨o,e,ex.1⟩,fun a e2=>?_⟩
     cases e2
     exact⟨o,e,ex.2.1⟩
 | _=>exact False.elim ty
def zO7 (K:PySem.W.Frag)(T:String)(r:V->List V->Hp->VK->Prop)(to:TE):TE:=fun σ H Q=>to σ H fun x H1=>tyV K T x H1/\r x [] H1 Q
def tBM (K:PySem.W.Frag)(T:String)(r:V->List V->Hp->VK->Prop)(to:TE)(t:TA):TE:=fun σ H Q=>to σ H fun x H1=>tyV K T x H1/\t σ H1 fun xs H2=>r x xs H2 Q
variable {o e:Expr} {es:List Expr} {to:TE} {t:TA} {name:Str} {apos cpos:Pos} {T id:String} {r:V->List V->Hp->VK->Prop}
theorem zPG (pa:PlainAttrs T)(slot:Slot T name id)(hty:typeOf (.builtin id)=pure (.type "method_descriptor"))(hm:MtR X id r)(ho:PE X o to)
   (hbase:attributeBase o name X.env (eval o X.env)=eval o X.env:=by rfl) (hline:(apos.endLine==cpos.line)=true:=by rfl):PE X (.Call (.Attribute o name apos) [] [] cpos) (zO7 X.K T r to):=by
 intro pins s σ H Q I h
 refine wpAny_Call_method0_late hbase hline (thn (ho pins s σ H _ I h) fun v s1 ⟨x,H1,I1,r1,ty,q1⟩=>?_)
 obtain⟨h1,h2⟩:=zTk I1 r1 ty
 exact⟨T,id,pa,slot,hty,h1,h2,Calls.callWith_builtin rfl (PySem.evalArgs_none (hm pins s1 σ H1 x [] v [] Q I1 r1 .nil q1))⟩
theorem uV (pa:PlainAttrs T)(slot:Slot T name id)(hty:typeOf (.builtin id)=pure (.type "method_descriptor"))(hm:MtR X id r)(ho:PE X o to)(ha:PA X (e::es) t)
   (hbase:attributeBase o name X.env (eval o X.env)=eval o X.env:=by rfl)
   (hfew:((backTo cpos (starEach (e::es) X.env)).all (fun x => !x.1)&&(backToKw cpos (keywordEach [] X.env)).all (fun x=>x.1.isSome)
     && decide ((e::es).length+([]:List Keyword).length+(if ([]:List Keyword).isEmpty then 0 else 1) < 30))=true:=by rfl)
   (hline:(apos.endLine==cpos.line)=true:=by rfl) (hs:starEach (e::es) X.env=(false,eval e X.env)::starEach es X.env:=by rfl) (hplain:(backTo cpos (starEach es X.env)).any (·.1)=false:=by rfl) :
   PE X (.Call (.Attribute o name apos) (e::es) [] cpos) (tBM X.K T r to t):=by
 intro pins s σ H Q I h
 refine wpAny_Call_method_late hbase hfew hline rfl (thn (ho pins s σ H _ I h) fun v s1 ⟨x,H1,I1,r1,ty,q1⟩=>?_)
 obtain⟨h1,h2⟩:=zTk I1 r1 ty
 refine⟨T,id,pa,slot,hty,h1,h2,?_⟩
 have hA:=ha cpos pins s1 σ H1 _ I1 q1
 rw[hs] at hA ⊢
 refine Calls.callWith_builtin (by show(false||(backTo cpos (starEach es X.env)).any (·.1))=false;rw[hplain]<;>rfl) (Calls.evalArgs_plain ?_)
 exact thn hA fun us s2 ⟨vs,H2,I2,r2,q2⟩=>hm pins s2 σ H2 x vs v us Q I2 r1 r2 q2
end
end L2
namespace L2
open PySem PySem.Spec PyProof.Rows
def MtM (X:Cx)(id:String)(r:V->List V->Hp->VK->Prop):Prop :=
 ∀(pins:List (Addr×Obj)) (s:Shared) (σ:St) (H:Hp) (x:V) (xs:List V) (v:Value) (us:List Value) (Q:VK),Inv X pins σ H s->RelV x v->Vals xs us->r x xs H Q ->
   wpAny (model X.prog X.w) X.A (call (.builtin id) (v::us)) (EP X pins σ Q) X.xe s
theorem Vals.one:∀ {x:V} {us:List Value},Vals [x] us->∃u,us=[u]/\RelV x u
 | _,_,.cons r .nil=>⟨_,rfl,r⟩
theorem Vals.zero:∀ {us:List Value},Vals [] us->us=[]
 | _,.nil=>rfl
theorem Vals.dropLast {xs:List V}{us:List Value}(h:Vals xs us):Vals xs.dropLast us.dropLast:=by
 induction h with
 | nil=>exact .nil
 | cons r t ih =>
   cases t with
   | nil=>exact .nil
   | cons q t'=>exact .cons r ih
theorem Vals.eraseIdx:∀ {xs:List V} {us:List Value} (i:Nat),Vals xs us->Vals (xs.eraseIdx i) (us.eraseIdx i)
 | _,_,_,.nil=>.nil
 | _,_,0,.cons _ t=>t
 | _,_,i+1,.cons r t=>.cons r (Vals.eraseIdx i t)
theorem Vals.reverse {xs:List V}{us:List Value}(h:Vals xs us):Vals xs.reverse us.reverse:=by
 induction h with
 | nil=>exact .nil
 | cons r t ih=>rw[List.reverse_cons,List.reverse_cons];exact Vals.append ih (.cons r .nil)
theorem Vals.rep {xs:List V}{us:List Value}(h:Vals xs us):∀k:Nat,Vals (List.replicate k xs).flatten (List.replicate k us).flatten
 | 0=>.nil
 | k+1=>by
   rw[List.replicate_succ,List.replicate_succ,List.flatten_cons,List.flatten_cons]
   exact Vals.append h (Vals.rep h k)
theorem zWk {α:Type}(l:List α):l.eraseIdx (l.length - 1)=l.dropLast:=by
 induction l with
 | nil=>rfl
 | cons a r ih =>
   cases r with
   | nil=>rfl
   | cons b r =>
     have e:(a::b::r).length - 1=((b::r).length - 1)+1:=by
       have h1:(a::b::r).length=r.length+2:=rfl
       have h2:(b::r).length=r.length+1:=rfl
       omega
     rw[e,List.eraseIdx_cons_succ,ih]
     all_goals rfl
theorem zZi {α:Type}:∀(l:List α) (i:Nat),(l.eraseIdx i).length<=l.length
 | [],_=>Nat.le_refl _
 | _::_,0=>Nat.le_succ _
 | _::r,i+1=>Nat.succ_le_succ (zZi r i)
theorem zZt (its:List Value):∀(k:Nat) (acc:List Value),
   List.foldl (fun x1 x2=>x1++x2) acc.toArray (List.replicate k its.toArray)=(acc++(List.replicate k its).flatten).toArray
 | 0,acc=>by simp
 | k+1,acc=>by
   have e:acc.toArray++its.toArray=(acc++its).toArray:=by simp
   have e2:(acc++its)++(List.replicate k its).flatten=acc++(List.replicate (k+1) its).flatten:=by
     rw[List.replicate_succ,List.flatten_cons,List.append_assoc]
   rw[←e2,←zZt its k (acc++its),←e,List.replicate_succ,List.foldl_cons]
section
variable {X:Cx} {pins:List (Addr×Obj)} {σ:St} {H:Hp} {s:Shared} {l b:Addr} {xs ys zs:List V}
theorem Inv.lset {its its':List Value}{n:Nat}{f:Array Value->Array Value}{t':Nat}(I:Inv X pins σ H s)(hH:H l=some (.lst xs))
   (e:s.heap.get? l=some { cls:=.type "list",data:=.seq its.toArray n }) (hf:f its.toArray=its'.toArray) (hv:Vals ys its') (hz:ys.length<=sizeLine) :
   Inv X pins σ (upd H l (.lst ys)) { s with heap:=s.heap.update l (Obj.mapSeq f),toks:=t' }:=by
 have q:=PySem.IsL.update e f
 rw[hf] at q
 refine I.write (x:=l) (e:=l) (by rw[hH];exact trivial) (.inl rfl) (fun b' u hb hu=>(Heap.get?_update_other s.heap (Obj.mapSeq f) (Ne.symm hb)).trans hu) ⟨_,q⟩ ?_
 exact⟨hz,its',_,hv,q⟩
theorem Inv.lnew {its:List Value}{t':Nat}(I:Inv X pins σ H s)(hv:Vals ys its)(hz:ys.length<=sizeLine) :
   Inv X pins σ (upd H s.heap.objs.size (.lst ys)) { s with heap:=s.heap.push { cls:=.type "list",data:=.seq its.toArray },toks:=t' } :=
 I.laid (fun _ _ q=>Heap.get?_push_of_some _ q) (Nat.le_refl _) ⟨hz,its,0,hv,Heap.get?_push_size _ rfl⟩
theorem Inv.fresh (I:Inv X pins σ H s):H s.heap.objs.size=none:=I.hok.fresh (Nat.le_refl _)
theorem Inv.lstM (I:Inv X pins σ H s)(hH:H l=some (.lst xs)):xs.length<=sizeLine/\∃(its:List Value) (n:Nat),Vals xs its/\xs.length=its.length/\s.heap.get? l=some { cls:=.type "list",data:=.seq its.toArray n }:=by
 obtain⟨z,its,n,r,e⟩:=I.hok l _ hH
 exact⟨z,its,n,r,r.length,e⟩
theorem zSz {n:Nat}(h:n<=sizeLine):Builtin.List.listTooLong n=false:=by
 unfold Builtin.List.listTooLong
 exact decide_eq_false (by omega)
end
section
variable {X:Cx}
def zVu:V->List V->Hp->VK->Prop:=fun x vs H Q=>∃l xs y,x = .ref l/\vs=[y]/\H l=some (.lst xs)/\xs.length < sizeLine/\Q .non (upd H l (.lst (xs++[y])))
theorem sW:MtM X "list.append" zVu:=by
 intro pins s σ H x vs v us Q I rx rv h
 obtain⟨l,xs,y,rfl,rfl,hH,hz,q⟩:=h
 cases rx
 obtain⟨u,rfl,ru⟩:=rv.one
 obtain⟨z,its,n,r,hl,e⟩:=I.lstM hH
 refine call_meets F.slot_list_append ⟨_,e,rfl⟩ F.entry_list_append (F.args_list_append_2 _ _) (PySem.list_append l its.toArray n u (by rw[List.size_toArray];omega)) ⟨e,?_⟩
 refine⟨.non,_,I.lset (its':=its++[u]) hH e (by simp) (r.append (.cons ru .nil)) ?_,rfl,q⟩
 rw[List.length_append,List.length_singleton]
 omega
def zOC:V->List V->Hp->VK->Prop:=fun x vs H Q=>∃l xs y,x = .ref l/\vs=[]/\H l=some (.lst xs)/\xs[xs.length - 1]?=some y/\Q y (upd H l (.lst xs.dropLast))
theorem zPI:MtM X "list.pop" zOC:=by
 intro pins s σ H x vs v us Q I rx rv h
 obtain⟨l,xs,y,rfl,rfl,hH,hy,q⟩:=h
 cases rx
 have hus:=rv.zero
 subst hus
 obtain⟨z,its,n,r,hl,e⟩:=I.lstM hH
 obtain⟨u,hu,ru⟩:=r.get hy
 have hy':its.toArray[its.toArray.size - 1]?=some u:=by
   show its.toArray[its.length - 1]?=some u
   rw[←Array.getElem?_toList,←hl]
   exact hu
 refine call_meets F.slot_list_pop ⟨_,e,rfl⟩ F.entry_list_pop (F.args_list_pop_1 _) (MeetsSeq.list_pop_last l its.toArray n u hy' (by rw[List.size_toArray];omega)) ⟨e,?_⟩
 refine⟨y,_,I.lset (its':=its.dropLast) hH e ?_ r.dropLast ?_,ru,q⟩
 · show its.toArray.eraseIdxIfInBounds (its.toArray.size - 1)=its.dropLast.toArray
   rw[List.size_toArray,List.eraseIdxIfInBounds_toArray,zWk]
 · rw[List.length_dropLast]
   omega
def zSY:V->List V->Hp->VK->Prop:=fun x vs H Q=>∃l xs i k y,x = .ref l/\vs=[.int i]/\H l=some (.lst xs) /\ -(2^63)<=i/\i < 2^63/\seqIndex? i xs.length=some k/\xs[k]?=some y/\Q y (upd H l (.lst (xs.eraseIdx k)))
theorem zSw:MtM X "list.pop" zSY:=by
 intro pins s σ H x vs v us Q I rx rv h
 obtain⟨l,xs,i,k,y,rfl,rfl,hH,h1,h2,hk,hy,q⟩:=h
 cases rx
 obtain⟨u,rfl,ru⟩:=rv.one
 obtain⟨t,rfl⟩:=ru
 obtain⟨z,its,n,r,hl,e⟩:=I.lstM hH
 obtain⟨w,hw,rw'⟩:=r.get hy
 refine call_meets F.slot_list_pop ⟨_,e,rfl⟩ F.entry_list_pop (F.args_list_pop_2 _ _)
   (MeetsSeq.list_pop_at l its.toArray n i t k w (fitsIndex_both h1 h2) (by rw[List.size_toArray,←hl];exact hk) (by rw[←Array.getElem?_toList];exact hw) (by rw[List.size_toArray];omega)) ⟨e,?_⟩
 refine⟨y,_,I.lset (its':=its.eraseIdx k) hH e ?_ (r.eraseIdx k) ?_,rw',q⟩
 · show its.toArray.eraseIdxIfInBounds k=(its.eraseIdx k).toArray
   rw[List.eraseIdxIfInBounds_toArray]
 · have:=zZi xs k
   omega
def zNN:R2:=fun x y H Q=>∃l b xs zs,x = .ref l/\y = .ref b/\H l=some (.lst xs)/\H b=some (.lst zs)/\xs.length+zs.length<=sizeLine/\∀p,H p=none->Q (.ref p) (upd H p (.lst (xs++zs)))
theorem zQe:OpR X (binaryOp .Add) zNN:=by
 intro pins s σ H x y v u Q I rx ry h
 obtain⟨l,b,xs,zs,rfl,rfl,hH,hB,hz,q⟩:=h
 cases rx
 cases ry
 obtain⟨z,its,n,r,hl,e⟩:=I.lstM hH
 obtain⟨z2,its2,n2,r2,hl2,e2⟩:=I.lstM hB
 refine PySem.P.add_list e e2 ?_ (by rw[List.size_toArray,List.size_toArray];omega)
 have ea:its.toArray++its2.toArray=(its++its2).toArray:=by simp
 rw[ea]
 exact⟨.ref _,_,I.lnew (t':=s.toks) (r.append r2) (by rw[List.length_append];omega),rfl,q _ I.fresh⟩
def zNT:R2:=fun x y H Q=>∃l k xs,x = .ref l/\y = .int k/\H l=some (.lst xs) /\ -(2^63)<=k/\k < 2^63/\xs.length*k.toNat<=sizeLine /\
 ∀p,H p=none->Q (.ref p) (upd H p (.lst (List.replicate k.toNat xs).flatten))
theorem zRc {α:Type}(xs:List α)(k:Nat):(List.replicate k xs).flatten.length=k*xs.length:=by
 induction k with
 | zero=>simp
 | succ k ih=>rw[List.replicate_succ,List.flatten_cons,List.length_append,ih,Nat.succ_mul,Nat.add_comm]
theorem zQ7:OpR X (binaryOp .Mult) zNT:=by
 intro pins s σ H x y v u Q I rx ry h
 obtain⟨l,k,xs,rfl,rfl,hH,h1,h2,hz,q⟩:=h
 cases rx
 obtain⟨t,rfl⟩:=ry
 obtain⟨z,its,n,r,hl,e⟩:=I.lstM hH
 have hlen:its.toArray.size*k.toNat<=sizeLine:=by rw[List.size_toArray,←hl];exact hz
 have hcap:¬its.toArray.size*k.toNat > (2^63 - 1) / 8:=by
   have:(sizeLine:Nat)<=(2^63 - 1) / 8:=by decide
   omega
 have hfit:¬(!Builtin.List.listFitsIndex k)=true:=by
   rw[fitsIndex_both h1 h2]
   exact Bool.false_ne_true
 have hlong:¬Builtin.List.listTooLong (its.toArray.size*k.toNat)=true:=by
   rw[zSz hlen]
   exact Bool.false_ne_true
 have hnew:List.foldl (fun x1 x2=>x1++x2) #[] (List.replicate (if its.toArray.isEmpty=true then 0 else k.toNat) its.toArray)=(List.replicate k.toNat its).flatten.toArray:=by
   have f0:∀m:Nat,List.foldl (fun x1 x2=>x1++x2) #[] (List.replicate m its.toArray)=(List.replicate m its).flatten.toArray:=fun m=>by
     have:=zZt its m []
     rw[List.nil_append] at this
     exact this
   rw[f0]
   cases its with
   | nil=>simp
   | cons a r'=>rw[if_neg (by simp)]
 refine wpAny_binaryOp_repeat_ref (T:="list") (U:="int") (by decide) ⟨_,e,rfl⟩ (fun s'=>typeIs_int s' k t) noFill_list_mul F.fills_int_mul F.slot_int_rmul repeat_list F.slot_int_index.lookup
   (call_meets F.slot_int_rmul (typeIs_int s k t) F.entry_int_rmul (F.args_int_rmul_2 _ _) (int___rmul___int_list k t l its.toArray n)
     ⟨e,rfl,⟨_,e,rfl⟩,call_meets F.slot_list_mul ⟨_,e,rfl⟩ F.entry_list_mul (F.args_list_mul_2 _ _) (AutoListH.list___mul___list_int_3 l its.toArray n k t hfit hcap hlong) ⟨e,?_⟩⟩)
 rw[hnew]
 exact⟨.ref _,_,I.lnew (t':=s.toks) (r.rep k.toNat) (by rw[zRc,Nat.mul_comm];exact hz),rfl,q _ I.fresh⟩
end
section
variable {prog:Program} {w:World} {A:Around} {E:Value->Shared->Prop} {s:Shared}
end
section
variable {X:Cx}
end
end L2
namespace Att
open PySem PySem.W PySem.Calls PyProof.Rows
theorem eJ {P:Params}{h:Heap}:∀(ns:List Int) (vs:List Value),WellAll P h vs (ns.map WData.int)->IntsAre vs ns:=by
 intro ns
 induction ns with
 | nil =>
   intro vs w
   rw[List.map_nil] at w
   cases w
   exact .nil
 | cons n ns ih =>
   intro vs w
   rw[List.map_cons] at w
   cases w with
   | cons a b =>
     cases a
     exact .cons _ _ (ih _ b)
theorem zU5 {l:OpenLaw}{n:Nat}(hn:l.most=some n){P:Params}{h:Heap}{args:List WData}{vals:List Value}
   (hpre:l.row.toRowW.claim.pre args=true) (hwl:WellAll P h vals args) :
   ∃a vs ns,vals=[Value.ref a]/\args=[WData.list (ns.map WData.int)]/\h.get? a=some { cls:=.type "list",data:=.seq vs.toArray }/\IntsAre vs ns/\ns.length<=n:=by
 have hsh:WShape.hasAll [] args [.list .int]=true:=(pre_splitW hpre).1
 have hc:l.pre.holds [] { args:=args }=true:=(pre_splitW hpre).2
 obtain⟨d,r,rfl,h1,h2⟩:=hasAllW_cons hsh
 obtain rfl:=hasAllW_nil h2
 obtain⟨xs,rfl,h3⟩:=hasW_list h1
 obtain⟨ns,rfl⟩:=items_int h3
 have hlen:ns.length<=n:=by
   unfold OpenLaw.pre at hc
   have h4:(WTm.not (.lt (.lit (.int (n:Int))) (.len (.arg 0)))).holds [] { args:=[.list (ns.map .int)] }=true:=by
     have h4:=(holds_andW hc).1
     rw[hn] at h4
     exact h4
   have h5:=condW_of h4 (w_not (w_lt w_lit (w_len_list (w_arg rfl))))
   rw[List.length_map] at h5
   refine Nat.le_of_not_lt fun q=>?_
   have q':(n:Int) < ((ns.length:Nat):Int):=by omega
   first
     | (rw[decide_eq_true q'] at h5;exact absurd h5 (by decide))
     | (simp at h5;omega)
 cases hwl with
 | cons w1 w2 =>
   cases w2
   cases w1 with
   | list ho hall=>exact⟨_,_,ns,rfl,rfl,ho,eJ ns _ hall,hlen⟩
theorem zUS (l:OpenLaw)(args:List WData):l.row.toRowW.claim.post args (.bool true) args=true :=
 postW_of (r:=l.row.toRowW) (X:=(true==true))
   (show WShape.has [] (.bool true) .bool=true by first | rfl | decide | simp[WShape.has,WShape.arms,WShape.armsAll])
   (show(WTm.eq .res (.lit (.bool true))).value [] { args:=args,res:=some (.bool true),after:=args }=some (.bool (true==true)) from w_eq_bool (w_res rfl) w_lit) rfl
theorem attach_call {l:OpenLaw}{n:Nat}{q:Program}{loose:List Str}{XP:(Str->Option Value)->Heap->Prop}{YP:World->Heap->Prop}{d:DefRec}
   (hn:l.most=some n) (hdf:d.params.defaults=[])
   (call:∀(w:World) (s₀ s₁:Shared) (mg mb:Str->Option Value) (fa:Addr) (o:Obj) (pm cd doc:Value) (a:Addr) (vs:List Value) (ns:List Int),
     Ground q loose [] XP w s₀ mg mb s₁.heap->YP w s₁.heap ->
     s₁.heap.get? fa=some o->o.data = .func (docDef d.name d.params d.body d.scope pm cd doc)->s₁.heap.CodeRec cd d.name->mg d.name=some (.ref fa) ->
     s₁.heap.get? a=some { cls:=.type "list",data:=.seq vs.toArray }->IntsAre vs ns->ns.length<=n->s₁.gens=#[] ->
     codeAny (model l.prog w) callerA (.call (.ref fa) ⟨[.ref a],[]⟩) (fun r s'=>r = .ok (.ret (.bool true))/\OldK s₁.heap s'.heap/\s'.os=s₁.os/\AllBare s'.gens) s₁) :
   WalkO q loose XP YP l.row.toRowW d [] (fun f vs=>PySem.call f vs):=by
 intro w s₀ s₁ mg mb G Y fa o pm cd doc dV kV ho hd hcd hD hmg hg args vals as hpre hlay hrd hwl hlo
 obtain rfl:dV = .none:=Dflts.none hD hdf
 obtain rfl:kV = .none:=Dflts.noKw hD
 obtain⟨a,vs,ns,rfl,rfl,hobj,hints,hlen⟩:=zU5 hn hpre hwl
 refine enter_call (codeAny_mono (call w s₀ s₁ mg mb fa o pm cd doc a vs ns G Y ho (fd_plain hd) hcd hmg hobj hints hlen hg) fun r s' hq=>?_)
 obtain⟨rfl,h2,h3,h4⟩:=hq
 exact⟨.inl ⟨.bool true,.bool true,[],rfl,fun _=>rfl,.bool true,zUS l _,fun _=>⟨List.Pairwise.nil,fun _ hm=>(nomatch hm)⟩⟩,h2,h3,h4⟩
section
variable {prog:Program} {w:World} {A:Around} {E:Value->Shared->Prop} {s:Shared} {K:Frag}
end
end Att
namespace L2
open PySem PySem.Spec PyProof.Rows
theorem gY:∀ {vs:List Value} {ns:List Int},IntsAre vs ns->Vals (ns.map V.int) vs
 | _,_,.nil=>.nil
 | _,_,.cons n t h=>.cons ⟨t,rfl⟩ (gY h)
def zQc (H:Hp):Prop:=∀b,H b=none∨∃o xs,H b=some (.frz o (.lst xs))
theorem zTe {P:Program}{w:World}{K:PySem.W.Frag}{mg mb:Str->Option Value}{CX:CXT}{k:Nat}{fa a:Addr}{fd:FuncData}{x:Str}{sp:Sp}{s₁:Shared}{vs:List Value}{ns:List Int}
   (KX:K.In s₁.heap) (hns:s₁.heap.Ns mainGlobals mg) (hb:s₁.heap.Ns builtinsNs mb) (hbb:∀x:Str,x≠"__name__"->mb x=bootBuiltins x) (hlim:s₁.heap.NoLimit) (hg:s₁.gens=#[])
   (ha:s₁.heap.get? a=some { cls:=.type "list",data:=.seq vs.toArray }) (hi:IntsAre vs ns) (hl:ns.length<=sizeLine) (hr:Room k callerA)
   (F:∀base:Heap,K.In base->base.Ns mainGlobals mg->FnOk P w K mg base CX k fa fd [x] sp) (hbind:∀(s:Shared) (u:Value),BindsTo s fd ⟨[u],[]⟩ [(x,u)])
   (hsp:∀H:Hp,zQc H->SqL K H a (ns.map V.int)->sp [.ref a] H (fun v _=>v = .bl true) fun _ _ _=>False)
   (hCX:∀H e s',CX [] H s₁ (fun _ _ _=>False) e s'->False) :
   codeAny (model P w) callerA (.call (.ref fa) ⟨[.ref a],[]⟩) (fun r s'=>r = .ok (.ret (.bool true))/\OldK s₁.heap s'.heap/\s'.os=s₁.os/\AllBare s'.gens) s₁:=by
 have rv:=gY hi
 have lenV:=hi.length
 -- from an abstract heap in which nothing but the script may be tracked
 have core:∀H:Hp,zQc H->SqL K H a (ns.map V.int)->HOk P w H s₁.heap->(∀b,H b≠none->b=a)->(H a≠none->K.lookup a=none) ->
     codeAny (model P w) callerA (.call (.ref fa) ⟨[.ref a],[]⟩) (fun r s'=>r = .ok (.ret (.bool true))/\OldK s₁.heap s'.heap/\s'.os=s₁.os/\AllBare s'.gens) s₁:=by
   intro H hO hS hok hA hK
   have base_of:∀ {b:Addr} {o:Obj},s₁.heap.get? b=some o->H b=none->(zYH s₁.heap H).get? b=some o:=fun e n=>zTF e n
   have noA:∀ {b:Addr} {o:Obj} {es:Array DictEntry} {ep:Nat},s₁.heap.get? b=some o->o.data = .dict es ep->H b=none:=fun {b o es ep} e d=>by
     cases q:H b with
     | none=>rfl
     | some u =>
       have e':b=a:=hA b (by rw[q];simp)
       subst e'
       rw[ha] at e;cases e
       have d':Data.seq vs.toArray _=Data.dict es ep:=d
       cases d'
   have nsK:∀ {b:Addr} {m:Str->Option Value},s₁.heap.Ns b m->(zYH s₁.heap H).Ns b m:=fun {b m} ⟨o,es,ep,e,d,r⟩=>⟨o,es,ep,base_of e (noA e d),d,r⟩
   have hKb:K.In (zYH s₁.heap H):=fun b o e=>base_of (KX b o e) (by
     cases q:H b with
     | none=>rfl
     | some u =>
       have e':b=a:=hA b (by rw[q];simp)
       subst e'
       rw[hK (by rw[q];simp)] at e;cases e)
   have hM:Mod K mg (zYH s₁.heap H):=⟨hKb,nsK hns,⟨mb,nsK hb,hbb⟩,let ⟨mc,h1,h2⟩:=hlim;⟨mc,nsK h1,h2⟩⟩
   have e0:Env0 P w K mg (zYH s₁.heap H) callerA [] s₁ H:=⟨rfl,hM,fun b o e=>zRL e,Nat.le_of_eq (zUB _ _),trivial,fun b hb=>absurd (show b∈([]:List Addr) from hb) (by simp),hok,.of_eq hg⟩
   refine codeAny_mono ((F _ hKb (nsK hns)).run callerA [] s₁ H ⟨[.ref a],[]⟩ [.ref a] [.ref a] _ _ hr e0 (hbind s₁ (.ref a)) (.cons rfl .nil) (hsp H hO hS)) fun r s' h=>?_
   cases r with
   | error e=>exact(hCX H e s' h).elim
   | ok fl =>
     cases fl with
     | next=>exact False.elim h
     | brk=>exact False.elim h
     | cont=>exact False.elim h
     | ret u =>
       obtain⟨v,H',os,bare,un,hok',r',q⟩:=h
       have q':v = .bl true:=q
       subst q'
       obtain rfl:u=Value.bool true:=r'
       refine⟨rfl,OldK.of_keep fun b o e=>?_,os,bare⟩
       cases q:H b with
       | none=>exact un.keep b o e q (by intro z;exact absurd (show b∈([]:List Addr) from z) (by simp)) (by simp)
       | some u =>
         rcases hO b with z | ⟨ob,xs,z⟩
         · rw[q] at z;cases z
         · have z2:=un.frzs b ob _ z
           obtain⟨e1,_⟩:=hok b _ z
           obtain⟨e2,_⟩:=hok' b _ z2
           rw[e] at e1;cases e1
           exact e2
 cases hk:K.lookup a with
 | some o =>
   -- the script is one of the module's own objects
   have e:=KX a o hk
   rw[ha] at e
   cases e
   refine core (fun _=>none) (fun _=>.inl rfl) (.inr ⟨_,vs.toArray,_,hk,rfl,rfl,rfl,by rw[List.size_toArray,lenV];exact hl,by simpa using rv⟩) (fun b u z=>by have z':(none:Option HO)=some u:=z;cases z') (fun b z=>absurd rfl z) fun z=>absurd rfl z
 | none =>
   refine core (fun b=>if b=a then some (.frz { cls:=.type "list",data:=.seq vs.toArray } (.lst (ns.map V.int))) else none) (fun b=>?_) (.inl (.inr ⟨{ cls:=.type "list",data:=.seq vs.toArray },if_pos rfl⟩)) (fun b u z=>?_) (fun b z=>?_) fun _=>hk
   · by_cases hb:b=a
     · exact .inr ⟨_,_,if_pos hb⟩
     · exact .inl (if_neg hb)
   · by_cases hb:b=a
     · have z':=(if_pos hb).symm.trans z
       cases z'
       subst hb
       exact⟨ha,by rw[List.length_map];exact hl,vs,_,rv,ha⟩
     · have z':=(if_neg hb).symm.trans z
       cases z'
   · by_cases hb:b=a
     · exact hb
     · exact absurd (if_neg hb) z
end L2
namespace L2
open PySem PySem.Spec PyProof.Rows
theorem zRO {l:PySem.W.OpenLaw}{n k:Nat}{q:Program}{loose:List Str}{XP:(Str->Option Value)->Heap->Prop}{YP:World->Heap->Prop}{d:DefRec}{K:Params->PySem.W.Frag}{CX:World->CXT}{sp:World->Sp}{x:Str}
   (hn:l.most=some n) (hn2:n<=sizeLine) (hdf:d.params.defaults=[]) (hr:Room k callerA)
   (hY:∀(w:World) (h:Heap),YP w h->(K w.params).In h)
   (F:∀(w:World) (mg:Str->Option Value) (fa:Addr) (h:Heap),(K w.params).In h->h.Ns mainGlobals mg->mg d.name=some (.ref fa) ->
     ∃fd:FuncData,(∀(s:Shared) (u:Value),BindsTo s fd ⟨[u],[]⟩ [(x,u)]) /\
       ∀base:Heap,(K w.params).In base->base.Ns mainGlobals mg->FnOk l.prog w (K w.params) mg base (CX w) k fa fd [x] (sp w))
   (hsp:∀(w:World) (H:Hp) (a:Addr) (ns:List Int),ns.length<=n->zQc H->SqL (K w.params) H a (ns.map V.int)->sp w [.ref a] H (fun v _=>v = .bl true) fun _ _ _=>False)
   (hCX:∀(w:World) (H:Hp) (s:Shared) (e:Value) (s':Shared),CX w [] H s (fun _ _ _=>False) e s'->False) :
   PySem.W.WalkO q loose XP YP l.row.toRowW d [] (fun f vs=>PySem.call f vs):=by
 refine Att.attach_call hn hdf fun w s₀ s₁ mg mb fa o pm cd doc a vs ns G Y ho hd hcd hmg hobj hints hlen hg=>?_
 have KX:=hY w _ Y
 obtain⟨fd,hb,hF⟩:=F w mg fa _ KX G.T.g hmg
 exact zTe KX G.T.g G.T.b G.T.builtins G.T.nolimit hg hobj hints (Nat.le_trans hlen hn2) hr hF hb (fun H hO hS=>hsp w H a ns hlen hO hS) fun H e s'=>hCX w H s₁ e s'
end L2
namespace L2
open PySem PySem.Spec PyProof.Rows
abbrev CX0:CXT:=fun _ _ _ _ _ _=>False
abbrev E0:XK:=fun _ _ _=>False
theorem zVl {X:Cx}:dD CX0 X E0:=fun _ _ _ _ _ _ _ h=>h.elim
structure Fun (K:PySem.W.Frag)(x qual:Str)(st:Stmt)(f:Addr)(fd:FuncData):Prop where
 ex:∃(oc:Value) (od:Option Addr) (kV doc pm:Value) (an:Option Addr) (cdv ct:Value) (osl:Array (Option Value)),
   fd=PySem.W.fnOf x qual (zO st) (zQ st) (zX st) .none kV doc pm an cdv ct/\K.lookup f=some ⟨oc,od,.func fd,osl⟩/\PySem.W.codeIn K cdv qual=true
 kp:PySem.W.keepIn K (.ref f)=true
section
variable {P:Program} {w:World} {K:PySem.W.Frag} {mg:Str->Option Value} {base:Heap}
theorem Fun.ok {x qual:Str}{st:Stmt}{f:Addr}{fd:FuncData}{N ps:List Str}{k:Nat}{sp:Sp}(F:Fun K x qual st f fd)(S:FnScope N ps (zX st))(len:∀vs H Q E,sp vs H Q E->vs.length=ps.length)
   (hbody:∀(cdv:Value) (A:Around) (outer:List Env) (s:Shared) (H:Hp) (vs:List V) (Q:VK) (E:XK),Room k (A.deeper (envOfC qual (zX st) s.heap.objs.size f cdv))->sp vs H Q E ->
     ∃t,PSs (aH CX0 P w K mg base N qual (zX st) f cdv A outer s H E).nox (zQ st) t/\t { nx:=fun _ H'=>Q .non H',rt:=Q } (pT N vs) H):FnOk P w K mg base CX0 (k+1) f fd ps sp:=by
 obtain⟨oc,od,kV,doc,pm,an,cdv,ct,osl,rfl,lk,hcd⟩:=F.ex
 refine zPn lk hcd S len fun A outer s H vs Q E hr hsp=>?_
 obtain⟨t,h,q⟩:=hbody cdv A outer s H vs Q E hr hsp
 exact⟨t,h.nox,q⟩
theorem Fun.binds {x qual:Str}{st:Stmt}{f:Addr}{fd:FuncData}{ps:List Str}(F:Fun K x qual st f fd)
   (h:∀(kV doc pm:Value) (an:Option Addr) (cdv ct:Value) (us:List Value),us.length=ps.length->bindArgs (PySem.W.fnOf x qual (zO st) (zQ st) (zX st) .none kV doc pm an cdv ct) ⟨us,[]⟩=pure (ps.zip us)):Binds K fd ps []:=by
 obtain⟨oc,od,kV,doc,pm,an,cdv,ct,osl,rfl,lk,hcd⟩:=F.ex
 exact .all (h kV doc pm an cdv ct)
theorem yJ {x qual:Str}{st:Stmt}{f:Addr}{oc:Value}{od an:Option Addr}{osl:Array (Option Value)}{kV doc pm cdv ct:Value}(l:K.lookup f=some ⟨oc,od,.func (PySem.W.fnOf x qual (zO st) (zQ st) (zX st) .none kV doc pm an cdv ct),osl⟩)
   (c:PySem.W.codeIn K cdv qual=true) (k:PySem.W.keepIn K (.ref f)=true):Fun K x qual st f (PySem.W.fnOf x qual (zO st) (zQ st) (zX st) .none kV doc pm an cdv ct):=⟨⟨oc,od,kV,doc,pm,an,cdv,ct,osl,rfl,l,c⟩,k⟩
end
section
variable {X:Cx}
theorem pv (i:Nat){x:Str}{pos:Pos}(hN:X.N[i]?=some x:=by rfl)(hv:Vis X.env.scope x:=by first | exact Or.inl rfl | exact Or.inr (Or.inl rfl) | exact Or.inr (Or.inr rfl))(hd:(x==("__debug__":Str))=false:=by decide)
   (hcd:(x==("__classdict__":Str))=false:=by decide):PE X (.Name x pos) (zS8 i):=qV hN hv hd hcd
end
def Same (H H':Hp):Prop:=∀b o,H b=some o->H' b=some o
theorem Same.refl (H:Hp):Same H H:=fun _ _ h=>h
theorem Same.trans {H H1 H2:Hp}(a:Same H H1)(b:Same H1 H2):Same H H2:=fun c o h=>b c o (a c o h)
theorem Same.free {H H':Hp}(e:Same H H'){l:Addr}(h:H' l=Option.none):H l=Option.none:=by
 cases q:H l with
 | none=>rfl
 | some o =>
   rw[e l o q] at h
   cases h
theorem Same.seq {K:PySem.W.Frag}{H H':Hp}{a:Addr}{xs:List V}(e:Same H H')(h:SqL K H a xs):SqL K H' a xs:=by
 rcases h with(h | ⟨o,h⟩) | h
 · exact .inl (.inl (e _ _ h))
 · exact .inl (.inr ⟨o,e _ _ h⟩)
 · exact .inr h
end L2
namespace L2
open PySem PySem.Spec PyProof.Rows
section
variable {prog:Program} {w:World} {A:Around} {R:Result->Shared->Prop} {s:Shared}
abbrev F0:Value->Shared->Prop:=fun _ _=>False
theorem zZ2 {α:Type}{t:Sem α}{Q Q':α->Shared->Prop}{M:Model}{A:Around}{E:Value->Shared->Prop}{s:Shared}(h:wpAny M A t Q F0 s)(hq:∀a s,Q a s->Q' a s):wpAny M A t Q' E s:=wpAny_mono h hq fun _ _ z=>z.elim
theorem cU {elt target iter:Expr}{ifs:List Expr}{scope:Scope}{pos:Pos}{it acc:Value}{env:Env}(I:Nat->Shared->Prop)
   (turn:∀n s,I n s->wpAny (model prog w) A (pyNext it) (fun r s₁=>match r with
     | none=>R (.ok .next) s₁
     | some v=>wpAny (model prog w) A (letOwnedTupleGo target it v) (fun _ s₁=>wpAny (model prog w) A (assign target env v) (fun _ s₂ =>
         wpAny (model prog w) A (forIn ifs true fun c r=>if r=true then do let ok ←isTrue c env (eval c env);pure (ForInStep.yield ok) else pure (ForInStep.yield r)) (fun ok s₃ =>
           if ok=true then wpAny (model prog w) A (eval elt env) (fun x s₄ =>
             wpAny (model prog w) A (call (.builtin "list.append") [acc,x]) (fun _ s₅ => ∃m,m < n/\I m s₅) F0 s₄) F0 s₃
           else ∃m,m < n/\I m s₃) F0 s₂) F0 s₁) F0 s₁) F0 s)
   (n:Nat) (h:I n s) :
   codeAny (model prog w) A (.compLoop (.ListComp elt [⟨target,iter,ifs,0⟩] scope pos) 0 it acc env) R s:=by
 refine codeAny_loop rfl I (fun n s hI=>?_) n h
 show wpAny _ A ((compTurn (.ListComp elt [⟨target,iter,ifs,0⟩] scope pos) 0 it acc env).onRaise (fun x=>do noteFrame x env;theTreesLotGoes x)) _ _ s
 refine wpAny_noted ?_
 rw[compTurn_list]
 refine wpAny_bind (wpAny_standAt (wpAny_bind (zZ2 (turn n s hI) (fun r s₁ h₁=>?_))))
 cases r with
 | none=>exact wpAny_pure h₁
 | some v =>
   refine wpAny_bind (zZ2 h₁ fun _ s₁' h₁'=>?_)
   refine wpAny_bind (zZ2 h₁' fun _ s₂ h₂=>wpAny_bind (zZ2 h₂ fun ok s₃ h₃ => ?_))
   cases ok with
   | false=>exact wpAny_pure ⟨rfl,h₃⟩
   | true =>
     exact wpAny_bind (wpAny_bind (zZ2 h₃ fun x s₄ h₄ => wpAny_bind (zZ2 h₄ fun _ s₅ h₅ => wpAny_pure (wpAny_pure ⟨rfl,h₅⟩))))
end
theorem lM {env:Env}(x:Str):∀(names:List (Str×NameKind)),
   (names.map fun(n,k)=>if (k==NameKind.free&&env.scope.kind == .function&&env.kindOf n==some .cell) then(n,NameKind.cell) else(n,k)).lookup x
     = (names.lookup x).map fun k=>if (k==NameKind.free&&env.scope.kind == .function&&env.kindOf x==some .cell)=true then NameKind.cell else k
 | []=>rfl
 | (n,k)::r=>by
   have ih:=lM (env:=env) x r
   rw[List.map_cons]
   cases hx:x==n with
   | true =>
     have e:x=n:=eq_of_beq hx
     subst e
     by_cases hc:(k==NameKind.free&&env.scope.kind == .function&&env.kindOf x==some .cell)=true
     · simp only[hc,if_true,List.lookup_cons,beq_self_eq_true,Option.map_some]
     · simp only[hc,if_false,List.lookup_cons,beq_self_eq_true,Option.map_some,Bool.false_eq_true]
   | false =>
     by_cases hc:(k==NameKind.free&&env.scope.kind == .function&&env.kindOf n==some .cell)=true
     · simp only[hc,if_true,List.lookup_cons,hx];exact ih
     · simp only[hc,if_false,List.lookup_cons,hx,Bool.false_eq_true];exact ih
def kM (env:Env):List (Str×NameKind)->List (Str×Addr)->List (Str×Addr)
 | [],acc=>acc
 | (n,k)::r,acc=>kM env r (if k = .free then(match env.cells.lookup n with | some c=>(n,c)::acc | none=>acc) else acc)
theorem zWX {env:Env}{scope:Scope}(h:∀p∈scope.names,p.2 = .free->∃c,env.cells.lookup p.1=some c):closureFor scope env=pure (kM env scope.names []):=by
 have gen:∀(l:List (Str×NameKind)) (acc:List (Str×Addr)),(∀p∈l,p.2 = .free->∃c,env.cells.lookup p.1=some c) ->
     (forIn l acc fun x r=>if (x.2==NameKind.free)=true then(do let a ←cellOf env x.1;pure (ForInStep.yield ((x.1,a)::r))) else pure (ForInStep.yield r):Sem (List (Str×Addr)))=pure (kM env l acc):=by
   intro l
   induction l with
   | nil=>intro acc _;rfl
   | cons p r ih =>
     intro acc hp
     obtain⟨n,k⟩:=p
     rw[List.forIn_cons]
     have hr:∀p∈r,p.2 = .free->∃c,env.cells.lookup p.1=some c:=fun p hm=>hp p (List.mem_cons_of_mem _ hm)
     by_cases hk:k = .free
     · subst hk
       obtain⟨c,hc⟩:=hp (n,.free) List.mem_cons_self rfl
       have e:cellOf env n=pure c:=by unfold cellOf;rw[hc]
       simp only[beq_self_eq_true,if_true,e]
       show(forIn r ((n,c)::acc) _:Sem _)=_
       rw[ih _ hr]
       show _=(pure (kM env r (if NameKind.free=NameKind.free then(match env.cells.lookup n with | some c=>(n,c)::acc | none=>acc) else acc)):Sem _)
       rw[if_pos rfl,hc]
     · have hb:(k==NameKind.free)=false:=by simpa using hk
       simp only[hb,Bool.false_eq_true,if_false]
       show(forIn r acc _:Sem _)=_
       rw[ih _ hr]
       show _=(pure (kM env r (if k=NameKind.free then(match env.cells.lookup n with | some c=>(n,c)::acc | none=>acc) else acc)):Sem _)
       rw[if_neg hk]
 have q:=gen scope.names [] h
 simp only[closureFor]
 rw[q]
 rfl
theorem bG {env:Env}:∀(l:List (Str×NameKind)) (acc:List (Str×Addr)),(∀x c,acc.lookup x=some c->env.cells.lookup x=some c)->∀x c,(kM env l acc).lookup x=some c->env.cells.lookup x=some c
 | [],_,h=>h
 | (n,k)::r,acc,h=>by
   refine bG r _ ?_
   by_cases hk:k = .free
   · rw[if_pos hk]
     cases e:env.cells.lookup n with
     | none=>exact h
     | some c =>
       intro x c' hx
       rw[List.lookup_cons] at hx
       cases q:x==n with
       | true=>rw[q] at hx;cases hx;rw[eq_of_beq q];exact e
       | false=>rw[q] at hx;exact h x c' hx
   · rw[if_neg hk];exact h
theorem zYf {env:Env}:∀(l:List (Str×NameKind)) (acc:List (Str×Addr)) (x:Str),(acc.lookup x).isSome=true->((kM env l acc).lookup x).isSome=true
 | [],_,_,h=>h
 | (n,k)::r,acc,x,h=>by
   refine zYf r _ x ?_
   by_cases hk:k = .free
   · rw[if_pos hk]
     cases e:env.cells.lookup n with
     | none=>exact h
     | some c =>
       show(List.lookup x ((n,c)::acc)).isSome=true
       rw[List.lookup_cons]
       cases q:x==n with
       | true=>rfl
       | false=>exact h
   · rw[if_neg hk];exact h
theorem cI {env:Env}:∀(l:List (Str×NameKind)) (acc:List (Str×Addr)),(∀p∈l,p.2 = .free->∃c,env.cells.lookup p.1=some c)->∀x,(x,NameKind.free)∈l->((kM env l acc).lookup x).isSome=true
 | [],_,_,_,h=>nomatch h
 | (n,k)::r,acc,hp,x,h=>by
   rcases List.mem_cons.mp h with e | h
   · cases e
     obtain⟨c,hc⟩:=hp (n,.free) List.mem_cons_self rfl
     show((kM env r (if NameKind.free=NameKind.free then(match env.cells.lookup n with | some c=>(n,c)::acc | none=>acc) else acc)).lookup n).isSome=true
     rw[if_pos rfl,hc]
     exact zYf r _ n (by simp[List.lookup_cons])
   · exact cI r _ (fun p hm=>hp p (List.mem_cons_of_mem _ hm)) x h
def oB (sc scope:Scope)(N tgs frees:List Str)(js:List Nat):Bool :=
 scope.kind == .function&&scope.names.all (fun p=>p.2 != .cell&&(p.2 != .free||sc.names.lookup p.1==some .cell||sc.names.lookup p.1==some .free)&&(p.2 != .local||scope.names.lookup p.1==some .local))
   && tgs.all (fun x=>scope.names.lookup x==some .local)&&frees.all (fun x=>scope.names.lookup x==some .free)&&(js.map fun j=>N[j]?)==frees.map some
def upC (m:Nat)(js:List Nat)(σ:St):St:=List.replicate m none++js.map fun j=>(σ[j]?).join
def vR (X:Cx)(Nc:List Str)(scope:Scope)(C:Addr)(s₀:Shared)(H₀:Hp)(fp:List Addr):Cx where
 prog:=X.prog
 w:=X.w
 K:=X.K
 mg:=X.mg
 base:=X.base
 A:=X.A
 N:=Nc
 s₀:=s₀
 H₀:=H₀
 env:=compEnvC scope (kM X.env scope.names []) C X.env
 outer:=X.stack
 stack:=X.stack
 ex:=fp
 fn:=fun _=>false
 calm:=X.calm
 pn:=[]
 xe:=F0
def zWu (X:Cx)(ifs:List Expr)(t:TT):Prop :=
 ∀(pins:List (Addr×Obj)) (s:Shared) (σ:St) (H:Hp) (Q:Bool->Hp->Prop),Inv X pins σ H s->t σ H Q ->
   wpAny (model X.prog X.w) X.A (forIn ifs true fun c r=>if r=true then do let ok ←isTrue c X.env (eval c X.env);pure (ForInStep.yield ok) else pure (ForInStep.yield r)) (TP X pins σ Q) X.xe s
def zNV:TT:=fun _ H Q=>Q true H
theorem zTZ {X:Cx}:zWu X [] zNV:=fun _ _ _ H _ I h=>wpAny_tests_nil ⟨H,I,h⟩
theorem zTW {X:Cx}{c:Expr}{t:TT}(h:PT X c t):zWu X [c] t:=fun pins s σ H Q I hq=>wpAny_tests_one (h pins s σ H Q I hq)
def zOD (J:It)(m:Nat)(js:List Nat)(g:TG)(tc:TT)(te:TE)(σ:St)(H1:Hp)(Q:VK):Prop:=∀D,H1 D=none ->
 ∃W:Nat->Nat->St->Hp->Prop,(∃k,W 0 k (upC m js σ) (upd H1 D (.lst [])))/\∀i k σ' H',W i k σ' H' ->
   (J.stop i H'/\Q (.ref D) H')∨(J.go i H'/\∀x H2,J.yld i H' x H2->g x σ' H2 fun σ2 H3=>tc σ2 H3 fun b H4=>if b=true then te σ2 H4 fun y H5=>∃ys k',H5 D=some (.lst ys)/\ys.length < sizeLine/\k' < k/\W (i+1) k' σ2 (upd H5 D (.lst (ys++[y])))
     else ∃k',k' < k/\W (i+1) k' σ2 H4)
section
variable {X:Cx} {pins:List (Addr×Obj)} {σ:St} {H2:Hp} {s2:Shared} {tg elt iter:Expr} {ifs:List Expr} {scope sc:Scope} {pos:Pos} {tgs frees:List Str} {js:List Nat} {g:TG} {te:TE} {tc:TT}
theorem tR {N:List Str}(h:oB sc scope N tgs frees js=true):scope.kind = .function/\(∀p∈scope.names,p.2 ≠ .cell)/\(∀p∈scope.names,p.2 = .free->sc.names.lookup p.1=some .cell∨sc.names.lookup p.1=some .free) /\
   (∀p∈scope.names,p.2 = .local->scope.names.lookup p.1=some .local)/\(∀x∈tgs,scope.names.lookup x=some .local)/\(∀x∈frees,scope.names.lookup x=some .free)/\(js.map fun j=>N[j]?)=frees.map some:=by
 unfold oB at h
 simp only[Bool.and_eq_true,List.all_eq_true,bne_iff_ne,ne_eq,Bool.or_eq_true,beq_iff_eq] at h
 obtain⟨⟨⟨⟨h1,h2⟩,h3⟩,h4⟩,h5⟩:=h
 refine⟨h1,fun p hp=>(h2 p hp).1.1,fun p hp e=>?_,fun p hp e=>?_,h3,h4,h5⟩
 · rcases(h2 p hp).1.2 with(q | q) | q
   · exact absurd e q
   · exact .inl q
   · exact .inr q
 · rcases(h2 p hp).2 with q | q
   · exact absurd e q
   · exact q
theorem zWG {C:Addr}{s3:Shared}{H3:Hp}{h4:Heap}{tk:Nat}{fp:List Addr}{m0:Str->Option Value}(I:Inv X pins σ H3 s3)(f3:∀b∈fp,oV X pins H3 b)(ofp:∀b∈fp,b < s3.heap.objs.size)
   (hsc:X.env.scope=sc) (hok:oB sc scope X.N tgs frees js=true) (hC:C=s3.heap.objs.size) (hk:∀b o,s3.heap.get? b=some o->h4.get? b=some o) (hn:h4.Ns C m0) :
   Inv (vR X (tgs++frees) scope C s3 H3 fp) [] (upC tgs.length js σ) H3 { s3 with heap:=h4,toks:=tk }:=by
 obtain⟨k1,k2,k3,k4,k5,k6,k7⟩:=tR hok
 have hcl:∀x c,(kM X.env scope.names []).lookup x=some c->X.env.cells.lookup x=some c:=bG scope.names [] (fun _ _ z=>nomatch z)
 have hfr:∀p∈scope.names,p.2 = .free->∃c,X.env.cells.lookup p.1=some c:=fun p hp e=>I.ok.has p.1 (by
   show X.env.scope.names.lookup p.1=_∨X.env.scope.names.lookup p.1=_
   rw[hsc];exact k3 p hp e)
 have rl:∀x,(relabel scope X.env).names.lookup x=(scope.names.lookup x).map fun k=>if (k==NameKind.free&&X.env.scope.kind == .function&&X.env.kindOf x==some .cell)=true then NameKind.cell else k:=fun x=>lM x scope.names
 have hasc:∀x,((relabel scope X.env).names.lookup x=some .cell∨(relabel scope X.env).names.lookup x=some .free)->∃c,(kM X.env scope.names []).lookup x=some c:=fun x hx=>by
   rw[rl x] at hx
   cases e:scope.names.lookup x with
   | none=>rw[e] at hx;simp at hx
   | some k =>
     have hm:=PySem.mem_of_lookup e
     have hkf:k = .free:=by
       rw[e] at hx
       simp only[Option.map_some,Option.some.injEq] at hx
       by_cases q:k = .free
       · exact q
       · have hb:(k==NameKind.free)=false:=by simpa using q
         rw[hb] at hx
         simp only[Bool.false_and,Bool.false_eq_true,if_false] at hx
         rcases hx with z | z
         · exact absurd z (k2 _ hm)
         · exact z
     subst hkf
     exact Option.isSome_iff_exists.mp (cI scope.names [] hfr x hm)
 have cfr:∀x c,X.env.cells.lookup x=some c->c≠C:=fun x c e z=>by
   obtain⟨v,q⟩:=I.cell x c e
   exact absurd (z ▸ q.lt) (by rw[hC];exact Nat.lt_irrefl _)
 have base0:∀b o,X.base.get? b=some o->b∉fp:=fun b o e hb=>by
   obtain⟨_,_,_,q,_⟩:=f3 b hb
   rcases q with q | q
   · exact I.ok.noex b o e q
   · exact absurd (Nat.lt_of_lt_of_le (Heap.lt_size (I.ok.bs b o e).1) q) (Nat.lt_irrefl _)
 have stk:∀b∈fp,b∉frs X.stack:=fun b hb z=>by
   obtain⟨_,q1,q2,_⟩:=f3 b hb
   rcases List.mem_cons.mp (I.stkSub b z) with e | e
   · exact q1 e
   · exact q2 e
 refine⟨⟨I.ok.mod,k1,I.ok.glob,I.ok.blt,by rw[hC];exact Nat.le_refl _,fun x y c e1 e2=>I.ok.inj x y c (hcl x c e1) (hcl y c e2),hasc,(fun x c z _=>nomatch z),I.ok.hd,I.ok.frames,.inl rfl,
     fun b hb=>⟨fun z=>absurd (ofp b hb) (by rw[show b=C from z,hC];exact Nat.lt_irrefl _),fun x c e=>(f3 b hb).2.2.2.2.1 x c (hcl x c e)⟩,
     fun b o e=>I.bs b o e,Nat.le_trans I.ok.bsz I.sz,base0,stk,I.stack,I.stkFree⟩,
   rfl,I.bare,Un.kept hk,⟨m0,hn,fun i x v e1 e2 e3=>?_⟩,fun x c e=>?_,I.hok.fresh (by rw[show(vR X (tgs++frees) scope C s3 H3 fp).env.locals=C from rfl,hC];exact Nat.le_refl _),fun x c e=>I.freeC x c (hcl x c e),
   fun p hp=>absurd (show p∈([]:List (Addr×Obj)) from hp) (by simp),I.hok.kept hk,?_⟩
 · -- a name's value
   have hi:tgs.length<=i:=by
     refine Nat.le_of_not_lt fun hlt=>?_
     have e2:(upC tgs.length js σ)[i]?=some (some v):=e2
     unfold upC at e2
     rw[List.getElem?_append_left (by simpa using hlt),List.getElem?_replicate] at e2
     split at e2<;>cases e2
   have e2:(upC tgs.length js σ)[i]?=some (some v):=e2
   unfold upC at e2
   rw[List.getElem?_append_right (by simpa using hi),List.length_replicate,List.getElem?_map] at e2
   have e1:(tgs++frees)[i]?=some x:=e1
   rw[List.getElem?_append_right hi] at e1
   obtain⟨j,ej,e2⟩:=Option.map_eq_some_iff.mp e2
   have hj:X.N[j]?=some x:=by
     have q:=congrArg (fun l=>l[i - tgs.length]?) k7
     simp only[List.getElem?_map,ej,e1,Option.map_some] at q
     exact Option.some.inj q
   have hσ:σ[j]?=some (some v):=by
     cases q:σ[j]? with
     | none=>rw[q] at e2;cases e2
     | some o=>rw[q] at e2;exact congrArg some e2
   have hf:scope.names.lookup x=some .free:=k6 x (List.mem_of_getElem? e1)
   have hX:X.env.kindOf x=some .cell∨X.env.kindOf x=some .free:=by
     show X.env.scope.names.lookup x=_∨X.env.scope.names.lookup x=_
     rw[hsc];exact k3 _ (PySem.mem_of_lookup hf) rfl
   obtain⟨m,_,hl⟩:=I.loc
   obtain⟨u,r,l⟩:=hl j x v hj hσ (by
     rcases hX with q | q
     · exact .inr (.inl q)
     · exact .inr (.inr q))
   refine⟨u,r,.inr ⟨?_,?_⟩⟩
   · show(relabel scope X.env).names.lookup x=_∨(relabel scope X.env).names.lookup x=_
     rw[rl x,hf]
     by_cases q:(NameKind.free==NameKind.free&&X.env.scope.kind == .function&&X.env.kindOf x==some .cell)=true
     · exact .inl (by rw[Option.map_some,if_pos q])
     · exact .inr (by rw[Option.map_some,if_neg q])
   · rcases l with⟨q,_⟩ | ⟨_,c,ec,hcell⟩
     · rcases hX with z | z<;>(rw[z] at q;cases q)
     · obtain⟨c',ec'⟩:=Option.isSome_iff_exists.mp (cI scope.names [] hfr x (PySem.mem_of_lookup hf))
       have e:c'=c:=Option.some.inj ((hcl x c' ec').symm.trans ec)
       subst e
       obtain⟨o,ho,hd⟩:=hcell
       exact⟨c',ec',o,hk _ _ ho,hd⟩
 · obtain⟨v,o,ho,hd⟩:=I.cell x c (hcl x c e)
   exact⟨v,o,hk _ _ ho,hd⟩
 · show(upC tgs.length js σ).length=(tgs++frees).length
   have q:=congrArg List.length k7
   rw[List.length_map,List.length_map] at q
   unfold upC
   rw[List.length_append,List.length_replicate,List.length_map,List.length_append,q]
theorem dE {J:It}{fp:List Addr}{it:Addr}{tn:Nat->Heap->Prop}{RR:Value->Addr->Result->Shared->Prop}{E:Value->Shared->Prop}{Q:VK}
   (I2:Inv X pins σ H2 s2) (T:Turn X.prog X.w X.K tg J fp it tn) (st2:tn 0 s2.heap) (f2:∀b∈fp,oV X pins H2 b) (hc:X.calm=true)
   (hsc:X.env.scope=sc) (hok:oB sc scope X.N tgs frees js=true)
   (hg:∀C s₀ H₀ fp,PG (vR X (tgs++frees) scope C s₀ H₀ fp) tg g) (hi:∀C s₀ H₀ fp,zWu (vR X (tgs++frees) scope C s₀ H₀ fp) ifs tc) (he:∀C s₀ H₀ fp,PE (vR X (tgs++frees) scope C s₀ H₀ fp) elt te)
   (hw:zOD J tgs.length js g tc te σ H2 Q)
   (hRR:∀D C s' H' m,Inv X pins σ H' s'->Q (.ref D) H'->oV X pins H' C->s'.heap.Ns C m->RR (.ref D) C (.ok .next) s') :
   wpAny (model X.prog X.w) X.A (newList []) (fun acc s₃ => wpAny (model X.prog X.w) X.A (newFunctionEnv scope X.env.globals (kM X.env scope.names []) [] X.env.qual none .none (some X.env)) (fun cenv s₄ =>
     codeAny (model X.prog X.w) X.A (.compStart (.ListComp elt [⟨tg,iter,ifs,0⟩] scope pos) 0 (.ref it) acc { cenv with scope:=relabel scope X.env }) (RR acc cenv.locals) s₄) E s₃) E s2:=by
 obtain⟨k1,k2,k3,k4,k5,k6,k7⟩:=tR hok
 refine wpAny_newObj_type (wpAny_newFunctionEnv k2 (by intro y hy;simp at hy) (fun h4 hn4 hs4=>?_) k1)
 dsimp only at hn4 hs4 ⊢
 generalize hh3:s2.heap.push { cls:=.type "list",dict:=none,data:=.seq ([]:List Value).toArray }=h3 at hn4 hs4 ⊢
 generalize hD:s2.heap.objs.size=D
 have hDn:H2 D=none:=by rw[←hD];exact I2.fresh
 have hsz3:h3.objs.size=D+1:=by rw[←hh3,Heap.size_push,hD]
 have keep23:∀b o,s2.heap.get? b=some o->h3.get? b=some o:=fun b o e=>by rw[←hh3];exact Heap.get?_push_of_some _ e
 have keep34:∀b o,h3.get? b=some o->h4.get? b=some o:=fun b o e=>hs4.extBut b o (Nat.ne_of_lt (Heap.lt_size e)) (Heap.get?_push_of_some _ e)
 have I3:Inv X pins σ (upd H2 D (.lst [])) { s2 with heap:=h3 }:=by
   have q:=I2.lnew (its:=[]) (ys:=[]) (t':=s2.toks) .nil (Nat.zero_le _)
   rw[hD] at q
   rw[←hh3]
   exact q
 have nfp:∀b∈fp,b≠D:=fun b hb z=>by
   obtain⟨o,e,_⟩:=T.obj 0 _ st2 b hb
   exact absurd (Heap.lt_size e) (by rw[z,hD];exact Nat.lt_irrefl _)
 have f3:∀b∈fp,oV X pins (upd H2 D (.lst [])) b:=fun b hb=>by
   obtain⟨q0,q⟩:=f2 b hb
   exact⟨by rw[yX (nfp b hb)];exact q0,q⟩
 have ofp:∀b∈fp,b < h3.objs.size:=fun b hb=>by
   obtain⟨o,e,_⟩:=T.obj 0 _ st2 b hb
   exact Heap.lt_size (keep23 b o e)
 obtain⟨W,⟨n0,w0⟩,turn⟩:=hw D hDn
 have loop:∀s4:Shared,s4={ s2 with heap:=h4,toks:=s2.toks+([]:List (Str×Value)).length } ->
     codeAny (model X.prog X.w) X.A (.compLoop (.ListComp elt [⟨tg,iter,ifs,0⟩] scope pos) 0 (.ref it) (.ref D) (compEnvC scope (kM X.env scope.names []) h3.objs.size X.env)) (RR (.ref D) h3.objs.size) s4:=by
   rintro s4 rfl
   generalize hX':vR X (tgs++frees) scope h3.objs.size { s2 with heap:=h3 } (upd H2 D (.lst [])) fp=X'
   have I4:Inv X' [] (upC tgs.length js σ) (upd H2 D (.lst [])) { s2 with heap:=h4,toks:=s2.toks+([]:List (Str×Value)).length }:=by
     rw[←hX']
     exact zWG (s3:={ s2 with heap:=h3 }) I3 f3 ofp hsc hok rfl keep34 hn4
   have eP:X'.prog=X.prog:=by rw[←hX'];rfl
   have eW:X'.w=X.w:=by rw[←hX'];rfl
   have eK:X'.K=X.K:=by rw[←hX'];rfl
   have eA:X'.A=X.A:=by rw[←hX'];rfl
   have eC:X'.calm=true:=by rw[←hX'];exact hc
   have T':Turn X'.prog X'.w X'.K tg J fp it tn:=by rw[eP,eW,eK];exact T
   have eE:X'.env=compEnvC scope (kM X.env scope.names []) h3.objs.size X.env:=by rw[←hX'];rfl
   have eX:X'.xe=F0:=by rw[←hX'];rfl
   have stat:∀ {H':Hp},(∀b∈fp,H' b=none)->∀b∈fp,oV X' [] H' b:=fun {H'} hn b hb=>by
     obtain⟨_,q1,q2,q3,q4,q5⟩:=f3 b hb
     rw[←hX']
     refine⟨hn b hb,?_,?_,.inl hb,fun x c e=>?_,fun p hp=>absurd (show p∈([]:List (Addr×Obj)) from hp) (by simp)⟩
     · exact fun z=>absurd (ofp b hb) (by rw[show b=h3.objs.size from z];exact Nat.lt_irrefl _)
     · intro z
       rcases List.mem_cons.mp (I3.stkSub b z) with e | e
       · exact q1 e
       · exact q2 e
     · exact q4 x c (bG scope.names [] (fun _ _ z=>nomatch z) x c e)
   have hgX:PG X' tg g:=by rw[←hX'];exact hg _ _ _ _
   have hiX:zWu X' ifs tc:=by rw[←hX'];exact hi _ _ _ _
   have heX:PE X' elt te:=by rw[←hX'];exact he _ _ _ _
   refine cU (fun n s'=>∃i σ' H',Inv X' [] σ' H' s'/\tn i s'.heap/\(∀b∈fp,H' b=none)/\W i n σ' H') ?_ n0 ⟨0,_,_,I4,T.keep 0 _ _ st2 (fun b _ o e=>keep34 b o (keep23 b o e)),fun b hb=>(f3 b hb).1,w0⟩
   rintro n s5 ⟨i,σ5,H5,I5,st5,fr5,w5⟩
   rw[←eP,←eW,←eE,←eA]
   rcases turn i n σ5 H5 w5 with⟨stop,qn⟩ | ⟨go,step⟩
   · refine thn (T'.done X' rfl rfl rfl eC i [] s5 σ5 H5 F0 I5 (stat fr5) st5 stop) fun r s6 ⟨hr,I6⟩=>?_
     subst hr
     have un:Un (frs X.stack) fp H2 H5 s2.heap s6.heap:=by
       have u1:Un (frs X.stack) fp H2 (upd H2 D (.lst [])) s2.heap h3:=Un.laid keep23 (Nat.le_of_eq hD) hDn
       have u2:=I6.base
       rw[←hX'] at u2
       exact u1.trans u2
     have hpx:HOk X.prog X.w H5 s6.heap:=by have q:=I6.hok;rw[eP,eW] at q;exact q
     have hos:s6.os=s2.os:=by have q:=I6.os;rw[←hX'] at q;exact q
     have IX:Inv X pins σ H5 s6:=I2.call' (ch:=fp) hos un hpx I6.bare fun b hb=>⟨(f2 b hb).2.2.2.1,(f2 b hb).2.1,(f2 b hb).2.2.2.2.1,(f2 b hb).2.2.2.2.2⟩
     obtain⟨m,hm,_⟩:=I6.loc
     have hloc:X'.env.locals=h3.objs.size:=by rw[eE];rfl
     rw[hloc] at hm
     have hle:s2.heap.objs.size<=h3.objs.size:=by rw[hD,hsz3];exact Nat.le_succ _
     refine hRR D h3.objs.size s6 H5 m IX qn (I2.fpOk hle ?_) hm
     have q:=I6.free
     rw[hloc] at q
     exact q
   · refine thn (T'.item X' rfl rfl rfl eC i [] s5 σ5 H5 F0 I5 (stat fr5) st5 go) fun r s6 ⟨u,hr,h6⟩=>?_
     subst hr
     refine thn h6 fun _ s7 ⟨x,H7,I7,r7,y7,st7,fr7⟩=>?_
     have I7':=I7.pinned (stat fr7) (T.obj _ _ st7)
     have xe0:X'.xe=F0:=eX
     have conv:∀ {α:Type} {t:Sem α} {Q:α->Shared->Prop} {s:Shared},wpAny (model X'.prog X'.w) X'.A t Q X'.xe s->wpAny (model X'.prog X'.w) X'.A t Q F0 s:=fun h=>by rw[xe0] at h;exact h
     refine thn (conv (hgX _ s7 σ5 H7 x u _ I7' r7 (step x H7 y7))) fun _ s8 ⟨σ8,H8,I8,q8⟩=>?_
     refine thn (conv (hiX _ s8 σ8 H8 _ I8 q8)) fun ok s9 ⟨H9,I9,q9⟩=>?_
     have again:∀ {σz:St} {Hz:Hp} {sz:Shared} {k':Nat},Inv X' ([]++bL fp s7.heap) σz Hz sz->k' < n->W (i+1) k' σz Hz->∃m,m < n/\∃i σ' H',Inv X' [] σ' H' sz/\tn i sz.heap/\(∀b∈fp,H' b=none)/\W i m σ' H':=fun {σz Hz sz k'} Iz hk wz=>by
       refine⟨k',hk,i+1,σz,Hz,Iz.unpinned,T.keep _ _ _ st7 fun b hb o e=>(Iz.pin (b,o) (List.mem_append_right _ (List.mem_append_right _ (nS hb e)))).1,fun b hb=>?_,wz⟩
       obtain⟨o,e,d⟩:=T.obj _ _ st7 b hb
       exact(Iz.pin (b,o) (List.mem_append_right _ (List.mem_append_right _ (nS hb e)))).2.1
     cases ok with
     | false =>
       rw[if_neg (by decide)] at q9
       rw[if_neg (by decide)]
       obtain⟨k',hk,wz⟩:=q9
       exact again I9 hk wz
     | true =>
       rw[if_pos rfl] at q9
       rw[if_pos rfl]
       refine thn (conv (heX _ s9 σ8 H9 _ I9 q9)) fun v s10 ⟨y,H10,I10,r10,ys,k',hys,hl,hk,wz⟩=>?_
       refine thn (conv (sW (X:=X') _ s10 σ8 H10 (.ref D) [y] (.ref D) [v] (fun z Hz=>W (i+1) k' σ8 Hz) I10 rfl (.cons r10 .nil) ⟨D,ys,y,rfl,rfl,hys,hl,wz⟩)) fun _ s11 ⟨_,H11,I11,_,q11⟩=>?_
       exact again I11 hk q11
 rw[show s2.heap.objs.size=D from hD] at *
 exact codeAny_compStart_list (loop _ rfl) (T.self _ 0 _ _ _ (T.keep 0 _ _ st2 fun b _ o e=>keep34 b o (keep23 b o e)) (loop _ rfl))
def zT6 (wi:TI)(m:Nat)(js:List Nat)(g:TG)(tc:TT)(te:TE):TE:=fun σ H Q=>wi σ H fun J H1=>zOD J m js g tc te σ H1 Q
theorem dJ (ok:X.Ok)(hsc:X.env.scope=sc)(hok:oB sc scope X.N tgs frees js=true):closureFor scope X.env=pure (kM X.env scope.names []) :=
 zWX fun p hp e=>ok.has p.1 (by
   show X.env.scope.names.lookup p.1=_∨X.env.scope.names.lookup p.1=_
   rw[hsc];exact(tR hok).2.2.1 p hp e)
theorem zRS (sc:Scope)(tgs frees:List Str)(js:List Nat){wi:TI}(hp:PI X tg iter wi)(hc:X.calm=true)(hsc:X.env.scope=sc)(hok:oB sc scope X.N tgs frees js=true)
   (hg:∀C s₀ H₀ fp,PG (vR X (tgs++frees) scope C s₀ H₀ fp) tg g) (hi:∀C s₀ H₀ fp,zWu (vR X (tgs++frees) scope C s₀ H₀ fp) ifs tc) (he:∀C s₀ H₀ fp,PE (vR X (tgs++frees) scope C s₀ H₀ fp) elt te)
   (hs:∀x,foldedSetIterable iter X.env x=pure x:=by intro _;rfl) :
   PE X (.ListComp elt [⟨tg,iter,ifs,0⟩] scope pos) (zT6 wi tgs.length js g tc te):=by
 intro pins s σ H Q I h
 obtain⟨k1,k2,k3,k4,k5,k6,k7⟩:=tR hok
 rw[eval_ListComp]
 refine wpAny_comprehension_free (use:=none) rfl hs (dJ I.ok hsc hok) k1 k4 (thn (hp pins s σ H _ I h) fun v s1 h1=>thn h1 fun itv s2 h2=>?_)
 obtain⟨it,fp,tn,J,H2,e,I2,T,st2,f2,hw⟩:=h2
 subst e
 refine dE (RR:=fun acc C=>compPost (model X.prog X.w) X.A X.xe none (EP X pins σ Q) acc C) I2 T st2 f2 hc hsc hok hg hi he hw ?_
 intro D C s' H' m I' q fC hn
 refine⟨m,hn,fun h' hs'=>⟨.ref D,H',?_,rfl,q⟩⟩
 obtain⟨c0,c1,c2,c3,c4,c5⟩:=fC
 exact I'.turned (t':=s'.toks) (fun b o hb e=>hs'.extBut b o hb e) c0 c1 c3 c4 c5
theorem zWb (sc:Scope)(tgs frees:List Str)(js:List Nat){wi:TI}{i:Nat}{x:Str}{pos' spos:Pos}(hN:X.N.Nodup)(hx:X.N[i]?=some x)(hl:X.env.scope.names.lookup x=some .local)
   (hp:PI X tg iter wi) (hc:X.calm=true) (hsc:X.env.scope=sc) (hok:oB sc scope X.N tgs frees js=true)
   (hg:∀C s₀ H₀ fp,PG (vR X (tgs++frees) scope C s₀ H₀ fp) tg g) (hi:∀C s₀ H₀ fp,zWu (vR X (tgs++frees) scope C s₀ H₀ fp) ifs tc) (he:∀C s₀ H₀ fp,PE (vR X (tgs++frees) scope C s₀ H₀ fp) elt te)
   (hsw:swapsWith (.ListComp elt [⟨tg,iter,ifs,0⟩] scope pos) (some (.Name x pos')) spos.line X.env=pure true:=by with_unfolding_all rfl) (hs:∀x,foldedSetIterable iter X.env x=pure x:=by intro _;rfl) :
   PS X (.Assign [.Name x pos'] (.ListComp elt [⟨tg,iter,ifs,0⟩] scope pos) spos) (zUC (zT6 wi tgs.length js g tc te) (zXT i)):=by
 intro pins s σ H D I h
 obtain⟨k1,k2,k3,k4,k5,k6,k7⟩:=tR hok
 rw[exec_Assign_Name_used _ _ _ _ hsw]
 refine wpAny_bind (wpAny_standAt (wpAny_bind ?_))
 show wpAny _ X.A (do let _ ←comprehension (.ListComp elt [⟨tg,iter,ifs,0⟩] scope pos) scope X.env _ (newList []) false (eval iter X.env) (some (assign (.Name x pos') X.env))) _ _ s
 refine wpAny_bind (wpAny_mono (wpAny_comprehension_free (use:=some (assign (.Name x pos') X.env)) (Q:=fun _ s'=>SP X pins D .next s') rfl hs (dJ I.ok hsc hok) k1 k4
   (thn (hp pins s σ H _ I h) fun v s1 h1=>thn h1 fun itv s2 h2=>?_)) (fun _ s' hq=>wpAny_pure (wpAny_pure hq)) fun _ _ e=>e)
 obtain⟨it,fp,tn,J,H2,e,I2,T,st2,f2,hw⟩:=h2
 subst e
 refine dE (RR:=fun acc C=>compPost (model X.prog X.w) X.A X.xe (some (assign (.Name x pos') X.env)) (fun _ s'=>SP X pins D .next s') acc C) I2 T st2 f2 hc hsc hok hg hi he hw ?_
 intro D' C s' H' m I' q fC hn
 obtain⟨c0,c1,c2,c3,c4,c5⟩:=fC
 show wpAny _ X.A (assign (.Name x pos') X.env (.ref D')) _ _ _
 refine wpAny_assign_Name (zZI (v:=V.ref D') I' hN hx (.inl hl) rfl (fun s3 I3 hb=>?_) (.inr hl))
 obtain⟨a,sb,ha⟩:=hb
 have hCa:C≠a:=by
   rcases ha with z | z
   · rw[z];exact c1
   · exact(c4 x a z).symm
 refine⟨m,hn.sameBut sb hCa,fun h' hs'=>⟨_,H',I3.turned (t':=s3.toks) (fun b o hb e=>hs'.extBut b o hb e) c0 c1 c3 c4 c5,q⟩⟩
end
end L2
namespace L2
open PySem PySem.Spec PyProof.Rows
inductive KT where
 | int (i:Int) | tup (l:List KT)
instance:DecidableEq KT:=fun _ _=>Classical.propDecidable _
def zQQ:KT->Int
 | .int i=>hashInt i
 | .tup _=>0
def hK:Nat->KT->Int
 | n+1,.tup ks=>reduceHash (Builtin.Tuple.tupleHashOf (ks.map (hK n)))
 | _,k=>zQQ k
def eO:List KT->List Addr->List Value->List DictEntry
 | k::ks,a::as,u::us=>⟨hK 8 k,.ref a,u⟩::eO ks as us
 | _,_,_=>[]
def oU (a:Addr)(ks:List KT)(as:List Addr)(vs:List V):Heap->Prop:=fun h =>
 ∃us,Vals vs us/\∃o es ep,h.get? a=some o/\o.ExactDict/\o.data = .dict es ep/\es.toList=eO ks as us
end L2
namespace L2
open PySem PySem.Spec PyProof.Rows
inductive D where
 | non | bl (b:Bool) | int (i:Int) | str (x:Str) | tup (ds:List D) | lst (ds:List D) | obj (c:Str) (ns:List Str) (ds:List D)
 /-- an exception of an own class -/
 | exc (c:Str) (ns:List Str) (ds:List D)
 deriving Inhabited
theorem Same.tup {K:PySem.W.Frag}{H H':Hp}{a:Addr}{xs:List V}(e:Same H H')(h:SqT K H a xs):SqT K H' a xs:=by
 rcases h with(h | ⟨o,h⟩) | h
 · exact .inl (.inl (e _ _ h))
 · exact .inl (.inr ⟨o,e _ _ h⟩)
 · exact .inr h
def ClsAt (K:PySem.W.Frag)(c:Str)(C:Addr):Prop:=PySem.W.nsIn K mainGlobals c=some (some (.ref C))
theorem ClsAt.one {K:PySem.W.Frag}{c:Str}{C C':Addr}(h:ClsAt K c C)(h':ClsAt K c C'):C'=C:=by
 have:=h.symm.trans h'
 cases this;rfl
def Xe (C a:Addr)(od:Option Addr):Heap->Prop:=fun h=>∃fs,h.get? a=some { cls:=.ref C,dict:=od,data:=.fields fs }
def Xd (dx:Addr)(fs:List (Str×V)):Heap->Prop:=fun h=>∃mA,h.Ns1 dx mA/\∀f,RelO (fs.lookup f) (mA f)
def XD (G:Hp):Option Addr->List (Str×V)->Prop
 | none,fs=>fs=[]
 | some dx,fs=>G dx=some (.ext (Xd dx fs))
theorem XD.mono {G G':Hp}(e:Same G G'):∀ {od:Option Addr} {fs:List (Str×V)},XD G od fs->XD G' od fs
 | none,_,h=>h
 | some _,_,h=>e _ _ h
mutual
def Rep (K:PySem.W.Frag)(G:Hp):D->V->Prop
 | .non,v=>v = .non
 | .bl b,v=>v = .bl b
 | .int i,v=>v = .int i
 | .str x,v=>v = .str x
 | .tup ds,v=>∃a vs,v = .ref a/\SqT K G a vs/\Reps K G ds vs
 | .lst ds,v=>∃a vs,v = .ref a/\SqL K G a vs/\Reps K G ds vs
 | .obj c ns ds,v=>∃C a dx vs,ClsAt K c C/\v = .ref a/\G a=some (.ins C dx (ns.zip vs))/\ns.length=ds.length/\Reps K G ds vs
 | .exc c ns ds,v=>∃C a od vs,ClsAt K c C/\v = .ref a/\G a=some (.ext (Xe C a od))/\XD G od (ns.zip vs)/\ns.length=ds.length/\Reps K G ds vs
def Reps (K:PySem.W.Frag)(G:Hp):List D->List V->Prop
 | [],vs=>vs=[]
 | d::r,vs=>∃v vr,vs=v::vr/\Rep K G d v/\Reps K G r vr
end
section
variable {K:PySem.W.Frag} {G G':Hp}
mutual
theorem Rep.mono (e:Same G G'):∀(d:D) (v:V),Rep K G d v->Rep K G' d v
 | .non,_,h=>by unfold Rep at h ⊢;exact h
 | .bl _,_,h=>by unfold Rep at h ⊢;exact h
 | .int _,_,h=>by unfold Rep at h ⊢;exact h
 | .str _,_,h=>by unfold Rep at h ⊢;exact h
 | .tup ds,_,h=>by
   unfold Rep at h ⊢
   obtain⟨a,vs,h1,h2,h3⟩:=h
   exact⟨a,vs,h1,e.tup h2,Reps.mono e ds vs h3⟩
 | .lst ds,_,h=>by
   unfold Rep at h ⊢
   obtain⟨a,vs,h1,h2,h3⟩:=h
   exact⟨a,vs,h1,e.seq h2,Reps.mono e ds vs h3⟩
 | .obj C ns ds,_,h=>by
   unfold Rep at h ⊢
   obtain⟨C,a,dx,vs,h0,h1,h2,h4,h3⟩:=h
   exact⟨C,a,dx,vs,h0,h1,e _ _ h2,h4,Reps.mono e ds vs h3⟩
 | .exc C ns ds,_,h=>by
   unfold Rep at h ⊢
   obtain⟨C,a,od,vs,h0,h1,h2,h5,h4,h3⟩:=h
   exact⟨C,a,od,vs,h0,h1,e _ _ h2,h5.mono e,h4,Reps.mono e ds vs h3⟩
theorem Reps.mono (e:Same G G'):∀(ds:List D) (vs:List V),Reps K G ds vs->Reps K G' ds vs
 | [],_,h=>by unfold Reps at h ⊢;exact h
 | d::r,_,h=>by
   unfold Reps at h ⊢
   obtain⟨v,vr,h1,h2,h3⟩:=h
   exact⟨v,vr,h1,Rep.mono e d v h2,Reps.mono e r vr h3⟩
end
theorem rep_non {v:V}:Rep K G .non v↔v = .non:=by unfold Rep;exact Iff.rfl
theorem rep_bl {b:Bool}{v:V}:Rep K G (.bl b) v↔v = .bl b:=by unfold Rep;exact Iff.rfl
theorem rep_int {i:Int}{v:V}:Rep K G (.int i) v↔v = .int i:=by unfold Rep;exact Iff.rfl
theorem rep_str {x:Str}{v:V}:Rep K G (.str x) v↔v = .str x:=by unfold Rep;exact Iff.rfl
theorem rep_tup {ds:List D}{v:V}:Rep K G (.tup ds) v↔∃a vs,v = .ref a/\SqT K G a vs/\Reps K G ds vs:=by
 constructor<;>(intro h;unfold Rep at *;exact h)
theorem rep_lst {ds:List D}{v:V}:Rep K G (.lst ds) v↔∃a vs,v = .ref a/\SqL K G a vs/\Reps K G ds vs:=by
 constructor<;>(intro h;unfold Rep at *;exact h)
theorem rep_obj {c:Str}{ns:List Str}{ds:List D}{v:V}:Rep K G (.obj c ns ds) v↔∃C a dx vs,ClsAt K c C/\v = .ref a/\G a=some (.ins C dx (ns.zip vs))/\ns.length=ds.length/\Reps K G ds vs:=by
 constructor<;>(intro h;unfold Rep at *;exact h)
theorem rep_exc {c:Str}{ns:List Str}{ds:List D}{v:V}:Rep K G (.exc c ns ds) v↔∃C a od vs,ClsAt K c C/\v = .ref a/\G a=some (.ext (Xe C a od))/\XD G od (ns.zip vs)/\ns.length=ds.length/\Reps K G ds vs:=by
 constructor<;>(intro h;unfold Rep at *;exact h)
theorem reps_nil {vs:List V}:Reps K G [] vs↔vs=[]:=by unfold Reps;exact Iff.rfl
theorem reps_cons {d:D}{r:List D}{vs:List V}:Reps K G (d::r) vs↔∃v vr,vs=v::vr/\Rep K G d v/\Reps K G r vr:=by
 rw[Reps]
theorem Reps.length:∀ {ds:List D} {vs:List V},Reps K G ds vs->ds.length=vs.length
 | [],_,h=>by rw[reps_nil] at h;rw[h];rfl
 | d::r,_,h=>by
   rw[reps_cons] at h
   obtain⟨v,vr,rfl,_,h3⟩:=h
   rw[List.length_cons,List.length_cons,Reps.length h3]
theorem Reps.get:∀ {ds:List D} {vs:List V} {i:Nat} {d:D},Reps K G ds vs->ds[i]?=some d->∃v,vs[i]?=some v/\Rep K G d v
 | [],_,_,_,_,e=>by simp at e
 | d::r,_,0,_,h,e=>by
   rw[reps_cons] at h
   obtain⟨v,vr,rfl,h2,h3⟩:=h
   simp at e;subst e
   exact⟨v,rfl,h2⟩
 | d::r,_,i+1,_,h,e=>by
   rw[reps_cons] at h
   obtain⟨v,vr,rfl,h2,h3⟩:=h
   obtain⟨u,e1,e2⟩:=Reps.get h3 (by simpa using e)
   exact⟨u,by simpa using e1,e2⟩
theorem Reps.snoc:∀ {ds:List D} {vs:List V} {d:D} {v:V},Reps K G ds vs->Rep K G d v->Reps K G (ds++[d]) (vs++[v])
 | [],_,d,v,h,r=>by
   rw[reps_nil] at h;subst h
   exact reps_cons.mpr ⟨v,[],rfl,r,reps_nil.mpr rfl⟩
 | e::t,_,d,v,h,r=>by
   rw[reps_cons] at h
   obtain⟨u,vr,rfl,h2,h3⟩:=h
   exact reps_cons.mpr ⟨u,vr++[v],rfl,h2,h3.snoc r⟩
theorem Reps.append:∀ {ds es:List D} {vs us:List V},Reps K G ds vs->Reps K G es us->Reps K G (ds++es) (vs++us)
 | [],_,_,_,h,r=>by rw[reps_nil] at h;subst h;exact r
 | e::t,_,_,us,h,r=>by
   rw[reps_cons] at h
   obtain⟨u,vr,rfl,h2,h3⟩:=h
   exact reps_cons.mpr ⟨u,vr++us,rfl,h2,h3.append r⟩
theorem Reps.take:∀ {ds:List D} {vs:List V} (n:Nat),Reps K G ds vs->Reps K G (ds.take n) (vs.take n)
 | _,_,0,_=>by rw[List.take_zero,List.take_zero];exact reps_nil.mpr rfl
 | [],_,_+1,h=>by rw[reps_nil] at h;subst h;exact reps_nil.mpr rfl
 | e::t,_,n+1,h=>by
   rw[reps_cons] at h
   obtain⟨u,vr,rfl,h2,h3⟩:=h
   exact reps_cons.mpr ⟨u,vr.take n,rfl,h2,h3.take n⟩
theorem Reps.drop:∀ {ds:List D} {vs:List V} (n:Nat),Reps K G ds vs->Reps K G (ds.drop n) (vs.drop n)
 | _,_,0,h=>h
 | [],_,_+1,h=>by rw[reps_nil] at h;subst h;exact reps_nil.mpr rfl
 | e::t,_,n+1,h=>by
   rw[reps_cons] at h
   obtain⟨u,vr,rfl,h2,h3⟩:=h
   exact h3.drop n
theorem Reps.set:∀ {ds:List D} {vs:List V} {d:D} {v:V} (i:Nat),Reps K G ds vs->Rep K G d v->Reps K G (ds.set i d) (vs.set i v)
 | [],_,_,_,_,h,_=>by rw[reps_nil] at h;subst h;exact reps_nil.mpr rfl
 | e::t,_,d,v,0,h,r=>by
   rw[reps_cons] at h
   obtain⟨u,vr,rfl,h2,h3⟩:=h
   exact reps_cons.mpr ⟨v,vr,rfl,r,h3⟩
 | e::t,_,d,v,i+1,h,r=>by
   rw[reps_cons] at h
   obtain⟨u,vr,rfl,h2,h3⟩:=h
   exact reps_cons.mpr ⟨u,vr.set i v,rfl,h2,h3.set i r⟩
theorem Reps.erase:∀ {ds:List D} {vs:List V} (i:Nat),Reps K G ds vs->Reps K G (ds.eraseIdx i) (vs.eraseIdx i)
 | [],_,_,h=>by rw[reps_nil] at h;subst h;exact reps_nil.mpr rfl
 | e::t,_,0,h=>by
   rw[reps_cons] at h
   obtain⟨u,vr,rfl,h2,h3⟩:=h
   exact h3
 | e::t,_,i+1,h=>by
   rw[reps_cons] at h
   obtain⟨u,vr,rfl,h2,h3⟩:=h
   exact reps_cons.mpr ⟨u,vr.eraseIdx i,rfl,h2,h3.erase i⟩
end
structure Step (G H G' H':Hp):Prop where
 hh:Same H H'
 gg:Same G G'
 sub:Same G' H'
 new:∀a,H a≠none->G' a=G a
theorem Step.refl {G H:Hp}(h:Same G H):Step G H G H:=⟨Same.refl _,Same.refl _,h,fun _ _=>rfl⟩
theorem Step.trans {G H G1 H1 G2 H2:Hp}(a:Step G H G1 H1)(b:Step G1 H1 G2 H2):Step G H G2 H2 :=
 ⟨a.hh.trans b.hh,a.gg.trans b.gg,b.sub,fun c hc=>(b.new c (fun z=>hc (a.hh.free z))).trans (a.new c hc)⟩
theorem Same.new {H:Hp}{p:Addr}{o:HO}(hp:H p=none):Same H (upd H p o):=fun b u e=>by rw[yX (yC e hp)];exact e
theorem Step.laid {G H:Hp}{p:Addr}{o:HO}(s:Same G H)(hp:H p=none):Step G H (upd G p o) (upd H p o):=by
 refine⟨Same.new hp,Same.new (s.free hp),fun b u e=>?_,fun a ha=>?_⟩
 · by_cases hb:b=p
   · subst hb;rw[zD] at e ⊢;exact e
   · rw[yX hb] at e ⊢;exact s b u e
 · exact yX (fun z:a=p=>ha (by rw[z];exact hp))
theorem Step.own {G H:Hp}{p:Addr}{o:HO}(s:Same G H)(hp:H p=none):Step G H G (upd H p o) :=
 ⟨Same.new hp,Same.refl _,s.trans (Same.new hp),fun _ _=>rfl⟩
theorem Step.frz {G H G' H':Hp}{p:Addr}{o:HO}(s:Step G H G' H')(hp:H p=none)(h':H' p=some o)(g':G' p=none):Step G H (upd G' p o) H':=by
 refine⟨s.hh,s.gg.trans (Same.new g'),fun b u e=>?_,fun a ha=>?_⟩
 · by_cases hb:b=p
   · subst hb;rw[zD] at e;rw[h'];exact e
   · rw[yX hb] at e;exact s.sub b u e
 · rw[yX (fun z:a=p=>ha (by rw[z];exact hp))];exact s.new a ha
inductive B where
 | no | fz (d:D) | ow (ds:List D)
 /-- a dict of its own: keys and values -/
 | od (kvs:List (D×D))
 deriving Inhabited
def gH (f:D->Option KT):List D->Option (List KT)
 | []=>some []
 | d::r=>(f d).bind fun k=>(gH f r).map fun ks=>k::ks
def ktD:Nat->D->Option KT
 | _,.int i=>some (.int i)
 | _,.bl b=>some (.int (if b then 1 else 0))
 | n+1,.tup ds=>(gH (ktD n) ds).map .tup
 | _,_=>none
inductive ODs (K:PySem.W.Frag)(G:Hp):List (D×D)->List KT->List Addr->List V->Prop
 | nil:ODs K G [] [] [] []
 | cons {d e:D} {k:KT} {a:Addr} {v:V} {kvs:List (D×D)} {ks:List KT} {as:List Addr} {vs:List V}:ktD 8 d=some k->Rep K G d (.ref a)->Rep K G e v->ODs K G kvs ks as vs->ODs K G ((d,e)::kvs) (k::ks) (a::as) (v::vs)
theorem ODs.mono {K:PySem.W.Frag}{G G':Hp}(h:Same G G'):∀ {kvs ks as vs},ODs K G kvs ks as vs->ODs K G' kvs ks as vs
 | _,_,_,_,.nil=>.nil
 | _,_,_,_,.cons h1 h2 h3 h4=>.cons h1 (h2.mono h) (h3.mono h) (ODs.mono h h4)
inductive RB (K:PySem.W.Frag)(H0 G H:Hp):Option V->B->Prop where
 | no {o:Option V}:RB K H0 G H o .no
 | fz {v:V} {d:D}:Rep K G d v->RB K H0 G H (some v) (.fz d)
 | ow {a:Addr} {vs:List V} {ds:List D}:H a=some (.lst vs)->G a=none->H0 a=none->Reps K G ds vs->RB K H0 G H (some (.ref a)) (.ow ds)
 | od {a:Addr} {kvs:List (D×D)} {ks:List KT} {as:List Addr} {vs:List V}:H a=some (.ext (oU a ks as vs))->G a=none->H0 a=none->ODs K G kvs ks as vs->ks.Nodup->(a==sysModules)=false->RB K H0 G H (some (.ref a)) (.od kvs)
structure Good (K:PySem.W.Frag)(G0 H0 G H:Hp)(σ:St)(ρ:List B):Prop where
 st:Step G0 H0 G H
 vals:Paired (RB K H0 G H) σ ρ
 apart:∀(i j:Nat) (a:Addr) (ds es:List D),ρ[i]?=some (.ow ds)->ρ[j]?=some (.ow es)->σ[i]?=some (some (.ref a))->σ[j]?=some (some (.ref a))->i=j
theorem Paired.get {α β:Type}{F:α->β->Prop}:∀ {l:List α} {r:List β} {i:Nat} {b:β},Paired F l r->r[i]?=some b->∃a,l[i]?=some a/\F a b
 | _,_,_,_,.nil,e=>by simp at e
 | _,_,0,_,.cons h _,e=>by simp at e;subst e;exact⟨_,rfl,h⟩
 | _,_,i+1,b,.cons _ t,e=>by
   obtain⟨a,h1,h2⟩:=Paired.get (i:=i) (b:=b) t (by simpa using e)
   exact⟨a,by simpa using h1,h2⟩
theorem Paired.set {α β:Type}{F:α->β->Prop}{a:α}{b:β}(h:F a b):∀ {l:List α} {r:List β} (i:Nat),Paired F l r->Paired F (l.set i a) (r.set i b)
 | _,_,_,.nil=>.nil
 | _,_,0,.cons _ t=>.cons h t
 | _,_,i+1,.cons q t=>.cons q (Paired.set h i t)
theorem RB.step {K:PySem.W.Frag}{H0 G H G' H':Hp}{o:Option V}{b:B}(r:RB K H0 G H o b)(s:Step G H G' H'):RB K H0 G' H' o b:=by
 cases r with
 | no=>exact .no
 | fz q=>exact .fz (q.mono s.gg)
 | ow h1 h2 h3 h4=>exact .ow (s.hh _ _ h1) ((s.new _ (by rw[h1];exact fun z=>nomatch z)).trans h2) h3 (h4.mono s.gg)
 | od h1 h2 h3 h4 h5 h6=>exact .od (s.hh _ _ h1) ((s.new _ (by rw[h1];exact fun z=>nomatch z)).trans h2) h3 (h4.mono s.gg) h5 h6
theorem Good.step {K:PySem.W.Frag}{G0 H0 G H G' H':Hp}{σ:St}{ρ:List B}(g:Good K G0 H0 G H σ ρ)(s:Step G H G' H'):Good K G0 H0 G' H' σ ρ :=
 ⟨g.st.trans s,Paired.mapP g.vals fun _ _ r=>r.step s,g.apart⟩
theorem Good.sub {K:PySem.W.Frag}{G0 H0 G H:Hp}{σ:St}{ρ:List B}(g:Good K G0 H0 G H σ ρ):Same G H:=g.st.sub
abbrev Ef:=List B->Option D
def tF (K:PySem.W.Frag)(f:Ef):TE:=fun σ H Q=>∃G0 H0 G ρ d,Good K G0 H0 G H σ ρ/\f ρ=some d/\∀v H' G',Step G H G' H'->Rep K G' d v->Q v H'
def PF (X:Cx)(e:Expr)(f:Ef):Prop:=PE X e (tF X.K f)
theorem PE.to {X:Cx}{e:Expr}{t:TE}{f:Ef}(h:PE X e t)(imp:∀σ H Q,tF X.K f σ H Q->t σ H Q):PF X e f:=fun pins s σ H Q I q=>h pins s σ H Q I (imp σ H Q q)
abbrev Lf:=List B->Option (List D)
def tFr (K:PySem.W.Frag)(f:Lf):TE:=fun σ H Q=>∃G0 H0 G ρ ds,Good K G0 H0 G H σ ρ/\f ρ=some ds/\∀a vs H' G',Step G H G' H'->H a=none->H' a=some (.lst vs)->G' a=none->Reps K G' ds vs->Q (.ref a) H'
def PFr (X:Cx)(e:Expr)(f:Lf):Prop:=PE X e (tFr X.K f)
theorem PE.toR {X:Cx}{e:Expr}{t:TE}{f:Lf}(h:PE X e t)(imp:∀σ H Q,tFr X.K f σ H Q->t σ H Q):PFr X e f:=fun pins s σ H Q I q=>h pins s σ H Q I (imp σ H Q q)
def eL (f:Lf):Ef:=fun ρ=>(f ρ).map .lst
theorem w8 {X:Cx}{e:Expr}{f:Lf}(h:PFr X e f):PF X e (eL f):=by
 refine PE.to h ?_
 rintro σ H Q ⟨G0,H0,G,ρ,d,good,hf,k⟩
 unfold eL at hf
 obtain⟨ds,h1,rfl⟩:=Option.map_eq_some_iff.mp hf
 refine⟨G0,H0,G,ρ,ds,good,h1,fun a vs H' G' s hn ha ga rs=>?_⟩
 exact k _ _ (upd G' a (.lst vs)) (s.frz hn ha ga) (rep_lst.mpr ⟨a,vs,rfl,.of zD,rs.mono (Same.new ga)⟩)
abbrev Tf:=List B->Option Bool
def tFT (K:PySem.W.Frag)(f:Tf):TT:=fun σ H Q=>∃G0 H0 G ρ b,Good K G0 H0 G H σ ρ/\f ρ=some b/\∀H' G',Step G H G' H'->Q b H'
def PFT (X:Cx)(e:Expr)(f:Tf):Prop:=PT X e (tFT X.K f)
theorem PT.to {X:Cx}{e:Expr}{t:TT}{f:Tf}(h:PT X e t)(imp:∀σ H Q,tFT X.K f σ H Q->t σ H Q):PFT X e f:=fun pins s σ H Q I q=>h pins s σ H Q I (imp σ H Q q)
def PFW (X:Cx)(e:Expr)(f:Tf):Prop:=PW X e (tFT X.K f)
def tFA (K:PySem.W.Frag)(f:Lf):TA:=fun σ H Q=>∃G0 H0 G ρ ds,Good K G0 H0 G H σ ρ/\f ρ=some ds/\∀vs H' G',Step G H G' H'->Reps K G' ds vs->Q vs H'
def PFA (X:Cx)(es:List Expr)(f:Lf):Prop:=PA X es (tFA X.K f)
theorem PA.to {X:Cx}{es:List Expr}{t:TA}{f:Lf}(h:PA X es t)(imp:∀σ H Q,tFA X.K f σ H Q->t σ H Q):PFA X es f:=fun pos pins s σ H Q I q=>h pos pins s σ H Q I (imp σ H Q q)
section
variable {X:Cx} {a b c e:Expr} {es:List Expr} {fa fb fc:Ef} {ga gb:Lf} {ta tb:Tf} {pos:Pos}
def rW (ρ:List B)(i:Nat):Option D:=match ρ[i]? with | some (.fz d)=>some d | _=>none
def eV (i:Nat):Ef:=fun ρ=>rW ρ i
theorem zUl {K:PySem.W.Frag}{G0 H0 G H:Hp}{σ:St}{ρ:List B}{i:Nat}{d:D}(g:Good K G0 H0 G H σ ρ)(h:rW ρ i=some d):∃v,σ[i]?=some (some v)/\Rep K G d v:=by
 unfold rW at h
 split at h
 · rename_i d' e
   cases h
   obtain⟨o,h1,r⟩:=Paired.get g.vals e
   cases r with
   | fz r=>exact⟨_,h1,r⟩
 · cases h
theorem zS (i:Nat){x:Str}(hN:X.N[i]?=some x:=by rfl)(hv:Vis X.env.scope x:=by first | exact Or.inl rfl | exact Or.inr (Or.inl rfl) | exact Or.inr (Or.inr rfl))(hd:(x==("__debug__":Str))=false:=by decide)(hcd:(x==("__classdict__":Str))=false:=by decide):PF X (.Name x pos) (eV i):=by
 refine PE.to (qV hN hv hd hcd) ?_
 rintro σ H Q ⟨G0,H0,G,ρ,d,good,hf,k⟩
 obtain⟨v,h1,r⟩:=zUl good hf
 exact⟨v,h1,k v H G (.refl good.sub) r⟩
def eC (d:D):Ef:=fun _=>some d
theorem fS {v:V}{d:D}(h:PE X e (tC v))(r:∀G,Rep X.K G d v):PF X e (eC d):=by
 refine PE.to h ?_
 rintro σ H Q ⟨G0,H0,G,ρ,d',good,hf,k⟩
 cases hf
 exact k v H G (.refl good.sub) (r G)
theorem zV {i:Int}{j:Nat}:PF X (.Constant (.int i) j pos) (eC (.int i)):=fS zQ2 fun _=>rep_int.mpr rfl
theorem tW {i:Bool}{j:Nat}:PF X (.Constant (.bool i) j pos) (eC (.bl i)):=fS zPi fun _=>rep_bl.mpr rfl
theorem uA {j:Nat}:PF X (.Constant .none j pos) (eC .non):=fS zSB fun _=>rep_non.mpr rfl
theorem xW {x:Str}{j:Nat}:PF X (.Constant (.str x) j pos) (eC (.str x)):=fS zQo fun _=>rep_str.mpr rfl
theorem oF {x y:Str}{t:Tok}(hg:Gl X x)(hm:X.mg x=some (.str y t))(hd:(x==("__debug__":Str))=false:=by decide):PF X (.Name x pos) (eC (.str y)):=fS (dX (v:=.str y) hg hm ⟨t,rfl⟩ hd) fun _=>rep_str.mpr rfl
theorem zRF {x:Str}{i:Int}{t:Tok}(hg:Gl X x)(hm:X.mg x=some (.int i t))(hd:(x==("__debug__":Str))=false:=by decide):PF X (.Name x pos) (eC (.int i)):=fS (dX (v:=.int i) hg hm ⟨t,rfl⟩ hd) fun _=>rep_int.mpr rfl
def eI (C:Int->Int->Bool)(g:Int->Int->Int)(fa fb:Ef):Ef:=fun ρ=>(fa ρ).bind fun x=>(fb ρ).bind fun y=>match x,y with | .int i,.int j=>if C i j then some (.int (g i j)) else none | _,_=>none
theorem zTM {C:Int->Int->Bool}{g:Int->Int->Int}{ρ:List B}{d:D}(h:eI C g fa fb ρ=some d):∃i j,fa ρ=some (.int i)/\fb ρ=some (.int j)/\C i j=true/\d = .int (g i j):=by
 unfold eI at h
 obtain⟨x,h1,h⟩:=Option.bind_eq_some_iff.mp h
 obtain⟨y,h2,h⟩:=Option.bind_eq_some_iff.mp h
 cases x with
 | int i =>
   cases y with
   | int j =>
     dsimp only at h
     split at h
     · rename_i hc;cases h;exact⟨i,j,h1,h2,hc,rfl⟩
     · cases h
   | _=>cases h
 | _=>cases h
theorem zQt {op:Operator}{C:Int->Int->Bool}{P:Int->Int->Prop}{g:Int->Int->Int}(ho:OpR X (binaryOp op) (rI P fun i j=>.int (g i j)))(hP:∀i j,C i j=true->P i j)(ha:PF X a fa)(hb:PF X b fb):PF X (.BinOp a op b pos) (eI C g fa fb):=by
 refine PE.to (zZQ ho ha hb) ?_
 rintro σ H Q ⟨G0,H0,G,ρ,d,good,hf,k⟩
 obtain⟨i,j,h1,h2,hc,rfl⟩:=zTM hf
 refine⟨G0,H0,G,ρ,_,good,h1,fun x H1 G1 s1 r1=>⟨G0,H0,G1,ρ,_,good.step s1,h2,fun y H2 G2 s2 r2=>?_⟩⟩
 exact⟨i,j,rep_int.mp r1,rep_int.mp r2,hP i j hc,k _ _ G2 (s1.trans s2) (rep_int.mpr rfl)⟩
theorem zSm {op:Operator}{g:Int->Int->Int}(ho:OpR X (binaryOp op) (rI0 fun i j=>.int (g i j)))(ha:PF X a fa)(hb:PF X b fb):PF X (.BinOp a op b pos) (eI (fun _ _=>true) g fa fb):=by
 refine PE.to (zZQ ho ha hb) ?_
 rintro σ H Q ⟨G0,H0,G,ρ,d,good,hf,k⟩
 obtain⟨i,j,h1,h2,hc,rfl⟩:=zTM hf
 refine⟨G0,H0,G,ρ,_,good,h1,fun x H1 G1 s1 r1=>⟨G0,H0,G1,ρ,_,good.step s1,h2,fun y H2 G2 s2 r2=>?_⟩⟩
 exact⟨i,j,rep_int.mp r1,rep_int.mp r2,k _ _ G2 (s1.trans s2) (rep_int.mpr rfl)⟩
abbrev sZ:=eI (fun _ _=>true) (fun i j=>i+j)
abbrev oO:=eI (fun _ _=>true) (fun i j=>i - j)
def zY0 (i j:Int):Bool:=(decide (-(2^64) < i)&&decide (i < 2^64))||(decide (-(2^64) < j)&&decide (j < 2^64))
abbrev lW:=eI zY0 (fun i j=>i*j)
def zYz (_ j:Int):Bool:=decide (0 < j)&&decide (j < 1073741824)
abbrev uN:=eI zYz (fun i j=>i / j)
abbrev wC:=eI (fun _ j=>decide (0 < j)) (fun i j=>i % j)
abbrev zYW:=eI (fun _ _=>true) (fun i j=>Builtin.bitXor i j)
theorem pB (ha:PF X a fa)(hb:PF X b fb):PF X (.BinOp a .Add b pos) (sZ fa fb):=zSm op_add ha hb
theorem fU (ha:PF X a fa)(hb:PF X b fb):PF X (.BinOp a .Sub b pos) (oO fa fb):=zSm zPC ha hb
theorem lP (ha:PF X a fa)(hb:PF X b fb):PF X (.BinOp a .Mult b pos) (lW fa fb):=zQt zQr (fun i j h=>by
 unfold zY0 at h
 simp only[Bool.or_eq_true,Bool.and_eq_true,decide_eq_true_eq] at h
 exact h) ha hb
theorem sC (ha:PF X a fa)(hb:PF X b fb):PF X (.BinOp a .FloorDiv b pos) (uN fa fb):=zQt zRr (fun i j h=>by
 unfold zYz at h
 simp only[Bool.and_eq_true,decide_eq_true_eq] at h
 exact h) ha hb
theorem uK (ha:PF X a fa)(hb:PF X b fb):PF X (.BinOp a .Mod b pos) (wC fa fb):=zQt zQk (fun i j h=>of_decide_eq_true h) ha hb
theorem zZb (ha:PF X a fa)(hb:PF X b fb):PF X (.BinOp a .BitXor b pos) (zYW fa fb):=zSm zPT ha hb
def zUP (fa:Ef):Ef:=fun ρ=>(fa ρ).bind fun x=>match x with | .int i=>some (.int (-i)) | _=>none
theorem zSO (ha:PF X a fa):PF X (.UnaryOp .USub a pos) (zUP fa):=by
 refine PE.to (zOB zQi ha) ?_
 rintro σ H Q ⟨G0,H0,G,ρ,d,good,hf,k⟩
 unfold zUP at hf
 obtain⟨x,h1,hf⟩:=Option.bind_eq_some_iff.mp hf
 split at hf
 · rename_i i
   cases hf
   exact⟨G0,H0,G,ρ,_,good,h1,fun x H1 G1 s1 r1=>⟨i,rep_int.mp r1,k _ _ G1 s1 (rep_int.mpr rfl)⟩⟩
 · cases hf
def eB2 (g:D->D->Option Bool)(fa fb:Ef):Tf:=fun ρ=>(fa ρ).bind fun x=>(fb ρ).bind fun y=>g x y
def xE (t:Tf):Ef:=fun ρ=>(t ρ).map .bl
def gLe:D->D->Option Bool | .int i,.int j=>some (decide (i<=j)) | _,_=>none
def gGt:D->D->Option Bool | .int i,.int j=>some (decide (j < i)) | _,_=>none
def gEq:D->D->Option Bool
 | .int i,.int j=>some (decide (i=j))
 | .bl i,.bl j=>some (decide (i=j))
 | .str i,.str j=>some (decide (i=j))
 | _,_=>none
def gNe (x y:D):Option Bool:=(gEq x y).map (!·)
def CmR (X:Cx)(op:CmpOp)(g:D->D->Option Bool):Prop:=∃r:R2,OpR X (compareOp op) r/\∀(d d':D) (k:Bool) (G H:Hp) (x y:V) (Q:VK),g d d'=some k->Same G H->Rep X.K G d x->Rep X.K G d' y->(∀H' G',Step G H G' H'->Q (.bl k) H')->r x y H Q
theorem zTo {op:CmpOp}{p:Int->Int->Bool}{g:D->D->Option Bool}(ho:OpR X (compareOp op) (rI0 fun i j=>.bl (p i j)))(hg:∀d d' k,g d d'=some k->∃i j,d = .int i/\d' = .int j/\k=p i j):CmR X op g:=by
 refine⟨_,ho,fun d d' k G H x y Q h s rx ry q=>?_⟩
 obtain⟨i,j,rfl,rfl,rfl⟩:=hg d d' k h
 exact⟨i,j,rep_int.mp rx,rep_int.mp ry,q H G (.refl s)⟩
theorem zQH:CmR X .LtE gLe:=zTo zOA fun d d' k h=>by unfold gLe at h;split at h<;>cases h;exact⟨_,_,rfl,rfl,rfl⟩
theorem zQL:CmR X .Gt gGt:=zTo zOR fun d d' k h=>by unfold gGt at h;split at h<;>cases h;exact⟨_,_,rfl,rfl,rfl⟩
theorem zTY {d d':D}{k:Bool}{K:PySem.W.Frag}{G:Hp}{x y:V}(h:gEq d d'=some k)(rx:Rep K G d x)(ry:Rep K G d' y):zQl x y=true/\decide (x=y)=k:=by
 unfold gEq at h
 split at h
 · cases h;rw[rep_int] at rx ry;subst rx;subst ry;exact⟨rfl,by simp⟩
 · cases h;rw[rep_bl] at rx ry;subst rx;subst ry;exact⟨rfl,by simp⟩
 · cases h;rw[rep_str] at rx ry;subst rx;subst ry;exact⟨rfl,by simp⟩
 · cases h
theorem mP:CmR X .Eq gEq:=⟨_,zOH,fun d d' k G H x y Q h s rx ry q=>by
 obtain⟨h1,h2⟩:=zTY h rx ry
 exact⟨h1,by rw[h2];exact q H G (.refl s)⟩⟩
theorem zXq:CmR X .NotEq gNe:=⟨_,zOG,fun d d' k G H x y Q h s rx ry q=>by
 unfold gNe at h
 obtain⟨k',h',rfl⟩:=Option.map_eq_some_iff.mp h
 obtain⟨h1,h2⟩:=zTY h' rx ry
 exact⟨h1,by rw[h2];exact q H G (.refl s)⟩⟩
theorem zVF {g:D->D->Option Bool}{ρ:List B}{k:Bool}(h:eB2 g fa fb ρ=some k):∃x y,fa ρ=some x/\fb ρ=some y/\g x y=some k:=by
 unfold eB2 at h
 obtain⟨x,h1,h⟩:=Option.bind_eq_some_iff.mp h
 obtain⟨y,h2,h⟩:=Option.bind_eq_some_iff.mp h
 exact⟨x,y,h1,h2,h⟩
theorem cM {t:Tf}{ρ:List B}{d:D}(h:xE t ρ=some d):∃k,t ρ=some k/\d = .bl k:=by
 unfold xE at h
 obtain⟨k,h1,rfl⟩:=Option.map_eq_some_iff.mp h
 exact⟨k,h1,rfl⟩
theorem tD {op:CmpOp}{g:D->D->Option Bool}(hc:CmR X op g)(ha:PF X a fa)(hb:PF X b fb)(hm:behindInMarks op b=false:=by first | exact dO _ | (with_unfolding_all rfl)):PF X (.Compare a [op] [b] pos) (xE (eB2 g fa fb)):=by
 obtain⟨r,ho,hr⟩:=hc
 refine PE.to (zR5 ho ha hb hm) ?_
 rintro σ H Q ⟨G0,H0,G,ρ,d,good,hf,k⟩
 obtain⟨c,hf2,rfl⟩:=cM hf
 obtain⟨x,y,h1,h2,h3⟩:=zVF hf2
 refine⟨G0,H0,G,ρ,_,good,h1,fun u H1 G1 s1 r1=>⟨G0,H0,G1,ρ,_,good.step s1,h2,fun v H2 G2 s2 r2=>?_⟩⟩
 exact hr x y c G2 H2 u v Q h3 s2.sub (r1.mono s2.gg) r2 fun H' G' s3=>k _ _ G' ((s1.trans s2).trans s3) (rep_bl.mpr rfl)
theorem xZ {op:CmpOp}{g:D->D->Option Bool}(hc:CmR X op g)(ha:PF X a fa)(hb:PF X b fb)(hm:behindInMarks op b=false:=by first | exact dO _ | (with_unfolding_all rfl)):PFT X (.Compare a [op] [b] pos) (eB2 g fa fb):=by
 obtain⟨r,ho,hr⟩:=hc
 refine PT.to (dW ho ha hb hm) ?_
 rintro σ H Q ⟨G0,H0,G,ρ,c,good,hf,k⟩
 obtain⟨x,y,h1,h2,h3⟩:=zVF hf
 refine⟨G0,H0,G,ρ,_,good,h1,fun u H1 G1 s1 r1=>⟨G0,H0,G1,ρ,_,good.step s1,h2,fun v H2 G2 s2 r2=>?_⟩⟩
 exact hr x y c G2 H2 u v _ h3 s2.sub (r1.mono s2.gg) r2 fun H' G' s3=>⟨c,rfl,k _ G' ((s1.trans s2).trans s3)⟩
def qN:D->Bool | .non=>true | _=>false
theorem zZl {K:PySem.W.Frag}{G:Hp}{d:D}{v:V}(r:Rep K G d v):decide (v = .non)=qN d:=by
 cases d with
 | non=>rw[rep_non] at r;subst r;rfl
 | bl b=>rw[rep_bl] at r;subst r;simp[qN]
 | int b=>rw[rep_int] at r;subst r;simp[qN]
 | str b=>rw[rep_str] at r;subst r;simp[qN]
 | tup ds=>obtain⟨p,_,rfl,_⟩:=rep_tup.mp r;simp[qN]
 | lst ds=>obtain⟨p,_,rfl,_⟩:=rep_lst.mp r;simp[qN]
 | obj C ns ds=>obtain⟨_,p,_,_,_,rfl,_⟩:=rep_obj.mp r;simp[qN]
 | exc C ns ds=>obtain⟨_,p,_,_,_,rfl,_⟩:=rep_exc.mp r;simp[qN]
def pF:D->D->Option Bool | d,.non=>some (!qN d) | _,_=>none
theorem zXv:CmR X .IsNot pF:=⟨_,zRk,fun d d' k G H x y Q h s rx ry q=>by
 unfold pF at h
 split at h
 · cases h
   refine⟨rep_non.mp ry,?_⟩
   rw[zZl rx];exact q H G (.refl s)
 · cases h⟩
def tB1 (f:Ef):Tf:=fun ρ=>(f ρ).bind fun x=>match x with | .bl k=>some k | _=>none
theorem zYD {f:Ef}{ρ:List B}{k:Bool}(h:tB1 f ρ=some k):f ρ=some (.bl k):=by
 unfold tB1 at h
 obtain⟨x,h1,h⟩:=Option.bind_eq_some_iff.mp h
 split at h
 · cases h;exact h1
 · cases h
theorem xK (ha:PF X a fa)(he:∀whole,isTrue a X.env whole=(do let v ←whole;standAt a.pos;holding [v] (truthy v)):=by intro _;rfl):PFT X a (tB1 fa):=by
 refine PT.to (zP9 ha he) ?_
 rintro σ H Q ⟨G0,H0,G,ρ,c,good,hf,k⟩
 exact⟨G0,H0,G,ρ,_,good,zYD hf,fun u H1 G1 s1 r1=>⟨c,rep_bl.mp r1,k _ G1 s1⟩⟩
def wU (t:Tf):Tf:=fun ρ=>(t ρ).map (!·)
def fB (t u:Tf):Tf:=fun ρ=>(t ρ).bind fun c=>if c=true then u ρ else some false
def sD (t u:Tf):Tf:=fun ρ=>(t ρ).bind fun c=>if c=true then some true else u ρ
theorem uE (ha:PFT X a ta):PFT X (.UnaryOp .Not a pos) (wU ta):=by
 refine PT.to (zPP ha) ?_
 rintro σ H Q ⟨G0,H0,G,ρ,c,good,hf,k⟩
 unfold wU at hf
 obtain⟨c',h1,rfl⟩:=Option.map_eq_some_iff.mp hf
 exact⟨G0,H0,G,ρ,_,good,h1,fun H1 G1 s1=>k _ G1 s1⟩
theorem PW.to {t:TT}{f:Tf}(h:PW X e t)(imp:∀σ H Q,tFT X.K f σ H Q->t σ H Q):PFW X e f:=fun whole pins s σ H Q I q=>h whole pins s σ H Q I (imp σ H Q q)
theorem zYi (ha:PFT X a ta):PFW X (.BoolOp .And [a] pos) ta:=zRu ha
theorem rP (ha:PFT X a ta):PFW X (.BoolOp .Or [a] pos) ta:=zQ1 ha
theorem zVY {rest:List Expr}(ha:PFT X a ta)(hb:PFW X (.BoolOp .And (b::rest) pos) tb):PFW X (.BoolOp .And (a::b::rest) pos) (fB ta tb):=by
 refine PW.to (zQ5 ha hb) ?_
 rintro σ H Q ⟨G0,H0,G,ρ,c,good,hf,k⟩
 unfold fB at hf
 obtain⟨c',h1,hf⟩:=Option.bind_eq_some_iff.mp hf
 refine⟨G0,H0,G,ρ,_,good,h1,fun H1 G1 s1=>?_⟩
 split at hf
 · rename_i h;rw[if_pos h];exact⟨G0,H0,G1,ρ,c,good.step s1,hf,fun H2 G2 s2=>k _ G2 (s1.trans s2)⟩
 · rename_i h;rw[if_neg h];cases hf;exact k _ G1 s1
theorem oZ {rest:List Expr}(ha:PFT X a ta)(hb:PFW X (.BoolOp .Or (b::rest) pos) tb):PFW X (.BoolOp .Or (a::b::rest) pos) (sD ta tb):=by
 refine PW.to (zOM ha hb) ?_
 rintro σ H Q ⟨G0,H0,G,ρ,c,good,hf,k⟩
 unfold sD at hf
 obtain⟨c',h1,hf⟩:=Option.bind_eq_some_iff.mp hf
 refine⟨G0,H0,G,ρ,_,good,h1,fun H1 G1 s1=>?_⟩
 split at hf
 · rename_i h;rw[if_pos h];cases hf;exact k _ G1 s1
 · rename_i h;rw[if_neg h];exact⟨G0,H0,G1,ρ,c,good.step s1,hf,fun H2 G2 s2=>k _ G2 (s1.trans s2)⟩
theorem bB (h:PFW X e ta):PFT X e ta:=h.pt
theorem zWL {op:BoolOp}(h:PF X a fa):PF X (.BoolOp op [a] pos) fa:=zQh h
def mJ (fa fb:Ef):Ef:=fun ρ=>(tB1 fa ρ).bind fun c=>if c=true then fb ρ else some (.bl false)
theorem zZh {rest:List Expr}(ha:PF X a fa)(hb:PF X (.BoolOp .And (b::rest) pos) fb):PF X (.BoolOp .And (a::b::rest) pos) (mJ fa fb):=by
 refine PE.to (zPz ha hb) ?_
 rintro σ H Q ⟨G0,H0,G,ρ,d,good,hf,k⟩
 obtain⟨c,h1,hf⟩:=Option.bind_eq_some_iff.mp hf
 refine⟨G0,H0,G,ρ,_,good,zYD h1,fun u H1 G1 s1 r1=>⟨c,rep_bl.mp r1,?_⟩⟩
 split at hf
 · rename_i h;rw[if_pos h];exact⟨G0,H0,G1,ρ,d,good.step s1,hf,fun v H2 G2 s2 r2=>k _ _ G2 (s1.trans s2) r2⟩
 · rename_i h;rw[if_neg h];cases hf;exact k _ _ G1 s1 (rep_bl.mpr rfl)
theorem zP2 (ha:PF X a fa):PF X (.UnaryOp .Not a pos) (xE (wU (tB1 fa))):=by
 refine PE.to (zQ0 ha) ?_
 rintro σ H Q ⟨G0,H0,G,ρ,d,good,hf,k⟩
 obtain⟨c,hf2,rfl⟩:=cM hf
 unfold wU at hf2
 obtain⟨c',h1,rfl⟩:=Option.map_eq_some_iff.mp hf2
 exact⟨G0,H0,G,ρ,_,good,zYD h1,fun u H1 G1 s1 r1=>⟨c',rep_bl.mp r1,k _ _ G1 s1 (rep_bl.mpr rfl)⟩⟩
def eIf (t:Tf)(fa fb:Ef):Ef:=fun ρ=>(t ρ).bind fun c=>if c=true then fa ρ else fb ρ
theorem zVr (ht:PFT X c ta)(ha:PF X a fa)(hb:PF X b fb):PF X (.IfExp c a b pos) (eIf ta fa fb):=by
 refine PE.to (zS0 ht ha hb) ?_
 rintro σ H Q ⟨G0,H0,G,ρ,d,good,hf,k⟩
 unfold eIf at hf
 obtain⟨c',h1,hf⟩:=Option.bind_eq_some_iff.mp hf
 refine⟨G0,H0,G,ρ,_,good,h1,fun H1 G1 s1=>?_⟩
 split at hf
 · rename_i h;rw[if_pos h];exact⟨G0,H0,G1,ρ,d,good.step s1,hf,fun v H2 G2 s2 r2=>k _ _ G2 (s1.trans s2) r2⟩
 · rename_i h;rw[if_neg h];exact⟨G0,H0,G1,ρ,d,good.step s1,hf,fun v H2 G2 s2 r2=>k _ _ G2 (s1.trans s2) r2⟩
def zT:Lf:=fun _=>some []
def zZ (f:Ef)(r:Lf):Lf:=fun ρ=>(f ρ).bind fun d=>(r ρ).map fun ds=>d::ds
theorem zW:PFA X [] zT:=by
 refine PA.to yI ?_
 rintro σ H Q ⟨G0,H0,G,ρ,d,good,hf,k⟩
 cases hf
 exact k [] H G (.refl good.sub) (reps_nil.mpr rfl)
theorem gU {f:Ef}{r:Lf}{ρ:List B}{ds:List D}(h:zZ f r ρ=some ds):∃d dr,f ρ=some d/\r ρ=some dr/\ds=d::dr:=by
 unfold zZ at h
 obtain⟨d,h1,h⟩:=Option.bind_eq_some_iff.mp h
 obtain⟨dr,h2,rfl⟩:=Option.map_eq_some_iff.mp h
 exact⟨d,dr,h1,h2,rfl⟩
theorem zY (ha:PF X e fa)(hr:PFA X es ga)(hs:starEach (e::es) X.env=(false,eval e X.env)::starEach es X.env:=by rfl):PFA X (e::es) (zZ fa ga):=by
 refine PA.to (yW ha hr hs) ?_
 rintro σ H Q ⟨G0,H0,G,ρ,ds,good,hf,k⟩
 obtain⟨d,dr,h1,h2,rfl⟩:=gU hf
 refine⟨G0,H0,G,ρ,_,good,h1,fun u H1 G1 s1 r1=>⟨G0,H0,G1,ρ,_,good.step s1,h2,fun v H2 G2 s2 r2=>?_⟩⟩
 exact k _ _ G2 (s1.trans s2) (reps_cons.mpr ⟨u,v,rfl,r1.mono s2.gg,r2⟩)
abbrev lim:Nat:=100000
theorem wD {n:Nat}(h:n<=lim):n < sizeLine:=Nat.lt_of_le_of_lt h (by decide)
def okL (ds:List D):Option (List D):=if ds.length<=lim then some ds else none
theorem iF {ds es:List D}(h:okL ds=some es):es=ds/\ds.length<=lim:=by
 unfold okL at h
 split at h
 · rename_i q;cases h;exact⟨rfl,q⟩
 · cases h
def zK (g:Lf):Ef:=fun ρ=>((g ρ).bind okL).map .tup
theorem zI {k:Nat}(h:PFA X es ga):PF X (.Tuple es k pos) (zK ga):=by
 refine PE.to (zQy h) ?_
 rintro σ H Q ⟨G0,H0,G,ρ,d,good,hf,k⟩
 unfold zK at hf
 obtain⟨ds,h1,rfl⟩:=Option.map_eq_some_iff.mp hf
 obtain⟨es,h1,h2⟩:=Option.bind_eq_some_iff.mp h1
 obtain⟨rfl,h3⟩:=iF h2
 refine⟨G0,H0,G,ρ,_,good,h1,fun vs H1 G1 s1 r1=>⟨by rw[←r1.length];exact Nat.le_of_lt (wD h3),fun p hp=>?_⟩⟩
 have s2:=Step.laid (o:=.tup vs) s1.sub hp
 exact k _ _ _ (s1.trans s2) (rep_tup.mpr ⟨p,vs,rfl,.of zD,r1.mono s2.gg⟩)
def yY (g:Lf):Lf:=fun ρ=>(g ρ).bind okL
theorem yD (h:PFA X es ga):PFr X (.List es pos) (yY ga):=by
 refine PE.toR (zSj h) ?_
 rintro σ H Q ⟨G0,H0,G,ρ,d,good,hf,k⟩
 unfold yY at hf
 obtain⟨es,h1,h2⟩:=Option.bind_eq_some_iff.mp hf
 obtain⟨rfl,h3⟩:=iF h2
 refine⟨G0,H0,G,ρ,_,good,h1,fun vs H1 G1 s1 r1=>⟨by rw[←r1.length];exact Nat.le_of_lt (wD h3),fun p hp=>?_⟩⟩
 exact k p vs _ G1 (s1.trans (Step.own s1.sub hp)) (s1.hh.free hp) zD (s1.sub.free hp) r1
def atD (x y:D):Option D:=match x,y with
 | .tup ds,.int i=>atI ds i
 | .lst ds,.int i=>atI ds i
 | .str z,.int i=>if z.length<=lim then(atI z.cps.toList i).map fun c=>.str ⟨#[c]⟩ else none
 | _,_=>none
def eIx (fa fb:Ef):Ef:=fun ρ=>(fa ρ).bind fun x=>(fb ρ).bind fun y=>atD x y
theorem zXy {K:PySem.W.Frag}{G:Hp}{ds:List D}{vs:List V}{i:Int}{d:D}(r:Reps K G ds vs)(h:atI ds i=some d):∃v,atI vs i=some v/\Rep K G d v:=by
 unfold atI at h ⊢
 rw[r.length] at h
 obtain⟨j,h1,h2⟩:=Option.bind_eq_some_iff.mp h
 obtain⟨v,h3,h4⟩:=r.get h2
 exact⟨v,by rw[h1];exact h3,h4⟩
theorem xN (ha:PF X a fa)(hb:PF X b fb)(hs:zYO b:=by exact fun _ _=>rfl):PF X (.Subscript a b pos) (eIx fa fb):=by
 refine PE.to (zQK zPK ha hb hs) ?_
 rintro σ H Q ⟨G0,H0,G,ρ,d,good,hf,k⟩
 unfold eIx at hf
 obtain⟨x,h1,hf⟩:=Option.bind_eq_some_iff.mp hf
 obtain⟨y,h2,hf⟩:=Option.bind_eq_some_iff.mp hf
 refine⟨G0,H0,G,ρ,_,good,h1,fun u H1 G1 s1 r1=>⟨G0,H0,G1,ρ,_,good.step s1,h2,fun v H2 G2 s2 r2=>?_⟩⟩
 have r1:=r1.mono s2.gg
 have s3:=s1.trans s2
 unfold atD at hf
 split at hf
 · obtain⟨p,vs,rfl,q,rs⟩:=rep_tup.mp r1
   obtain⟨w,e,rw'⟩:=zXy rs hf
   exact .inr (.inl ⟨p,vs,_,w,rfl,rep_int.mp r2,s2.sub.tup q,e,k _ _ G2 s3 rw'⟩)
 · obtain⟨p,vs,rfl,q,rs⟩:=rep_lst.mp r1
   obtain⟨w,e,rw'⟩:=zXy rs hf
   exact .inl ⟨p,vs,_,w,rfl,rep_int.mp r2,s2.sub.seq q,e,k _ _ G2 s3 rw'⟩
 · split at hf
   · rename_i hz
     obtain⟨c,e,rfl⟩:=Option.map_eq_some_iff.mp hf
     exact .inr (.inr ⟨_,_,c,rep_str.mp r1,rep_int.mp r2,Nat.le_of_lt (wD hz),e,k _ _ G2 s3 (rep_str.mpr rfl)⟩)
   · cases hf
 · cases hf
end
end L2
namespace L2
open PySem PySem.Spec PyProof.Rows
inductive Out where
 | nx (ρ:List B) | rt (d:D) | rl (ds:List D) | bk (ρ:List B) | ct (ρ:List B)
 deriving Inhabited
abbrev Sf:=List B->Option Out
def Wants (K:PySem.W.Frag)(G0 H0 G:Hp)(D:Ends):Out->Prop
 | .nx ρ'=>∀σ' H' G',Same G G'->Good K G0 H0 G' H' σ' ρ'->D.nx σ' H'
 | .bk ρ'=>∀σ' H' G',Same G G'->Good K G0 H0 G' H' σ' ρ'->D.bk σ' H'
 | .ct ρ'=>∀σ' H' G',Same G G'->Good K G0 H0 G' H' σ' ρ'->D.ct σ' H'
 | .rt d=>∀v H' G',Step G0 H0 G' H'->Rep K G' d v->D.rt v H'
 | .rl ds=>∀a vs H' G',Step G0 H0 G' H'->H0 a=none->H' a=some (.lst vs)->G' a=none->Reps K G' ds vs->D.rt (.ref a) H'
def tFS (K:PySem.W.Frag)(f:Sf):TS:=fun D σ H=>∃G0 H0 G ρ o,Good K G0 H0 G H σ ρ/\f ρ=some o/\Wants K G0 H0 G D o
def PFS (X:Cx)(st:Stmt)(f:Sf):Prop:=PS X st (tFS X.K f)
def bF (X:Cx)(sts:List Stmt)(f:Sf):Prop:=PSs X sts (tFS X.K f)
theorem PS.to {X:Cx}{st:Stmt}{t:TS}{f:Sf}(h:PS X st t)(imp:∀D σ H,tFS X.K f D σ H->t D σ H):PFS X st f:=fun pins s σ H D I q=>h pins s σ H D I (imp D σ H q)
theorem PSs.to {X:Cx}{st:List Stmt}{t:TS}{f:Sf}(h:PSs X st t)(imp:∀D σ H,tFS X.K f D σ H->t D σ H):bF X st f:=fun pins s σ H D I q=>h pins s σ H D I (imp D σ H q)
theorem Wants.mono {K:PySem.W.Frag}{G0 H0 G G':Hp}{D:Ends}{o:Out}(h:Wants K G0 H0 G D o)(s:Same G G'):Wants K G0 H0 G' D o:=by
 cases o with
 | nx ρ=>exact fun σ' H' G2 s2 g=>h σ' H' G2 (s.trans s2) g
 | bk ρ=>exact fun σ' H' G2 s2 g=>h σ' H' G2 (s.trans s2) g
 | ct ρ=>exact fun σ' H' G2 s2 g=>h σ' H' G2 (s.trans s2) g
 | rt d=>exact h
 | rl ds=>exact h
theorem wZ {ρ:List B}{i j:Nat}{d:D}{ds:List D}(h:(ρ.set i (.fz d))[j]?=some (.ow ds)):j≠i/\ρ[j]?=some (.ow ds):=by
 by_cases e:j=i
 · subst e
   rw[List.getElem?_set] at h
   split at h
   · split at h<;>cases h
   · rename_i z;exact absurd rfl z
 · rw[List.getElem?_set_ne (Ne.symm e)] at h
   exact⟨e,h⟩
theorem fZ {ρ:List B}{i j:Nat}{d:D}{ds:List (D×D)}(h:(ρ.set i (.fz d))[j]?=some (.od ds)):j≠i/\ρ[j]?=some (.od ds):=by
 by_cases e:j=i
 · subst e
   rw[List.getElem?_set] at h
   split at h
   · split at h<;>cases h
   · rename_i z;exact absurd rfl z
 · rw[List.getElem?_set_ne (Ne.symm e)] at h
   exact⟨e,h⟩
theorem Good.setF {K:PySem.W.Frag}{G0 H0 G H:Hp}{σ:St}{ρ:List B}{v:V}{d:D}(g:Good K G0 H0 G H σ ρ)(i:Nat)(r:Rep K G d v):Good K G0 H0 G H (σ.set i (some v)) (ρ.set i (.fz d)):=by
 refine⟨g.st,Paired.set (.fz r) i g.vals,fun j k a ds es h1 h2 h3 h4=>?_⟩
 obtain⟨n1,e1⟩:=wZ h1
 obtain⟨n2,e2⟩:=wZ h2
 rw[List.getElem?_set_ne (Ne.symm n1)] at h3
 rw[List.getElem?_set_ne (Ne.symm n2)] at h4
 exact g.apart j k a ds es e1 e2 h3 h4
theorem Good.addr {K:PySem.W.Frag}{G0 H0 G H:Hp}{σ:St}{ρ:List B}{i:Nat}{ds:List D}(g:Good K G0 H0 G H σ ρ)(h:ρ[i]?=some (.ow ds)):∃a vs,σ[i]?=some (some (.ref a))/\H a=some (.lst vs)/\G a=none/\H0 a=none/\Reps K G ds vs:=by
 obtain⟨o,e,r⟩:=Paired.get g.vals h
 cases r with
 | ow h1 h2 h3 h4=>exact⟨_,_,e,h1,h2,h3,h4⟩
theorem Good.setO {K:PySem.W.Frag}{G0 H0 G H:Hp}{σ:St}{ρ:List B}{a:Addr}{vs:List V}{ds:List D}(g:Good K G0 H0 G H σ ρ)(i:Nat)(ha:H a=some (.lst vs))(ga:G a=none)(h0:H0 a=none)(rs:Reps K G ds vs)
   (fr:∀(j:Nat) (es:List D),ρ[j]?=some (B.ow es)->σ[j]?≠some (some (V.ref a))):Good K G0 H0 G H (σ.set i (some (.ref a))) (ρ.set i (.ow ds)):=by
 have hl:σ.length=ρ.length:=Paired.length g.vals
 refine⟨g.st,Paired.set (.ow ha ga h0 rs) i g.vals,fun j k b d1 d2 h1 h2 h3 h4=>?_⟩
 by_cases hj:j=i
 · by_cases hk:k=i
   · rw[hj,hk]
   · subst hj
     rw[List.getElem?_set_ne (Ne.symm hk)] at h2 h4
     have hlt:j < σ.length:=by
       have:=(List.getElem?_eq_some_iff.mp h3).1
       rwa[List.length_set] at this
     rw[List.getElem?_set_self hlt] at h3
     cases h3
     exact absurd h4 (fr k d2 h2)
 · rw[List.getElem?_set_ne (Ne.symm hj)] at h1 h3
   by_cases hk:k=i
   · subst hk
     have hlt:k < σ.length:=by
       have:=(List.getElem?_eq_some_iff.mp h4).1
       rwa[List.length_set] at this
     rw[List.getElem?_set_self hlt] at h4
     cases h4
     exact absurd h3 (fr j d1 h1)
   · rw[List.getElem?_set_ne (Ne.symm hk)] at h2 h4
     exact g.apart j k b d1 d2 h1 h2 h3 h4
theorem Good.wr {K:PySem.W.Frag}{G0 H0 G H:Hp}{σ:St}{ρ:List B}{a:Addr}{us:List V}{ds es:List D}{i:Nat}(g:Good K G0 H0 G H σ ρ)(hi:ρ[i]?=some (.ow ds))(hs:σ[i]?=some (some (.ref a)))(rs:Reps K G es us) :
   Good K G0 H0 G (upd H a (.lst us)) σ (ρ.set i (.ow es)):=by
 obtain⟨a',vs,h1,h2,h3,h4,_⟩:=g.addr hi
 rw[hs] at h1;cases h1
 have st:Step G0 H0 G (upd H a (.lst us)):=by
   refine⟨fun b o e=>?_,g.st.gg,fun b o e=>?_,g.st.new⟩
   · rw[yX (yC e h4)];exact g.st.hh b o e
   · rw[yX (yC e h3)];exact g.st.sub b o e
 have hl:σ.length=ρ.length:=Paired.length g.vals
 have hil:i < ρ.length:=(List.getElem?_eq_some_iff.mp hi).1
 have key:∀(l:List (Option V)) (r:List B) (n:Nat),Paired (RB K H0 G H) l r->(∀j es,n+j≠i->r[j]?=some (.ow es)->l[j]?≠some (some (.ref a)))->(∀j,n+j=i->l[j]?=some (some (.ref a))) ->
     Paired (RB K H0 G (upd H a (.lst us))) l (if i < n then r else r.set (i - n) (.ow es)):=by
   intro l r n p
   induction p generalizing n with
   | nil=>intro _ _;split<;>exact .nil
   | @cons o b l' r' q t ih =>
     intro hne hat
     have tl:=ih (n+1) (fun j es z e=>by have:=hne (j+1) es (by omega) (by simpa using e);simpa using this) (fun j z=>by have:=hat (j+1) (by omega);simpa using this)
     have keepq:(∀es,b = .ow es->o≠some (.ref a))->RB K H0 G (upd H a (.lst us)) o b:=fun hb=>by
       cases q with
       | no=>exact .no
       | fz r=>exact .fz r
       | @ow c vs ds' c1 c2 c3 c4 =>
         have:c≠a:=fun z=>hb _ rfl (by rw[z])
         exact .ow (by rw[yX this];exact c1) c2 c3 c4
       | @od c _ _ _ _ c1 c2 c3 c4 c5 c6 =>
         have:c≠a:=fun z=>by rw[z,h2] at c1;cases c1
         exact .od (by rw[yX this];exact c1) c2 c3 c4 c5 c6
     by_cases h1:i < n
     · rw[if_pos h1]
       rw[if_pos (by omega)] at tl
       refine .cons (keepq fun es e z=>?_) tl
       exact hne 0 es (by omega) (by simp[e]) (by simp[z])
     · rw[if_neg h1]
       by_cases h2:i=n
       · subst h2
         rw[if_pos (by omega)] at tl
         have:=hat 0 (by omega)
         simp at this
         subst this
         rw[Nat.sub_self]
         exact .cons (.ow zD h3 h4 rs) tl
       · rw[if_neg (by omega)] at tl
         have e:i - n=(i - (n+1))+1:=by omega
         rw[e]
         refine .cons (keepq fun es e z=>?_) tl
         exact hne 0 es (by omega) (by simp[e]) (by simp[z])
 have vals:=key σ ρ 0 g.vals (fun j es' z e w=>by
   have:=g.apart j i a es' ds e hi w hs
   omega) (fun j z=>by rw[show j=i by omega];exact hs)
 rw[if_neg (Nat.not_lt_zero _),Nat.sub_zero] at vals
 refine⟨st,vals,fun j k b d1 d2 e1 e2 e3 e4=>?_⟩
 have un:∀(j:Nat) (d1:List D),(ρ.set i (B.ow es))[j]?=some (B.ow d1)->∃d,ρ[j]?=some (B.ow d):=fun j d1 e=>by
   by_cases hj:j=i
   · subst hj;exact⟨ds,hi⟩
   · rw[List.getElem?_set_ne (Ne.symm hj)] at e;exact⟨d1,e⟩
 obtain⟨c1,f1⟩:=un j d1 e1
 obtain⟨c2,f2⟩:=un k d2 e2
 exact g.apart j k b c1 c2 f1 f2 e3 e4
section
variable {X:Cx} {a b c e tg:Expr} {es:List Expr} {fa fb:Ef} {ga:Lf} {ta:Tf} {pos:Pos} {st:Stmt} {sts rest:List Stmt} {f g:Sf}
def zH (f g:Sf):Sf:=fun ρ=>(f ρ).bind fun o=>match o with | .nx ρ'=>g ρ' | o=>some o
def yE:Sf:=fun ρ=>some (.nx ρ)
theorem yR:bF X [] yE:=by
 refine PSs.to zYK ?_
 rintro D σ H ⟨G0,H0,G,ρ,o,good,hf,k⟩
 cases hf
 exact k σ H G (Same.refl _) good
theorem zR (h:PFS X st f):bF X [st] f:=zQY h
theorem zU (h1:PFS X st f)(h2:bF X rest g):bF X (st::rest) (zH f g):=by
 refine PSs.to (hV h1 h2) ?_
 rintro D σ H ⟨G0,H0,G,ρ,o,good,hf,k⟩
 unfold zH at hf
 obtain⟨o1,h1,hf⟩:=Option.bind_eq_some_iff.mp hf
 refine⟨G0,H0,G,ρ,o1,good,h1,?_⟩
 cases o1 with
 | nx ρ'=>exact fun σ' H' G' s g'=>⟨G0,H0,G',ρ',o,g',hf,k.mono s⟩
 | rt d=>cases hf;exact k
 | rl d=>cases hf;exact k
 | bk d=>cases hf;exact k
 | ct d=>cases hf;exact k
def yG (f:Ef):Sf:=fun ρ=>(f ρ).map .rt
theorem z0 (h:PF X e fa):PFS X (.Return (some e) pos) (yG fa):=by
 refine PS.to (zWU h) ?_
 rintro D σ H ⟨G0,H0,G,ρ,o,good,hf,k⟩
 unfold yG at hf
 obtain⟨d,h1,rfl⟩:=Option.map_eq_some_iff.mp hf
 exact⟨G0,H0,G,ρ,d,good,h1,fun v H' G' s r=>k v H' G' (good.st.trans s) r⟩
def bU (f:Lf):Sf:=fun ρ=>(f ρ).map .rl
theorem zZf (h:PFr X e ga):PFS X (.Return (some e) pos) (bU ga):=by
 refine PS.to (zWU h) ?_
 rintro D σ H ⟨G0,H0,G,ρ,o,good,hf,k⟩
 unfold bU at hf
 obtain⟨d,h1,rfl⟩:=Option.map_eq_some_iff.mp hf
 exact⟨G0,H0,G,ρ,d,good,h1,fun p vs H' G' s hn hp gp rs=>k p vs H' G' (good.st.trans s) (good.st.hh.free hn) hp gp rs⟩
def eQ (i:Nat):Sf:=fun ρ=>match ρ[i]? with | some (.ow ds)=>some (.rl ds) | _=>none
theorem iP (i:Nat){x:Str}{pos':Pos}(hN:X.N[i]?=some x:=by rfl)(hv:Vis X.env.scope x:=by first | exact Or.inl rfl | exact Or.inr (Or.inl rfl) | exact Or.inr (Or.inr rfl))(hd:(x==("__debug__":Str))=false:=by decide)(hcd:(x==("__classdict__":Str))=false:=by decide) :
   PFS X (.Return (some (.Name x pos')) pos) (eQ i):=by
 refine PS.to (zWU (qV hN hv hd hcd)) ?_
 rintro D σ H ⟨G0,H0,G,ρ,o,good,hf,k⟩
 unfold eQ at hf
 split at hf
 · rename_i ds e
   cases hf
   obtain⟨p,vs,h1,h2,h3,h4,h5⟩:=good.addr e
   exact⟨.ref p,h1,k p vs H G good.st h4 h2 h3 h5⟩
 · cases hf
def sIf (t:Tf)(f g:Sf):Sf:=fun ρ=>(t ρ).bind fun c=>if c=true then f ρ else g ρ
theorem yA {sa sb:List Stmt}(ht:PFT X c ta)(ha:bF X sa f)(hb:bF X sb g):PFS X (.If c sa sb pos) (sIf ta f g):=by
 refine PS.to (zOJ ht ha hb) ?_
 rintro D σ H ⟨G0,H0,G,ρ,o,good,hf,k⟩
 unfold sIf at hf
 obtain⟨c',h1,hf⟩:=Option.bind_eq_some_iff.mp hf
 refine⟨G0,H0,G,ρ,_,good,h1,fun H1 G1 s1=>?_⟩
 split at hf
 · rename_i h;rw[if_pos h];exact⟨G0,H0,G1,ρ,o,good.step s1,hf,k.mono s1.gg⟩
 · rename_i h;rw[if_neg h];exact⟨G0,H0,G1,ρ,o,good.step s1,hf,k.mono s1.gg⟩
abbrev Gf:=D->List B->Option (List B)
def tFG (K:PySem.W.Frag)(g:Gf):TG:=fun v σ H Q=>∃G0 H0 G ρ d ρ',Good K G0 H0 G H σ ρ/\Rep K G d v/\g d ρ=some ρ'/\∀σ' H' G',Step G H G' H'->Good K G0 H0 G' H' σ' ρ'->Q σ' H'
def PFG (X:Cx)(tg:Expr)(g:Gf):Prop:=PG X tg (tFG X.K g)
abbrev Gfs:=List D->List B->Option (List B)
def zNQ (K:PySem.W.Frag)(g:Gfs):TGs:=fun vs σ H Q=>∃G0 H0 G ρ ds ρ',Good K G0 H0 G H σ ρ/\Reps K G ds vs/\g ds ρ=some ρ'/\∀σ' H' G',Step G H G' H'->Good K G0 H0 G' H' σ' ρ'->Q σ' H'
def zRs (X:Cx)(tgs:List Expr)(g:Gfs):Prop:=PGs X tgs (zNQ X.K g)
def gN (i:Nat):Gf:=fun d ρ=>some (ρ.set i (.fz d))
theorem xP (i:Nat){x:Str}(hN:X.N.Nodup)(hi:X.N[i]?=some x:=by rfl)(hx:Loc X.env.scope x:=by first | exact .inl rfl | exact .inr rfl)(hf:X.fn x=true∨X.env.scope.names.lookup x=some .local:=by first | exact .inl rfl | exact .inr rfl):PFG X (.Name x pos) (gN i):=by
 have h:=zRm (pos:=pos) hN hi hx hf
 intro pins s σ H v u Q I r q
 refine h pins s σ H v u Q I r ?_
 obtain⟨G0,H0,G,ρ,d,ρ',good,rd,hf,k⟩:=q
 cases hf
 exact k _ H G (.refl good.sub) (good.setF i rd)
def yH:Gfs:=fun ds ρ=>match ds with | []=>some ρ | _=>none
def zP (g:Gf)(r:Gfs):Gfs:=fun ds ρ=>match ds with | d::dr=>(g d ρ).bind fun ρ'=>r dr ρ' | _=>none
theorem xR:zRs X [] yH:=by
 intro pins s σ H vs us Q I r q
 refine zRW pins s σ H vs us Q I r ?_
 obtain⟨G0,H0,G,ρ,ds,ρ',good,rd,hf,k⟩:=q
 unfold yH at hf
 split at hf
 · cases hf
   rw[reps_nil] at rd
   exact⟨rd,k _ H G (.refl good.sub) good⟩
 · cases hf
theorem zG {g:Gf}{r:Gfs}(h1:PFG X e g)(h2:zRs X es r)(hs:(assignEach (e::es) X.env).map (·.2)=assign e X.env::(assignEach es X.env).map (·.2):=by rfl):zRs X (e::es) (zP g r):=by
 intro pins s σ H vs us Q I rv q
 refine zS6 h1 h2 hs pins s σ H vs us Q I rv ?_
 obtain⟨G0,H0,G,ρ,ds,ρ',good,rd,hf,k⟩:=q
 unfold zP at hf
 split at hf
 · rename_i d dr
   obtain⟨ρ1,e1,e2⟩:=Option.bind_eq_some_iff.mp hf
   obtain⟨v,vr,rfl,r1,r2⟩:=reps_cons.mp rd
   exact⟨v,vr,rfl,G0,H0,G,ρ,d,ρ1,good,r1,e1,fun σ' H' G' s' g'=>⟨G0,H0,G',ρ1,dr,ρ',g',r2.mono s'.gg,e2,fun σ2 H2 G2 s2 g2=>k σ2 H2 G2 (s'.trans s2) g2⟩⟩
 · cases hf
def gT (r:Gfs):Gf:=fun d ρ=>match d with | .tup ds=>r ds ρ | _=>none
theorem oN {r:Gfs}{k:Nat}(n:Nat)(hc:X.calm=true)(h:zRs X es r)(hr:∀ds ρ ρ',r ds ρ=some ρ'->ds.length=n)(hn:(assignEach es X.env).length=n:=by rfl)(hst:(assignEach es X.env).findIdx? (·.1)=none:=by rfl):PFG X (.Tuple es k pos) (gT r):=by
 have h:=zPv (pos:=pos) (k:=k) hc h hn hst
 intro pins s σ H v u Q I rv q
 refine h pins s σ H v u Q I rv ?_
 obtain⟨G0,H0,G,ρ,d,ρ',good,rd,hf,k⟩:=q
 unfold gT at hf
 split at hf
 · obtain⟨p,vs,rfl,h1,h2⟩:=rep_tup.mp rd
   exact⟨p,vs,rfl,good.sub.tup h1,by rw[←h2.length];exact hr _ _ _ hf,G0,H0,G,ρ,_,ρ',good,h2,hf,k⟩
 · cases hf
theorem yT {g:Gf}{r:Gfs}{n:Nat}(h:∀ds ρ ρ',r ds ρ=some ρ'->ds.length=n):∀ds ρ ρ',zP g r ds ρ=some ρ'->ds.length=n+1:=by
 intro ds ρ ρ' q
 unfold zP at q
 split at q
 · obtain⟨ρ1,e1,e2⟩:=Option.bind_eq_some_iff.mp q
   rw[List.length_cons,h _ _ _ e2]
 · cases q
theorem xA:∀ds ρ ρ',yH ds ρ=some ρ'->ds.length=0:=by
 intro ds ρ ρ' q
 unfold yH at q
 split at q
 · rfl
 · cases q
def bT (ρ:List B):Prop:=(∀(j:Nat) (es:List D),ρ[j]?≠some (B.ow es))/\∀(j:Nat) (ks:List (D×D)),ρ[j]?≠some (B.od ks)
def zUj (g:Gf):Prop:=∀d ρ ρ',g d ρ=some ρ'->bT ρ->bT ρ'
def zVJ (g:Gfs):Prop:=∀d ρ ρ',g d ρ=some ρ'->bT ρ->bT ρ'
theorem vT (i:Nat):zUj (gN i):=fun d ρ ρ' h n=>by
 cases h
 exact⟨fun j es e=>n.1 j es (wZ e).2,fun j ks e=>n.2 j ks (fZ e).2⟩
theorem tT:zVJ yH:=fun d ρ ρ' h n=>by
 unfold yH at h
 split at h
 · cases h;exact n
 · cases h
theorem xV {g:Gf}{r:Gfs}(h1:zUj g)(h2:zVJ r):zVJ (zP g r):=fun d ρ ρ' h n=>by
 unfold zP at h
 split at h
 · obtain⟨ρ1,e1,e2⟩:=Option.bind_eq_some_iff.mp h
   exact h2 _ _ _ e2 (h1 _ _ _ e1 n)
 · cases h
theorem cO {r:Gfs}(h:zVJ r):zUj (gT r):=fun d ρ ρ' q n=>by
 unfold gT at q
 split at q
 · exact h _ _ _ q n
 · cases q
def rT (f:Ef)(g:Gf):Sf:=fun ρ=>(f ρ).bind fun d=>(g d ρ).map .nx
theorem zTb {K:PySem.W.Frag}{t:TE}{f:Ef}{g:Gf}(imp:∀σ H Q,tF K f σ H Q->t σ H Q){D:Ends}{σ:St}{H:Hp}(h:tFS K (rT f g) D σ H):zUC t (tFG K g) D σ H:=by
 obtain⟨G0,H0,G,ρ,o,good,hf,k⟩:=h
 unfold rT at hf
 obtain⟨d,h1,hf⟩:=Option.bind_eq_some_iff.mp hf
 obtain⟨ρ',h2,rfl⟩:=Option.map_eq_some_iff.mp hf
 exact imp _ _ _ ⟨G0,H0,G,ρ,d,good,h1,fun v H' G' s r=>⟨G0,H0,G',ρ,d,ρ',good.step s,r,h2,fun σ2 H2 G2 s2 g2=>k σ2 H2 G2 (s.gg.trans s2.gg) g2⟩⟩
theorem nL {g:Gf}(he:PF X e fa)(hg:PFG X tg g)(hs:swapsWithSole [tg] e pos.line X.env=pure false:=by rfl)(hw:swappedStores [tg] e X.env=pure none:=by rfl)(h1:(assignEach [tg] X.env).map (·.2)=[assign tg X.env]:=by rfl) :
   PFS X (.Assign [tg] e pos) (rT fa g):=PS.to (zWv he hg hs hw h1) fun D σ H h=>zTb (fun _ _ _ q=>q) h
def yZ (i:Nat)(f:Ef):Sf:=fun ρ=>(f ρ).map fun d=>.nx (ρ.set i (.fz d))
theorem zUg {K:PySem.W.Frag}{t:TE}{f:Ef}{i:Nat}(imp:∀σ H Q,tF K f σ H Q->t σ H Q){D:Ends}{σ:St}{H:Hp}(h:tFS K (yZ i f) D σ H):zUC t (zXT i) D σ H:=by
 obtain⟨G0,H0,G,ρ,o,good,hf,k⟩:=h
 unfold yZ at hf
 obtain⟨d,h1,rfl⟩:=Option.map_eq_some_iff.mp hf
 exact imp _ _ _ ⟨G0,H0,G,ρ,d,good,h1,fun v H' G' s r=>k _ H' G' s.gg ((good.step s).setF i r)⟩
theorem zA (i:Nat){x:Str}{pos':Pos}(hN:X.N.Nodup)(he:PF X e fa)(hi:X.N[i]?=some x:=by rfl)(hx:Loc X.env.scope x:=by first | exact .inl rfl | exact .inr rfl)(hs:swapsWith e (some (.Name x pos')) pos.line X.env=pure false:=by rfl)
   (hf:X.fn x=true∨X.env.scope.names.lookup x=some .local:=by first | exact .inl rfl | exact .inr rfl):PFS X (.Assign [.Name x pos'] e pos) (yZ i fa) :=
 PS.to (zY1 hN hi hx he hs hf) fun D σ H h=>zUg (fun _ _ _ q=>q) h
def xC (i:Nat)(f:Lf):Sf:=fun ρ=>(f ρ).map fun ds=>.nx (ρ.set i (.ow ds))
theorem zX1 {K:PySem.W.Frag}{t:TE}{f:Lf}{i:Nat}(imp:∀σ H Q,tFr K f σ H Q->t σ H Q){D:Ends}{σ:St}{H:Hp}(h:tFS K (xC i f) D σ H):zUC t (zXT i) D σ H:=by
 obtain⟨G0,H0,G,ρ,o,good,hf,k⟩:=h
 unfold xC at hf
 obtain⟨ds,h1,rfl⟩:=Option.map_eq_some_iff.mp hf
 refine imp _ _ _ ⟨G0,H0,G,ρ,ds,good,h1,fun p vs H' G' s hn hp gp rs=>?_⟩
 refine k _ H' G' s.gg ((good.step s).setO i hp gp (good.st.hh.free hn) rs fun j es e z=>?_)
 obtain⟨q,us,e1,e2,_⟩:=good.addr e
 rw[e1] at z;cases z
 rw[hn] at e2;cases e2
theorem tN (i:Nat){x:Str}{pos':Pos}(hN:X.N.Nodup)(he:PFr X e ga)(hi:X.N[i]?=some x:=by rfl)(hx:Loc X.env.scope x:=by first | exact .inl rfl | exact .inr rfl)(hs:swapsWith e (some (.Name x pos')) pos.line X.env=pure false:=by rfl)
   (hf:X.fn x=true∨X.env.scope.names.lookup x=some .local:=by first | exact .inl rfl | exact .inr rfl):PFS X (.Assign [.Name x pos'] e pos) (xC i ga) :=
 PS.to (zY1 hN hi hx he hs hf) fun D σ H h=>zX1 (fun _ _ _ q=>q) h
def zXC (i:Nat)(ρ:List B):List B:=match ρ[i]? with | some (.ow ds)=>ρ.set i (.fz (.lst ds)) | _=>ρ
def oW (i:Nat)(f:Sf):Sf:=fun ρ=>f (zXC i ρ)
theorem Good.frz {K:PySem.W.Frag}{G0 H0 G H:Hp}{σ:St}{ρ:List B}(g:Good K G0 H0 G H σ ρ)(i:Nat):∃G',Same G G'/\Good K G0 H0 G' H σ (zXC i ρ):=by
 unfold zXC
 split
 · rename_i ds e
   obtain⟨p,vs,h1,h2,h3,h4,h5⟩:=g.addr e
   have sG:Same G (upd G p (.lst vs)):=Same.new h3
   have st:Step G0 H0 (upd G p (.lst vs)) H:=by
     refine⟨g.st.hh,g.st.gg.trans sG,fun b o q=>?_,fun b hb=>?_⟩
     · by_cases z:b=p
       · subst z;rw[zD] at q;rw[h2];exact q
       · rw[yX z] at q;exact g.st.sub b o q
     · rw[yX (fun z:b=p=>hb (by rw[z];exact h4))];exact g.st.new b hb
   have vals:Paired (RB K H0 (upd G p (.lst vs)) H) σ (ρ.set i (.fz (.lst ds))):=by
     have key:∀(l:List (Option V)) (r:List B) (n:Nat),Paired (RB K H0 G H) l r->(∀j es,n+j≠i->r[j]?=some (.ow es)->l[j]?≠some (some (.ref p)))->(∀j,n+j=i->l[j]?=some (some (.ref p))) ->
         Paired (RB K H0 (upd G p (.lst vs)) H) l (if i < n then r else r.set (i - n) (.fz (.lst ds))):=by
       intro l r n q
       induction q generalizing n with
       | nil=>intro _ _;split<;>exact .nil
       | @cons o b l' r' q t ih =>
         intro hne hat
         have tl:=ih (n+1) (fun j es z e=>by have:=hne (j+1) es (by omega) (by simpa using e);simpa using this) (fun j z=>by have:=hat (j+1) (by omega);simpa using this)
         have keepq:(∀es,b = .ow es->o≠some (.ref p))->RB K H0 (upd G p (.lst vs)) H o b:=fun hb=>by
           cases q with
           | no=>exact .no
           | fz r=>exact .fz (r.mono sG)
           | @ow c vs' ds' c1 c2 c3 c4 =>
             have:c≠p:=fun z=>hb _ rfl (by rw[z])
             exact .ow c1 (by rw[yX this];exact c2) c3 (c4.mono sG)
           | @od c _ _ _ _ c1 c2 c3 c4 c5 c6 =>
             have:c≠p:=fun z=>by rw[z,h2] at c1;cases c1
             exact .od c1 (by rw[yX this];exact c2) c3 (c4.mono sG) c5 c6
         by_cases h1:i < n
         · rw[if_pos h1]
           rw[if_pos (by omega)] at tl
           exact .cons (keepq fun es e z=>hne 0 es (by omega) (by simp[e]) (by simp[z])) tl
         · rw[if_neg h1]
           by_cases h2:i=n
           · subst h2
             rw[if_pos (by omega)] at tl
             have:=hat 0 (by omega)
             simp at this
             subst this
             rw[Nat.sub_self]
             exact .cons (.fz (rep_lst.mpr ⟨p,vs,rfl,.of zD,h5.mono sG⟩)) tl
           · rw[if_neg (by omega)] at tl
             have e:i - n=(i - (n+1))+1:=by omega
             rw[e]
             exact .cons (keepq fun es e z=>hne 0 es (by omega) (by simp[e]) (by simp[z])) tl
     have v:=key σ ρ 0 g.vals (fun j es' z e' w=>by have:=g.apart j i p es' ds e' e w h1;omega) (fun j z=>by rw[show j=i by omega];exact h1)
     rw[if_neg (Nat.not_lt_zero _),Nat.sub_zero] at v
     exact v
   refine⟨_,sG,st,vals,fun j k b d1 d2 e1 e2 e3 e4=>?_⟩
   obtain⟨_,f1⟩:=wZ e1
   obtain⟨_,f2⟩:=wZ e2
   exact g.apart j k b d1 d2 f1 f2 e3 e4
 · exact⟨G,Same.refl _,g⟩
theorem rY (i:Nat)(h:PFS X st f):PFS X st (oW i f):=by
 refine PS.to h ?_
 rintro D σ H ⟨G0,H0,G,ρ,o,good,hf,k⟩
 obtain⟨G',s,g'⟩:=good.frz i
 exact⟨G0,H0,G',_,o,g',hf,k.mono s⟩
end
end L2
namespace L2
open PySem PySem.Spec PyProof.Rows
def gX (K:PySem.W.Frag)(J:It)(G:Hp)(ds:List D):Prop:=∀(i:Nat) (G2 H2:Hp),Same G G2->Same G2 H2 ->
 (∀d,ds[i]?=some d->J.go i H2/\∀x H3,J.yld i H2 x H3->∃G3,Step G2 H2 G3 H3/\Rep K G3 d x)/\(ds.length<=i->J.stop i H2)
def tFI (K:PySem.W.Frag)(f:Lf):TI:=fun σ H R=>∃G0 H0 G ρ ds,Good K G0 H0 G H σ ρ/\f ρ=some ds/\∀J H' G',Step G H G' H'->gX K J G' ds->R J H'
def PFI (X:Cx)(tg iter:Expr)(f:Lf):Prop:=PI X tg iter (tFI X.K f)
theorem PI.to {X:Cx}{tg e:Expr}{t:TI}{f:Lf}(h:PI X tg e t)(imp:∀σ H R,tFI X.K f σ H R->t σ H R):PFI X tg e f:=fun pins s σ H R I q=>h pins s σ H R I (imp σ H R q)
theorem iW {K:PySem.W.Frag}{G:Hp}{a:Addr}{vs:List V}{ds:List D}(h:SqL K G a vs)(r:Reps K G ds vs):gX K (Itl K a) G ds:=by
 intro i G2 H2 s1 s2
 have q:SqL K H2 a vs:=(s1.trans s2).seq h
 refine⟨fun d hd=>?_,fun hi=>⟨vs,q,by rw[←r.length];exact hi⟩⟩
 obtain⟨v,e,rv⟩:=r.get hd
 refine⟨⟨vs,v,q,e⟩,fun x H3 y=>?_⟩
 obtain⟨rfl,y⟩:=y
 have:=y vs q
 rw[e] at this;cases this
 exact⟨G2,.refl s2,rv.mono s1⟩
theorem zWl {K:PySem.W.Frag}{G:Hp}{a:Addr}{vs:List V}{ds:List D}(h:SqT K G a vs)(r:Reps K G ds vs):gX K (Itt K a) G ds:=by
 intro i G2 H2 s1 s2
 have q:SqT K H2 a vs:=(s1.trans s2).tup h
 refine⟨fun d hd=>?_,fun hi=>⟨vs,q,by rw[←r.length];exact hi⟩⟩
 obtain⟨v,e,rv⟩:=r.get hd
 refine⟨⟨vs,v,q,e⟩,fun x H3 y=>?_⟩
 obtain⟨rfl,y⟩:=y
 have:=y vs q
 rw[e] at this;cases this
 exact⟨G2,.refl s2,rv.mono s1⟩
def pW (lo:Int)(n:Nat):List D:=(List.range n).map fun i=>D.int (lo+(i:Nat))
theorem iK {K:PySem.W.Frag}{G:Hp}{lo:Int}{n:Nat}:gX K (Itr lo n) G (pW lo n):=by
 intro i G2 H2 s1 s2
 have hl:(pW lo n).length=n:=by simp[pW]
 refine⟨fun d hd=>?_,fun hi=>by rw[hl] at hi;exact hi⟩
 have hi:i < n:=by rw[←hl];exact(List.getElem?_eq_some_iff.mp hd).1
 refine⟨hi,fun x H3 y=>?_⟩
 obtain⟨rfl,rfl⟩:=y
 have e:d = .int (lo+i):=by
   unfold pW at hd
   rw[List.getElem?_map,List.getElem?_range hi] at hd
   exact(Option.some.inj hd).symm
 subst e
 exact⟨G2,.refl s2,rep_int.mpr rfl⟩
section
variable {X:Cx} {a b c e tg elt iter:Expr} {es ifs:List Expr} {fa fb:Ef} {ga gi:Lf} {ta tc:Tf} {pos:Pos} {st:Stmt} {sts rest:List Stmt} {f g:Sf}
def iL (f:Ef):Lf:=fun ρ=>(f ρ).bind fun d=>match d with | .lst ds=>some ds | _=>none
def iT (f:Ef):Lf:=fun ρ=>(f ρ).bind fun d=>match d with | .tup ds=>some ds | _=>none
theorem zX6 (h:PF X e fa):PFI X tg e (iL fa):=by
 refine PI.to (zVW h) ?_
 rintro σ H R ⟨G0,H0,G,ρ,ds,good,hf,k⟩
 unfold iL at hf
 obtain⟨d,h1,hf⟩:=Option.bind_eq_some_iff.mp hf
 cases d with
 | lst es =>
   cases hf
   refine⟨G0,H0,G,ρ,_,good,h1,fun x H1 G1 s1 r1=>?_⟩
   obtain⟨p,vs,rfl,q,rs⟩:=rep_lst.mp r1
   exact⟨p,rfl,⟨vs,s1.sub.seq q⟩,k _ H1 G1 s1 (iW q rs)⟩
 | _=>cases hf
theorem zOy (h:PFr X e ga):PFI X tg e ga:=by
 refine PI.to (zVW h) ?_
 rintro σ H R ⟨G0,H0,G,ρ,ds,good,hf,k⟩
 refine⟨G0,H0,G,ρ,_,good,hf,fun p vs H1 G1 s1 hn hp gp rs=>?_⟩
 exact⟨p,rfl,⟨vs,.of hp⟩,k _ H1 (upd G1 p (.lst vs)) (s1.frz hn hp gp) (iW (.of zD) (rs.mono (Same.new gp)))⟩
theorem zXk (h:PF X e fa):PFI X tg e (iT fa):=by
 refine PI.to (zP8 h) ?_
 rintro σ H R ⟨G0,H0,G,ρ,ds,good,hf,k⟩
 unfold iT at hf
 obtain⟨d,h1,hf⟩:=Option.bind_eq_some_iff.mp hf
 cases d with
 | tup es =>
   cases hf
   refine⟨G0,H0,G,ρ,_,good,h1,fun x H1 G1 s1 r1=>?_⟩
   obtain⟨p,vs,rfl,q,rs⟩:=rep_tup.mp r1
   exact⟨p,rfl,⟨vs,s1.sub.tup q⟩,k _ H1 G1 s1 (zWl q rs)⟩
 | _=>cases hf
def iR (f:Ef):Lf:=fun ρ=>(f ρ).bind fun d=>match d with | .int n=>if decide (-1000000<=n)&&decide (n<=1000000) then some (pW 0 n.toNat) else none | _=>none
theorem zX4 {p:Pos}(hg:Gl X "range")(hm:X.mg "range"=none)(h:PF X a fa)(hs:starEach [a] X.env=[(false,eval a X.env)]:=by rfl):PFI X tg (.Call (.Name "range" p) [a] [] pos) (iR fa):=by
 refine PI.to (zU1 hg hm (yW h yI (by rw[hs];rfl)) hs) ?_
 rintro σ H R ⟨G0,H0,G,ρ,ds,good,hf,k⟩
 unfold iR at hf
 obtain⟨d,h1,hf⟩:=Option.bind_eq_some_iff.mp hf
 cases d with
 | int n =>
   dsimp only at hf
   split at hf
   · rename_i hc
     cases hf
     simp only[Bool.and_eq_true,decide_eq_true_eq] at hc
     refine⟨G0,H0,G,ρ,_,good,h1,fun x H1 G1 s1 r1=>⟨n,by rw[rep_int.mp r1],by omega,by omega,k _ H1 G1 s1 iK⟩⟩
   · cases hf
 | _=>cases hf
def iR2 (f g:Ef):Lf:=fun ρ=>(f ρ).bind fun x=>(g ρ).bind fun y=>match x,y with | .int m,.int n=>if decide (-1000000<=m)&&decide (m<=1000000)&&decide (-1000000<=n)&&decide (n<=1000000) then some (pW m (n - m).toNat) else none | _,_=>none
theorem zPe {p:Pos}(hg:Gl X "range")(hm:X.mg "range"=none)(h:PF X a fa)(h':PF X b fb)(hs:starEach [a,b] X.env=[(false,eval a X.env),(false,eval b X.env)]:=by rfl)(hs2:starEach [b] X.env=[(false,eval b X.env)]:=by rfl):PFI X tg (.Call (.Name "range" p) [a,b] [] pos) (iR2 fa fb):=by
 refine PI.to (zUs hg hm (yW h (yW h' yI (by rw[hs2];rfl)) (by rw[hs,hs2])) hs hs2) ?_
 rintro σ H R ⟨G0,H0,G,ρ,ds,good,hf,k⟩
 unfold iR2 at hf
 obtain⟨d,h1,hf⟩:=Option.bind_eq_some_iff.mp hf
 obtain⟨d',h2,hf⟩:=Option.bind_eq_some_iff.mp hf
 cases d with
 | int m =>
   cases d' with
   | int n =>
     dsimp only at hf
     split at hf
     · rename_i hc
       cases hf
       simp only[Bool.and_eq_true,decide_eq_true_eq] at hc
       refine⟨G0,H0,G,ρ,_,good,h1,fun x H1 G1 s1 r1=>⟨G0,H0,G1,ρ,_,good.step s1,h2,fun y H2 G2 s2 r2=>⟨m,n,by rw[rep_int.mp r1,rep_int.mp r2],⟨by omega,by omega,by omega,by omega⟩,k _ H2 G2 (s1.trans s2) iK⟩⟩⟩
     · cases hf
   | _=>cases hf
 | _=>cases hf
def kN (g:Gf)(body:Sf):List D->Sf
 | [],ρ=>some (.nx ρ)
 | d::r,ρ=>(g d ρ).bind fun ρ1=>(body ρ1).bind fun o=>match o with
   | .nx ρ2=>kN g body r ρ2
   | .ct ρ2=>kN g body r ρ2
   | .bk ρ2=>some (.nx ρ2)
   | o=>some o
def rM (src:Lf)(g:Gf)(body:Sf):Sf:=fun ρ=>(src ρ).bind fun ds=>kN g body ds ρ
theorem mQ {gt:Gf}{body:List Stmt}{fb:Sf}(hp:PassesOwn (model X.prog X.w) X.A X.env X.xe)(hc:X.calm=true)(hi:PFI X tg iter gi)(hg:PFG X tg gt)(hb:bF X body fb)(hs:∀x,foldedSetIterable iter X.env x=pure x:=by intro _;rfl) :
   PFS X (.For tg iter body [] pos) (rM gi gt fb):=by
 refine PS.to (zPY hp hc hi hg hb hs) ?_
 rintro D σ H ⟨G0,H0,G,ρ,o,good,hf,k⟩
 unfold rM at hf
 obtain⟨ds,h1,hf⟩:=Option.bind_eq_some_iff.mp hf
 refine⟨G0,H0,G,ρ,ds,good,h1,fun J H1 G1 s1 y=>?_⟩
 refine⟨fun i m σ H=>m=ds.length - i/\i<=ds.length/\∃G2 ρ2,Same G1 G2/\Good X.K G0 H0 G2 H σ ρ2/\kN gt fb (ds.drop i) ρ2=some o,⟨ds.length,by simp,Nat.zero_le _,G1,ρ,Same.refl _,good.step s1,by simpa using hf⟩,?_⟩
 rintro i m σ2 H2 ⟨rfl,hi',G2,ρ2,sg,good2,hf2⟩
 obtain⟨y1,y2⟩:=y i G2 H2 sg good2.sub
 by_cases hlt:i < ds.length
 · obtain⟨go,yl⟩:=y1 ds[i] (List.getElem?_eq_getElem hlt)
   rw[List.drop_eq_getElem_cons hlt] at hf2
   unfold kN at hf2
   obtain⟨ρ3,e1,hf2⟩:=Option.bind_eq_some_iff.mp hf2
   obtain⟨o1,e2,hf2⟩:=Option.bind_eq_some_iff.mp hf2
   refine .inr ⟨go,fun σ' H'=>∃G' ρ',Same G1 G'/\Good X.K G0 H0 G' H' σ' ρ'/\kN gt fb (ds.drop (i+1)) ρ'=some o,fun σ' H' ⟨G',ρ',a1,a2,a3⟩=>⟨ds.length - (i+1),by omega,rfl,hlt,G',ρ',a1,a2,a3⟩,fun x H3 yx=>?_⟩
   obtain⟨G3,s3,r3⟩:=yl x H3 yx
   refine⟨G0,H0,G3,ρ2,_,ρ3,good2.step s3,r3,e1,fun σ4 H4 G4 s4 good4=>?_⟩
   have sg4:Same G1 G4:=(sg.trans s3.gg).trans s4.gg
   refine⟨G0,H0,G4,ρ3,o1,good4,e2,?_⟩
   cases o1 with
   | nx ρ5=>exact fun σ5 H5 G5 s5 good5=>⟨G5,ρ5,sg4.trans s5,good5,hf2⟩
   | ct ρ5=>exact fun σ5 H5 G5 s5 good5=>⟨G5,ρ5,sg4.trans s5,good5,hf2⟩
   | bk ρ5=>cases hf2;exact fun σ5 H5 G5 s5 good5=>k σ5 H5 G5 ((s1.gg.trans sg4).trans s5) good5
   | rt d=>cases hf2;exact k
   | rl d=>cases hf2;exact k
 · have e:i=ds.length:=by omega
   subst e
   rw[List.drop_length] at hf2
   cases hf2
   exact .inl ⟨y2 (Nat.le_refl _),k σ2 H2 G2 (s1.gg.trans sg) good2⟩
def vB (g:Gf)(t:Tf)(elt:Ef):List D->List B->List D->Option (List D)
 | [],_,acc=>some acc
 | d::r,ρ,acc=>(g d ρ).bind fun ρ1=>(t ρ1).bind fun c=>if c=true then(elt ρ1).bind fun y=>vB g t elt r ρ1 (acc++[y]) else vB g t elt r ρ1 acc
def upB (m:Nat)(js:List Nat)(ρ:List B):List B:=List.replicate m .no++js.map fun j=>match ρ[j]? with | some (.fz d)=>.fz d | _=>.no
def yV (src:Lf)(m:Nat)(js:List Nat)(g:Gf)(t:Tf)(elt:Ef):Lf:=fun ρ=>((src ρ).bind okL).bind fun ds=>vB g t elt ds (upB m js ρ) []
theorem Good.up {K:PySem.W.Frag}{G0 H0 G H:Hp}{σ:St}{ρ:List B}(g:Good K G0 H0 G H σ ρ)(m:Nat)(js:List Nat):Good K G H G H (upC m js σ) (upB m js ρ):=by
 refine⟨.refl g.sub,?_,fun i j a ds es h1=>?_⟩
 · unfold upC upB
   have rep:∀m:Nat,Paired (RB K H G H) (List.replicate m (none:Option V)) (List.replicate m B.no):=fun m=>by
     induction m with
     | zero=>exact .nil
     | succ n ih=>rw[List.replicate_succ,List.replicate_succ];exact .cons .no ih
   have app:∀ {l1 l2:List (Option V)} {r1 r2:List B},Paired (RB K H G H) l1 r1->Paired (RB K H G H) l2 r2->Paired (RB K H G H) (l1++l2) (r1++r2):=fun h1 h2=>by
     induction h1 with
     | nil=>exact h2
     | cons q t ih=>exact .cons q ih
   refine app (rep m) ?_
   induction js with
   | nil=>exact .nil
   | cons j r ih =>
     rw[List.map_cons,List.map_cons]
     refine .cons ?_ ih
     cases e:ρ[j]? with
     | none=>exact .no
     | some b =>
       obtain⟨o,e1,r1⟩:=Paired.get g.vals e
       cases r1 with
       | no=>exact .no
       | fz q=>rw[e1];exact .fz q
       | ow q1 q2 q3 q4=>exact .no
       | od q1 q2 q3 q4 q5 q6=>exact .no
 · unfold upB at h1
   by_cases hi:i < m
   · rw[List.getElem?_append_left (by simpa using hi),List.getElem?_replicate] at h1
     split at h1<;>cases h1
   · rw[List.getElem?_append_right (by simpa using hi),List.getElem?_map] at h1
     obtain⟨k,_,h1⟩:=Option.map_eq_some_iff.mp h1
     split at h1<;>cases h1
theorem zT7 (m:Nat)(js:List Nat)(ρ:List B):bT (upB m js ρ):=by
 constructor
 all_goals
   intro i es h1
   unfold upB at h1
   by_cases hi:i < m
   · rw[List.getElem?_append_left (by simpa using hi),List.getElem?_replicate] at h1
     split at h1<;>cases h1
   · rw[List.getElem?_append_right (by simpa using hi),List.getElem?_map] at h1
     obtain⟨k,_,h1⟩:=Option.map_eq_some_iff.mp h1
     split at h1<;>cases h1
theorem Good.wrX {K:PySem.W.Frag}{G0 H0 G H:Hp}{σ:St}{ρ:List B}{p:Addr}{o:HO}(g:Good K G0 H0 G H σ ρ)(n:bT ρ)(gp:G p=none)(h0:H0 p=none):Good K G0 H0 G (upd H p o) σ ρ:=by
 refine⟨⟨fun b u e=>?_,g.st.gg,fun b u e=>?_,g.st.new⟩,?_,g.apart⟩
 · rw[yX (yC e h0)];exact g.st.hh b u e
 · rw[yX (yC e gp)];exact g.st.sub b u e
 · have key:∀(l:List (Option V)) (r:List B),Paired (RB K H0 G H) l r->bT r->Paired (RB K H0 G (upd H p o)) l r:=by
     intro l r q
     induction q with
     | nil=>intro _;exact .nil
     | @cons x b l' r' q t ih =>
       intro n
       refine .cons ?_ (ih ⟨fun j es e=>n.1 (j+1) es (by simpa using e),fun j es e=>n.2 (j+1) es (by simpa using e)⟩)
       cases q with
       | no=>exact .no
       | fz r=>exact .fz r
       | ow _ _ _ _=>exact absurd rfl (n.1 0 _)
       | od _ _ _ _ _ _=>exact absurd rfl (n.2 0 _)
   exact key σ ρ g.vals n
theorem zYg {K:PySem.W.Frag}{m:Nat}{js:List Nat}{gt:Gf}{t:Tf}{el:Ef}(hgo:zUj gt){σ:St}{H:Hp}{Q:VK}(h:tFr K (yV gi m js gt t el) σ H Q):zT6 (tFI K gi) m js (tFG K gt) (tFT K t) (tF K el) σ H Q:=by
 obtain⟨G0,H0,G,ρ,out,good,hf,k⟩:=h
 unfold yV at hf
 obtain⟨ds,h1,hf⟩:=Option.bind_eq_some_iff.mp hf
 obtain⟨ds',h1,h1'⟩:=Option.bind_eq_some_iff.mp h1
 obtain⟨rfl,hlen⟩:=iF h1'
 refine⟨G0,H0,G,ρ,_,good,h1,fun J H1 G1 s1 y D hD=>?_⟩
 have good1:=(good.step s1).up m js
 have hGD:G1 D=none:=s1.sub.free hD
 refine⟨fun i n σ2 H2=>n=ds.length - i/\i<=ds.length/\∃G2 ρ2 acc us,Same G1 G2/\G2 D=none/\H2 D=some (.lst us)/\Reps K G2 acc us/\acc.length<=i/\bT ρ2/\Good K G1 H1 G2 H2 σ2 ρ2/\vB gt t el (ds.drop i) ρ2 acc=some out,
   ⟨ds.length,by simp,Nat.zero_le _,G1,upB m js ρ,[],[],Same.refl _,hGD,zD,reps_nil.mpr rfl,Nat.le_refl _,zT7 _ _ _,good1.step (Step.own s1.sub hD),by simpa using hf⟩,?_⟩
 rintro i n σ2 H2 ⟨rfl,hi,G2,ρ2,acc,us,sg,gD,hD2,rs,hal,now,good2,hf2⟩
 obtain⟨y1,y2⟩:=y i G2 H2 sg good2.sub
 by_cases hlt:i < ds.length
 · obtain⟨go,yl⟩:=y1 ds[i] (List.getElem?_eq_getElem hlt)
   rw[List.drop_eq_getElem_cons hlt] at hf2
   unfold vB at hf2
   obtain⟨ρ3,e1,hf2⟩:=Option.bind_eq_some_iff.mp hf2
   obtain⟨c,e2,hf2⟩:=Option.bind_eq_some_iff.mp hf2
   have now3:=hgo _ _ _ e1 now
   refine .inr ⟨go,fun x H3 yx=>?_⟩
   obtain⟨G3,s3,r3⟩:=yl x H3 yx
   refine⟨G1,H1,G3,ρ2,_,ρ3,good2.step s3,r3,e1,fun σ4 H4 G4 s4 good4=>?_⟩
   refine⟨G1,H1,G4,ρ3,c,good4,e2,fun H5 G5 s5=>?_⟩
   have s35:=(s3.trans s4).trans s5
   have hne:H2 D≠none:=by rw[hD2];exact fun z=>nomatch z
   split at hf2
   · rename_i hc
     show if c=true then _ else _
     rw[if_pos hc]
     obtain⟨yd,e3,hf2⟩:=Option.bind_eq_some_iff.mp hf2
     refine⟨G1,H1,G5,ρ3,yd,good4.step s5,e3,fun v H6 G6 s6 r6=>?_⟩
     have s36:=s35.trans s6
     have hD6:H6 D=some (.lst us):=s36.hh _ _ hD2
     have gD6:G6 D=none:=(s36.new D hne).trans gD
     refine⟨us,ds.length - (i+1),hD6,?_,by omega,rfl,hlt,G6,ρ3,acc++[yd],us++[v],sg.trans s36.gg,gD6,zD,(rs.mono s36.gg).snoc r6,by rw[List.length_append,List.length_singleton];omega,now3,((good4.step s5).step s6).wrX now3 gD6 hD,hf2⟩
     rw[←rs.length]
     exact wD (Nat.le_trans hal (Nat.le_trans hi hlen))
   · rename_i hc
     show if c=true then _ else _
     rw[if_neg hc]
     exact⟨ds.length - (i+1),by omega,rfl,hlt,G5,ρ3,acc,us,sg.trans s35.gg,(s35.new D hne).trans gD,s35.hh _ _ hD2,rs.mono s35.gg,by omega,now3,good4.step s5,hf2⟩
 · have e:i=ds.length:=by omega
   subst e
   rw[List.drop_length] at hf2
   cases hf2
   exact .inl ⟨y2 (Nat.le_refl _),k D us H2 G2 (s1.trans good2.st) (s1.hh.free hD) hD2 gD rs⟩
def tOK:Tf:=fun _=>some true
def zVU (X:Cx)(ifs:List Expr)(t:Tf):Prop:=zWu X ifs (tFT X.K t)
theorem yK {X:Cx}:zVU X [] tOK:=fun pins s σ H Q I h=>zTZ pins s σ H Q I (by
 obtain⟨G0,H0,G,ρ,b,good,hf,k⟩:=h
 cases hf
 exact k H G (.refl good.sub))
theorem zUF {X:Cx}{c:Expr}{t:Tf}(h:PFT X c t):zVU X [c] t:=zTW h
theorem wW (sc:Scope)(N tgs frees:List Str)(js:List Nat){scope:Scope}{gt:Gf}{t:Tf}{el:Ef}(hgo:zUj gt)(hp:PFI X tg iter gi)(hc:X.calm=true)(hsc:X.env.scope=sc)(hNN:X.N=N)(hok:oB sc scope N tgs frees js=true)
   (hg:∀C s₀ H₀ fp,PFG (vR X (tgs++frees) scope C s₀ H₀ fp) tg gt) (hi:∀C s₀ H₀ fp,zVU (vR X (tgs++frees) scope C s₀ H₀ fp) ifs t) (he:∀C s₀ H₀ fp,PF (vR X (tgs++frees) scope C s₀ H₀ fp) elt el)
   (hs:∀x,foldedSetIterable iter X.env x=pure x:=by intro _;rfl) :
   PFr X (.ListComp elt [⟨tg,iter,ifs,0⟩] scope pos) (yV gi tgs.length js gt t el) :=
 PE.toR (zRS (g:=tFG X.K gt) (tc:=tFT X.K t) (te:=tF X.K el) sc tgs frees js hp hc hsc (by rw[hNN];exact hok) hg hi he hs) fun σ H Q h=>zYg hgo h
theorem sR (sc:Scope)(N tgs frees:List Str)(js:List Nat){scope:Scope}{gt:Gf}{t:Tf}{el:Ef}(hgo:zUj gt)(i:Nat){x:Str}{pos' spos:Pos}(hN:X.N.Nodup)(hx:X.N[i]?=some x)(hl:X.env.scope.names.lookup x=some .local)(hp:PFI X tg iter gi)(hc:X.calm=true)(hsc:X.env.scope=sc)(hNN:X.N=N)(hok:oB sc scope N tgs frees js=true)
   (hg:∀C s₀ H₀ fp,PFG (vR X (tgs++frees) scope C s₀ H₀ fp) tg gt) (hi:∀C s₀ H₀ fp,zVU (vR X (tgs++frees) scope C s₀ H₀ fp) ifs t) (he:∀C s₀ H₀ fp,PF (vR X (tgs++frees) scope C s₀ H₀ fp) elt el)
   (hsw:swapsWith (.ListComp elt [⟨tg,iter,ifs,0⟩] scope pos) (some (.Name x pos')) spos.line X.env=pure true:=by with_unfolding_all rfl) (hs:∀x,foldedSetIterable iter X.env x=pure x:=by intro _;rfl) :
   PFS X (.Assign [.Name x pos'] (.ListComp elt [⟨tg,iter,ifs,0⟩] scope pos) spos) (xC i (yV gi tgs.length js gt t el)) :=
 PS.to (zWb (g:=tFG X.K gt) (tc:=tFT X.K t) (te:=tF X.K el) sc tgs frees js hN hx hl hp hc hsc (by rw[hNN];exact hok) hg hi he hsw hs) fun D σ H h=>zX1 (fun _ _ _ q=>zYg hgo q) h
end
end L2
namespace L2
open PySem PySem.Spec PyProof.Rows
section
variable {X:Cx} {a b c e tg elt iter:Expr} {es ifs:List Expr} {fa fb fc:Ef} {ga gi:Lf} {ta tc:Tf} {pos:Pos} {st:Stmt} {sts rest:List Stmt} {f g:Sf}
def mB (i:Nat)(f:Ef):Sf:=fun ρ=>(f ρ).bind fun d=>match ρ[i]? with | some (.ow ds)=>if ds.length < lim then some (.nx (ρ.set i (.ow (ds++[d])))) else none | _=>none
theorem fW (i:Nat)(ht:PE X c (tBM X.K "list" zVu (zS8 i) (cZ (tF X.K fa) zWh)))(hs:swapsWith c none pos.line X.env=pure false:=by rfl):PFS X (.Expr c pos) (mB i fa):=by
 refine PS.to (zVj ht hs) ?_
 rintro D σ H ⟨G0,H0,G,ρ,o,good,hf,k⟩
 unfold mB at hf
 obtain⟨d,h1,hf⟩:=Option.bind_eq_some_iff.mp hf
 split at hf
 · rename_i ds hi
   split at hf
   · rename_i hl
     cases hf
     obtain⟨p,vs,e1,e2,e3,e4,e5⟩:=good.addr hi
     refine⟨.ref p,e1,.inl ⟨rfl,vs,.of e2⟩,G0,H0,G,ρ,d,good,h1,fun v H1 G1 s1 r1=>?_⟩
     have good1:=good.step s1
     obtain⟨p',vs',f1,f2,f3,f4,f5⟩:=good1.addr hi
     rw[e1] at f1;cases f1
     exact⟨p,vs',v,rfl,rfl,f2,by rw[←f5.length];exact wD (Nat.le_of_lt hl),k σ _ G1 s1.gg (good1.wr hi e1 (f5.snoc r1))⟩
   · cases hf
 · cases hf
def zW5 (j i:Nat)(f:Ef):Sf:=fun ρ=>(f ρ).bind fun d=>match d,ρ[i]? with
 | .int n,some (.ow ds)=>if ds.length<=lim then(ixN ds.length n).bind fun q=>(ds[q]?).map fun x=>.nx ((ρ.set i (.ow (ds.eraseIdx q))).set j (.fz x)) else none
 | _,_=>none
theorem zRY (j i:Nat){y:Str}{p4:Pos}(hNd:X.N.Nodup)(ht:PE X c (tBM X.K "list" zSY (zS8 i) (cZ (tF X.K fa) zWh)))(hj:X.N[j]?=some y:=by rfl)(hjx:Loc X.env.scope y:=by first | exact .inl rfl | exact .inr rfl)
   (hs:swapsWith c (some (.Name y p4)) pos.line X.env=pure false:=by rfl) (hfn:X.fn y=true∨X.env.scope.names.lookup y=some .local:=by first | exact .inl rfl | exact .inr rfl) :
   PFS X (.Assign [.Name y p4] c pos) (zW5 j i fa):=by
 refine PS.to (zY1 hNd hj hjx ht hs hfn) ?_
 rintro D σ H ⟨G0,H0,G,ρ,o,good,hf,k⟩
 unfold zW5 at hf
 obtain⟨d,h1,hf⟩:=Option.bind_eq_some_iff.mp hf
 split at hf
 · rename_i n ds hi
   split at hf
   · rename_i hl
     obtain⟨q,hq,hf⟩:=Option.bind_eq_some_iff.mp hf
     obtain⟨x',hx,rfl⟩:=Option.map_eq_some_iff.mp hf
     obtain⟨p,vs,e1,e2,e3,e4,e5⟩:=good.addr hi
     refine⟨.ref p,e1,.inl ⟨rfl,vs,.of e2⟩,G0,H0,G,ρ,_,good,h1,fun v H1 G1 s1 r1=>?_⟩
     have good1:=good.step s1
     obtain⟨p',vs',f1,f2,f3,f4,f5⟩:=good1.addr hi
     rw[e1] at f1;cases f1
     obtain⟨w,hw,rw'⟩:=f5.get hx
     have hlen:=f5.length
     rw[hlen] at hq
     obtain⟨q1,q2,q3,q4⟩:=zZg hq
     have hb:vs'.length < 2^40:=by rw[←hlen];exact Nat.lt_of_le_of_lt hl (by decide)
     refine⟨p,vs',n,q,w,rfl,by rw[rep_int.mp r1],f2,by omega,by omega,q1,hw,?_⟩
     exact k _ _ G1 s1.gg ((good1.wr hi e1 (f5.erase q)).setF j rw')
   · cases hf
 · cases hf
def zXU (i:Nat)(fi fv:Ef):Sf:=fun ρ=>(fv ρ).bind fun d=>(fi ρ).bind fun n=>match n,ρ[i]? with
 | .int n,some (.ow ds)=>if ds.length<=lim then(ixN ds.length n).map fun q=>.nx (ρ.set i (.ow (ds.set q d))) else none
 | _,_=>none
theorem zVA (i:Nat){x:Str}{p1 p2:Pos}(he:PF X e fa)(hb:PF X b fb)(hN:X.N[i]?=some x:=by rfl)(hv:Vis X.env.scope x:=by first | exact Or.inl rfl | exact Or.inr (Or.inl rfl) | exact Or.inr (Or.inr rfl))(hd:(x==("__debug__":Str))=false:=by decide)(hcd:(x==("__classdict__":Str))=false:=by decide)
   (ha:∀v,assign (.Subscript (.Name x p1) b p2) X.env v=(do
     let ov ←holding [v] (eval (.Name x p1) X.env)
     let iv ←holding [v,ov] (eval b X.env)
     standAt p2
     holding [v,ov,iv] (setItem ov iv v)
     release [v,ov,iv] []):=by intro _;rfl)
   (hs:swapsWithSole [.Subscript (.Name x p1) b p2] e pos.line X.env=pure false:=by rfl) (hw:swappedStores [.Subscript (.Name x p1) b p2] e X.env=pure none:=by rfl)
   (h1:(assignEach [.Subscript (.Name x p1) b p2] X.env).map (·.2)=[assign (.Subscript (.Name x p1) b p2) X.env]:=by rfl):PFS X (.Assign [.Subscript (.Name x p1) b p2] e pos) (zXU i fb fa):=by
 refine PS.to (zWv he (zTT (qV hN hv hd hcd) hb zSs ha) hs hw h1) ?_
 rintro D σ H ⟨G0,H0,G,ρ,o,good,hf,k⟩
 unfold zXU at hf
 obtain⟨d,h1,hf⟩:=Option.bind_eq_some_iff.mp hf
 obtain⟨n,h2,hf⟩:=Option.bind_eq_some_iff.mp hf
 split at hf
 · rename_i n ds hi
   split at hf
   · rename_i hl
     obtain⟨q,hq,rfl⟩:=Option.map_eq_some_iff.mp hf
     refine⟨G0,H0,G,ρ,d,good,h1,fun v H1 G1 s1 r1=>?_⟩
     have good1:=good.step s1
     obtain⟨p,vs,e1,e2,e3,e4,e5⟩:=good1.addr hi
     refine⟨.ref p,e1,G0,H0,G1,ρ,_,good1,h2,fun u H2 G2 s2 r2=>?_⟩
     have good2:=good1.step s2
     obtain⟨p',vs',f1,f2,f3,f4,f5⟩:=good2.addr hi
     rw[e1] at f1;cases f1
     refine⟨p,vs',n,q,rfl,rep_int.mp r2,f2,by rw[←f5.length];exact hq,?_⟩
     exact k _ _ G2 (s1.gg.trans s2.gg) (good2.wr hi e1 (f5.set q (r1.mono s2.gg)))
   · cases hf
 · cases hf
def zWr:D->Option D
 | .tup ds=>some (.int ds.length)
 | .lst ds=>some (.int ds.length)
 | .str z=>if z.length<=lim then some (.int z.length) else none
 | _=>none
def xJ (f:Ef):Ef:=fun ρ=>(f ρ).bind zWr
theorem uU {p:Pos}(hg:Gl X "len")(hm:X.mg "len"=none)(h:PF X a fa)(hs:starEach [a] X.env=[(false,eval a X.env)]:=by rfl):PF X (.Call (.Name "len" p) [a] [] pos) (xJ fa):=by
 refine PE.to (rA (call_len_seq.or zY6) hg hm PySem.boot_len (yW h yI (by rw[hs];rfl)) (by decide) (by decide) (by rw[hs];rfl) (by rfl)) ?_
 rintro σ H Q ⟨G0,H0,G,ρ,d,good,hf,k⟩
 unfold xJ at hf
 obtain⟨x,h1,hf⟩:=Option.bind_eq_some_iff.mp hf
 refine⟨G0,H0,G,ρ,_,good,h1,fun v H1 G1 s1 r1=>?_⟩
 unfold zWr at hf
 split at hf
 · cases hf
   obtain⟨p,vs,rfl,q,rs⟩:=rep_tup.mp r1
   exact .inl ⟨p,vs,rfl,.inr (s1.sub.tup q),k _ _ G1 s1 (rep_int.mpr (by rw[rs.length]))⟩
 · cases hf
   obtain⟨p,vs,rfl,q,rs⟩:=rep_lst.mp r1
   exact .inl ⟨p,vs,rfl,.inl (s1.sub.seq q),k _ _ G1 s1 (rep_int.mpr (by rw[rs.length]))⟩
 · split at hf
   · rename_i hz
     cases hf
     exact .inr ⟨_,by rw[rep_str.mp r1],Nat.le_of_lt (wD hz),k _ _ G1 s1 (rep_int.mpr rfl)⟩
   · cases hf
 · cases hf
def lO (i:Nat):Ef:=fun ρ=>match ρ[i]? with | some (.ow ds)=>some (.int ds.length) | _=>none
theorem zV5 (i:Nat){x:Str}{p p1:Pos}(hg:Gl X "len")(hm:X.mg "len"=none)(hN:X.N[i]?=some x:=by rfl)(hv:Vis X.env.scope x:=by first | exact Or.inl rfl | exact Or.inr (Or.inl rfl) | exact Or.inr (Or.inr rfl))(hd:(x==("__debug__":Str))=false:=by decide)(hcd:(x==("__classdict__":Str))=false:=by decide):PF X (.Call (.Name "len" p) [.Name x p1] [] pos) (lO i):=by
 refine PE.to (rA call_len_seq hg hm PySem.boot_len (yW (qV hN hv hd hcd) yI)) ?_
 rintro σ H Q ⟨G0,H0,G,ρ,d,good,hf,k⟩
 unfold lO at hf
 split at hf
 · rename_i ds hi
   cases hf
   obtain⟨q,vs,e1,e2,e3,e4,e5⟩:=good.addr hi
   exact⟨.ref q,e1,q,vs,rfl,.inl (.of e2),k _ _ G (.refl good.sub) (rep_int.mpr (by rw[e5.length]))⟩
 · cases hf
def zWf:D->Option D | .lst ds=>some (.tup ds) | .tup ds=>some (.tup ds) | _=>none
def wA (f:Ef):Ef:=fun ρ=>(f ρ).bind zWf
theorem uR {p:Pos}(hg:Gl X "tuple")(hm:X.mg "tuple"=none)(h:PF X a fa)(hs:starEach [a] X.env=[(false,eval a X.env)]:=by rfl):PF X (.Call (.Name "tuple" p) [a] [] pos) (wA fa):=by
 refine PE.to (rG aY hg hm (by rfl) (yW h yI (by rw[hs];rfl)) (by decide) (by decide) (by rw[hs];rfl) (by rfl)) ?_
 rintro σ H Q ⟨G0,H0,G,ρ,d,good,hf,k⟩
 unfold wA at hf
 obtain⟨x,h1,hf⟩:=Option.bind_eq_some_iff.mp hf
 refine⟨G0,H0,G,ρ,_,good,h1,fun v H1 G1 s1 r1=>?_⟩
 unfold zWf at hf
 split at hf
 · cases hf
   obtain⟨p,vs,rfl,q,rs⟩:=rep_lst.mp r1
   refine⟨p,vs,rfl,.inl ⟨s1.sub.seq q,fun l hl=>?_⟩⟩
   have s2:=Step.laid (o:=.tup vs) s1.sub hl
   exact k _ _ _ (s1.trans s2) (rep_tup.mpr ⟨l,vs,rfl,.of zD,rs.mono s2.gg⟩)
 · cases hf
   obtain⟨p,vs,rfl,q,rs⟩:=rep_tup.mp r1
   exact⟨p,vs,rfl,.inr ⟨s1.sub.tup q,k _ _ G1 s1 r1⟩⟩
 · cases hf
def zS1:D->Option (List D) | .lst ds=>some ds | .tup ds=>some ds | _=>none
def dZ (f:Ef):Lf:=fun ρ=>(f ρ).bind zS1
theorem zZ7 {p:Pos}(hg:Gl X "list")(hm:X.mg "list"=none)(h:PF X a fa)(hs:starEach [a] X.env=[(false,eval a X.env)]:=by rfl):PFr X (.Call (.Name "list" p) [a] [] pos) (dZ fa):=by
 refine PE.toR (rG zY9 hg hm (by rfl) (yW h yI (by rw[hs];rfl)) (by decide) (by decide) (by rw[hs];rfl) (by rfl)) ?_
 rintro σ H Q ⟨G0,H0,G,ρ,d,good,hf,k⟩
 unfold dZ at hf
 obtain⟨x,h1,hf⟩:=Option.bind_eq_some_iff.mp hf
 refine⟨G0,H0,G,ρ,_,good,h1,fun v H1 G1 s1 r1=>?_⟩
 unfold zS1 at hf
 split at hf
 · cases hf
   obtain⟨p,vs,rfl,q,rs⟩:=rep_lst.mp r1
   exact⟨p,vs,rfl,.inl (s1.sub.seq q),fun l hl=>k l vs _ G1 (s1.trans (Step.own s1.sub hl)) (s1.hh.free hl) zD (s1.sub.free hl) rs⟩
 · cases hf
   obtain⟨p,vs,rfl,q,rs⟩:=rep_tup.mp r1
   exact⟨p,vs,rfl,.inr (s1.sub.tup q),fun l hl=>k l vs _ G1 (s1.trans (Step.own s1.sub hl)) (s1.hh.free hl) zD (s1.sub.free hl) rs⟩
 · cases hf
theorem zXP:CallR X (.type "range") (fun xs H Q=>∃j,xs=[.int j]/\∀p,H p=none->Q (.ref p) (upd H p (.rng 0 j))):=by
 intro pins s σ H xs us Q I r h
 obtain⟨j,rfl,q⟩:=h
 obtain⟨u,rfl,ru⟩:=pZ r
 obtain⟨t,rfl⟩:=ru
 refine call_range_1 ⟨.ref s.heap.objs.size,_,I.laid (o:=.rng 0 j) (fun b o e=>Heap.get?_push_of_some _ e) (Nat.le_refl _) ?_,rfl,q _ I.fresh⟩
 exact⟨_,_,_,Heap.get?_push_size _ rfl⟩
theorem cY (hc:X.calm=true):CallR X (.type "list") (fun xs H Q=>∃p j,xs=[.ref p]/\H p=some (.rng 0 j) /\ -1000000<=j/\j<=100000/\∀l,H l=none->Q (.ref l) (upd H l (.lst ((List.range j.toNat).map fun(i:Nat)=>V.int (0+(i:Nat)))))):=by
 intro pins s σ H xs us Q I r h
 obtain⟨p,j,rfl,hp,h1,h2,q⟩:=h
 obtain⟨u,rfl,ru⟩:=pZ r
 cases ru
 obtain⟨t,u',v,e⟩:=(show ObjOk X.prog X.w H s.heap p (.rng 0 j) from I.hok p _ hp)
 have hsz:Builtin.Range.rangeSize 0 j 1=(j.toNat:Nat):=by rw[rangeSize_one];split<;>omega
 refine call_list_range (n:=j.toNat) (I.ok.hd hc) (show IsRange s.heap p 0 j 1 t u' v from e) (small_one (by omega) (by omega) (by omega) (by omega)) hsz (by omega) fun h' tk acc' c' hk hS hit=>?_
 have hvals:Vals ((List.range j.toNat).map fun(i:Nat)=>V.int (0+(i:Nat))) acc'.toList:=by
   have hl:acc'.toList.length=j.toNat:=by simpa using hit.1
   have gen:∀(l:List Value) (k:Nat),(∀i v,l[i]?=some v->∃t,v=Value.int (0+((k+i:Nat):Int)) t)->Vals ((List.range' k l.length).map fun(i:Nat)=>V.int (0+(i:Nat))) l:=by
     intro l
     induction l with
     | nil=>intro k _;exact .nil
     | cons y r ih =>
       intro k hh
       rw[List.length_cons,List.range'_succ,List.map_cons]
       refine .cons ?_ (ih (k+1) fun i v e=>?_)
       · obtain⟨t,e⟩:=hh 0 y rfl
         exact⟨t,by simpa using e⟩
       · obtain⟨t,e'⟩:=hh (i+1) v (by simpa using e)
         exact⟨t,by rw[e',show k+(i+1)=k+1+i by omega]⟩
   have:=gen acc'.toList 0 fun i v e=>by
     obtain⟨t,e'⟩:=hit.2 i v (by simpa using e)
     exact⟨t,by rw[e'];simp⟩
   rw[hl,←List.range_eq_range'] at this
   exact this
 refine⟨.ref s.heap.objs.size,_,I.laid (t':=tk) (o:=.lst _) hk (Nat.le_refl _) ?_,rfl,q _ I.fresh⟩
 exact⟨by rw[List.length_map,List.length_range];exact Nat.le_of_lt (wD (by show j.toNat<=100000;omega)),acc'.toList,c',hvals,by simpa using hS⟩
def zYL (f:Ef):Lf:=fun ρ=>(f ρ).bind fun d=>match d with | .int n=>if decide (-1000000<=n)&&decide (n<=100000) then some (pW 0 n.toNat) else none | _=>none
theorem zVc {K:PySem.W.Frag}{G:Hp}(n:Nat):Reps K G (pW 0 n) ((List.range n).map fun(i:Nat)=>V.int (0+(i:Nat))):=by
 unfold pW
 induction (List.range n) with
 | nil=>exact reps_nil.mpr rfl
 | cons x r ih=>exact reps_cons.mpr ⟨_,_,rfl,rep_int.mpr rfl,ih⟩
theorem zTP {p p1 p2:Pos}(hc:X.calm=true)(hg:Gl X "list")(hm:X.mg "list"=none)(hg':Gl X "range")(hm':X.mg "range"=none)(h:PF X a fa)(hs:starEach [a] X.env=[(false,eval a X.env)]:=by rfl)
   (hs2:starEach [.Call (.Name "range" p1) [a] [] p2] X.env=[(false,eval (.Call (.Name "range" p1) [a] [] p2) X.env)]:=by rfl) :
   PFr X (.Call (.Name "list" p) [.Call (.Name "range" p1) [a] [] p2] [] pos) (zYL fa):=by
 refine PE.toR (rG (cY hc) hg hm (by rfl) (yW (rG zXP hg' hm' (by rfl) (yW h yI (by rw[hs];rfl)) (by decide) (by decide) (by rw[hs];rfl) (by rfl)) yI (by rw[hs2];rfl)) (by decide) (by decide) (by rw[hs2];rfl) (by rfl)) ?_
 rintro σ H Q ⟨G0,H0,G,ρ,ds,good,hf,k⟩
 unfold zYL at hf
 obtain⟨d,h1,hf⟩:=Option.bind_eq_some_iff.mp hf
 cases d with
 | int n =>
   dsimp only at hf
   split at hf
   · rename_i hc
     cases hf
     simp only[Bool.and_eq_true,decide_eq_true_eq] at hc
     refine⟨G0,H0,G,ρ,_,good,h1,fun x H1 G1 s1 r1=>⟨n,by rw[rep_int.mp r1],fun p hp=>⟨p,n,rfl,zD,hc.1,hc.2,fun l hl=>?_⟩⟩⟩
     have s2:Step G1 H1 G1 (upd H1 p (.rng 0 n)):=Step.own s1.sub hp
     have s3:=Step.own (o:=.lst ((List.range n.toNat).map fun(i:Nat)=>V.int (0+(i:Nat)))) s2.sub hl
     exact k l _ _ G1 ((s1.trans s2).trans s3) ((s1.trans s2).hh.free hl) zD (s2.sub.free hl) (zVc _)
   · cases hf
 | _=>cases hf
end
end L2
namespace L2
open PySem PySem.Spec PyProof.Rows
def spF (K:PySem.W.Frag)(n:Nat)(f:List D->Option D):Sp:=fun vs H Q _=>∃G ds d,Same G H/\Reps K G ds vs/\ds.length=n/\f ds=some d/\∀v H' G',Step G H G' H'->Rep K G' d v->Q v H'
def spL (K:PySem.W.Frag)(n:Nat)(f:List D->Option (List D)):Sp:=fun vs H Q _=>∃G ds es,Same G H/\Reps K G ds vs/\ds.length=n/\f ds=some es/\∀a us H' G',Step G H G' H'->H a=none->H' a=some (.lst us)->G' a=none->Reps K G' es us->Q (.ref a) H'
def qG (N:Nat)(ds:List D):List B:=ds.map .fz++List.replicate (N - ds.length) .no
def vN:Out->Option D
 | .nx _=>some .non
 | .rt d=>some d
 | .rl ds=>some (.lst ds)
 | _=>none
def zYb:Out->Option (List D)
 | .rl ds=>some ds
 | _=>none
def fnF (N:Nat)(body:Sf)(ds:List D):Option D:=(body (qG N ds)).bind vN
def fnL (N:Nat)(body:Sf)(ds:List D):Option (List D):=(body (qG N ds)).bind zYb
theorem cR {K:PySem.W.Frag}{G H:Hp}{N:List Str}{ds:List D}{vs:List V}(s:Same G H)(r:Reps K G ds vs):Good K G H G H (pT N vs) (qG N.length ds):=by
 refine⟨.refl s,?_,fun i j a es es' h1=>?_⟩
 · unfold pT qG
   rw[r.length]
   have rep:∀m:Nat,Paired (RB K H G H) (List.replicate m (none:Option V)) (List.replicate m B.no):=fun m=>by
     induction m with
     | zero=>exact .nil
     | succ n ih=>rw[List.replicate_succ,List.replicate_succ];exact .cons .no ih
   have key:∀(ds:List D) (vs:List V) (l:List (Option V)) (q:List B),Reps K G ds vs->Paired (RB K H G H) l q->Paired (RB K H G H) (vs.map some++l) (ds.map .fz++q):=by
     intro ds
     induction ds with
     | nil=>intro vs l q h p;rw[reps_nil] at h;subst h;exact p
     | cons d r ih =>
       intro vs l q h p
       obtain⟨v,vr,rfl,h1,h2⟩:=reps_cons.mp h
       exact .cons (.fz h1) (ih vr l q h2 p)
   exact key ds vs _ _ r (rep _)
 · unfold qG at h1
   by_cases hi:i < ds.length
   · rw[List.getElem?_append_left (by simpa using hi),List.getElem?_map] at h1
     obtain⟨k,_,h1⟩:=Option.map_eq_some_iff.mp h1
     cases h1
   · rw[List.getElem?_append_right (by simpa using hi),List.getElem?_replicate] at h1
     split at h1<;>cases h1
section
variable {P:Program} {w:World} {K:PySem.W.Frag} {mg:Str->Option Value} {base:Heap} {x qual:Str} {st:Stmt} {f:Addr} {fd:FuncData} {N ps:List Str} {k:Nat}
theorem wY {body:Sf}(F:Fun K x qual st f fd)(S:FnScope N ps (zX st))
   (hb:∀(cdv:Value) (A:Around) (outer:List Env) (s:Shared) (H:Hp) (E:XK),Room k (A.deeper (envOfC qual (zX st) s.heap.objs.size f cdv))->bF (aH CX0 P w K mg base N qual (zX st) f cdv A outer s H E).nox (zQ st) body) :
   FnOk P w K mg base CX0 (k+1) f fd ps (spF K ps.length (fnF N.length body)):=by
 refine F.ok S (fun vs H Q E h=>?_) (fun cdv A outer s H vs Q E hr h=>⟨_,hb cdv A outer s H E hr,?_⟩)
 · obtain⟨G,ds,d,sub,rs,hl,_⟩:=h
   rw[←rs.length];exact hl
 · obtain⟨G,ds,d,sub,rs,hl,hf,k⟩:=h
   unfold fnF at hf
   obtain⟨o,h1,h2⟩:=Option.bind_eq_some_iff.mp hf
   refine⟨G,H,G,_,o,cR sub rs,h1,?_⟩
   cases o with
   | nx ρ=>cases h2;exact fun σ' H' G' s' g'=>k .non H' G' g'.st (rep_non.mpr rfl)
   | rt e=>cases h2;exact fun v H' G' s' r=>k v H' G' s' r
   | rl es=>cases h2;exact fun p us H' G' s' hn hp gp r=>k _ H' (upd G' p (.lst us)) (s'.frz hn hp gp) (rep_lst.mpr ⟨p,us,rfl,.of zD,r.mono (Same.new gp)⟩)
   | bk ρ=>cases h2
   | ct ρ=>cases h2
theorem jF {body:Sf}(F:Fun K x qual st f fd)(S:FnScope N ps (zX st))
   (hb:∀(cdv:Value) (A:Around) (outer:List Env) (s:Shared) (H:Hp) (E:XK),Room k (A.deeper (envOfC qual (zX st) s.heap.objs.size f cdv))->bF (aH CX0 P w K mg base N qual (zX st) f cdv A outer s H E).nox (zQ st) body) :
   FnOk P w K mg base CX0 (k+1) f fd ps (spL K ps.length (fnL N.length body)):=by
 refine F.ok S (fun vs H Q E h=>?_) (fun cdv A outer s H vs Q E hr h=>⟨_,hb cdv A outer s H E hr,?_⟩)
 · obtain⟨G,ds,d,sub,rs,hl,_⟩:=h
   rw[←rs.length];exact hl
 · obtain⟨G,ds,d,sub,rs,hl,hf,k⟩:=h
   unfold fnL at hf
   obtain⟨o,h1,h2⟩:=Option.bind_eq_some_iff.mp hf
   refine⟨G,H,G,_,o,cR sub rs,h1,?_⟩
   cases o with
   | rl es=>cases h2;exact fun p us H' G' s' hn hp gp r=>k p us H' G' s' hn hp gp r
   | _=>cases h2
theorem zSG {CX:CXT}{n:Nat}:FnOk P w K mg base CX k f fd ps (spF K n fun _=>none) :=
 ⟨fun vs H Q E h=>(by obtain⟨_,_,_,_,_,_,z,_⟩:=h;exact nomatch z),fun A outer s H args us vs Q E _ _ _ _ h=>(by obtain⟨_,_,_,_,_,_,z,_⟩:=h;exact nomatch z)⟩
end
section
variable {X:Cx} {a b c e tg elt iter:Expr} {es ifs:List Expr} {fa fb fc:Ef} {ga gi:Lf} {ta tc:Tf} {pos p:Pos} {st:Stmt} {sts rest:List Stmt} {f g:Sf}
def zM (n:Nat)(f:List D->Option D)(g:Lf):Ef:=fun ρ=>(g ρ).bind fun ds=>if ds.length=n then f ds else none
theorem zC {k n:Nat}{fad:Addr}{fd:FuncData}{ps:List Str}{x:Str}{fD:List D->Option D}(F:FnOk X.prog X.w X.K X.mg X.base CX0 k fad fd ps (spF X.K n fD))(hr:Room k X.A)(hm:X.mg x=some (.ref fad))(hk:PySem.W.keepIn X.K (.ref fad)=true)(hb:Binds X.K fd ps [])(hg:Gl X x)
   (ha:PFA X (e::es) ga) (hdb:(x==("__debug__":Str))=false:=by decide) (he:starEach (e::es) X.env=(false,eval e X.env)::starEach es X.env:=by rfl) (hpl:(backTo pos (starEach es X.env)).any (·.1)=false:=by rfl) :
   PF X (.Call (.Name x p) (e::es) [] pos) (zM n fD ga):=by
 refine PE.to (zVn (E:=E0) F hr hg hm hk hb .nil zVl ha hdb he hpl) ?_
 rintro σ H Q ⟨G0,H0,G,ρ,d,good,hf,k⟩
 unfold zM at hf
 obtain⟨ds,h1,hf⟩:=Option.bind_eq_some_iff.mp hf
 split at hf
 · rename_i hl
   refine⟨G0,H0,G,ρ,_,good,h1,fun vs H1 G1 s1 r1=>?_⟩
   show spF X.K n fD (vs++[]) H1 Q E0
   rw[List.append_nil]
   exact⟨G1,ds,d,s1.sub,r1,hl,hf,fun v H' G' s r=>k v H' G' (s1.trans s) r⟩
 · cases hf
def xD (n:Nat)(f:List D->Option (List D))(g:Lf):Lf:=fun ρ=>(g ρ).bind fun ds=>if ds.length=n then f ds else none
theorem tM {k n:Nat}{fad:Addr}{fd:FuncData}{ps:List Str}{x:Str}{fD:List D->Option (List D)}(F:FnOk X.prog X.w X.K X.mg X.base CX0 k fad fd ps (spL X.K n fD))(hr:Room k X.A)(hm:X.mg x=some (.ref fad))(hk:PySem.W.keepIn X.K (.ref fad)=true)(hb:Binds X.K fd ps [])(hg:Gl X x)
   (ha:PFA X (e::es) ga) (hdb:(x==("__debug__":Str))=false:=by decide) (he:starEach (e::es) X.env=(false,eval e X.env)::starEach es X.env:=by rfl) (hpl:(backTo pos (starEach es X.env)).any (·.1)=false:=by rfl) :
   PFr X (.Call (.Name x p) (e::es) [] pos) (xD n fD ga):=by
 refine PE.toR (zVn (E:=E0) F hr hg hm hk hb .nil zVl ha hdb he hpl) ?_
 rintro σ H Q ⟨G0,H0,G,ρ,d,good,hf,k⟩
 unfold xD at hf
 obtain⟨ds,h1,hf⟩:=Option.bind_eq_some_iff.mp hf
 split at hf
 · rename_i hl
   refine⟨G0,H0,G,ρ,_,good,h1,fun vs H1 G1 s1 r1=>?_⟩
   show spL X.K n fD (vs++[]) H1 Q E0
   rw[List.append_nil]
   exact⟨G1,ds,d,s1.sub,r1,hl,hf,fun p us H' G' s hn hp gp r=>k p us H' G' (s1.trans s) (s1.hh.free hn) hp gp r⟩
 · cases hf
def uT (t:Tf)(body:Sf):Nat->Sf
 | 0,_=>none
 | n+1,ρ=>(t ρ).bind fun c=>if c=true then(body ρ).bind fun o=>match o with
     | .nx ρ2=>uT t body n ρ2
     | .ct ρ2=>uT t body n ρ2
     | .bk ρ2=>some (.nx ρ2)
     | o=>some o
   else some (.nx ρ)
theorem zZ6 (n:Nat){body:List Stmt}{fb:Sf}(hp:PassesOwn (model X.prog X.w) X.A X.env X.xe)(hc:PFT X c tc)(hb:bF X body fb):PFS X (.While c body [] pos) (uT tc fb n):=by
 refine PS.to (zSV hp hc hb) ?_
 rintro D σ H ⟨G0,H0,G,ρ,o,good,hf,k⟩
 refine⟨fun m σ H=>∃G2 ρ2,Same G G2/\Good X.K G0 H0 G2 H σ ρ2/\uT tc fb m ρ2=some o,⟨n,G,ρ,Same.refl _,good,hf⟩,?_⟩
 rintro m σ2 H2 ⟨G2,ρ2,sg,good2,hf2⟩
 cases m with
 | zero=>cases hf2
 | succ m =>
   unfold uT at hf2
   obtain⟨c',h1,hf2⟩:=Option.bind_eq_some_iff.mp hf2
   refine⟨G0,H0,G2,ρ2,c',good2,h1,fun H3 G3 s3=>?_⟩
   cases c' with
   | true =>
     rw[if_pos rfl] at hf2
     obtain⟨o1,e2,hf2⟩:=Option.bind_eq_some_iff.mp hf2
     refine⟨fun σ' H'=>∃G2 ρ2,Same G G2/\Good X.K G0 H0 G2 H' σ' ρ2/\uT tc fb m ρ2=some o,fun σ' H' h=>⟨m,Nat.lt_succ_self _,h⟩,?_⟩
     refine⟨G0,H0,G3,ρ2,o1,good2.step s3,e2,?_⟩
     have sg3:Same G G3:=sg.trans s3.gg
     cases o1 with
     | nx ρ5=>exact fun σ5 H5 G5 s5 good5=>⟨G5,ρ5,sg3.trans s5,good5,hf2⟩
     | ct ρ5=>exact fun σ5 H5 G5 s5 good5=>⟨G5,ρ5,sg3.trans s5,good5,hf2⟩
     | bk ρ5=>cases hf2;exact fun σ5 H5 G5 s5 good5=>k σ5 H5 G5 (sg3.trans s5) good5
     | rt d=>cases hf2;exact k
     | rl d=>cases hf2;exact k
   | false =>
     rw[if_neg (by decide)] at hf2
     cases hf2
     exact k σ2 H3 G3 (sg.trans s3.gg) (good2.step s3)
def tyD:D->Option String
 | .non=>some "NoneType"
 | .bl _=>some "bool"
 | .int _=>some "int"
 | .str _=>some "str"
 | .tup _=>some "tuple"
 | .lst _=>some "list"
 | _=>none
theorem zPa {pins:List (Addr×Obj)}{σ:St}{H G:Hp}{s:Shared}{A:Around}{E:Value->Shared->Prop}{Q:Value->Shared->Prop}{d:D}{v:V}{u cl:Value}{t:String}{k:Bool}(I:Inv X pins σ H s)(rv:RelV v u)(sub:Same G H)(r:Rep X.K G d v)(ht:tyD d=some t)
   (e:PySem.W.kitOne X.K (.type t) cl=some k) (h:∀tk,Q (.bool k) { s with toks:=tk }):wpAny (model X.prog X.w) A (call (.builtin "isinstance") [u,cl]) Q E s:=by
 cases d with
 | non=>cases ht;rw[rep_non] at r;subst r;cases rv;exact PySem.W.kia_one PySem.W.kitx_none I.kIn True.intro e (fun z=>nomatch z) h
 | bl y=>cases ht;rw[rep_bl] at r;subst r;cases rv;exact PySem.W.kia_one PySem.W.kitx_bool I.kIn True.intro e (fun z=>nomatch z) h
 | int i=>cases ht;rw[rep_int] at r;subst r;obtain⟨t,rfl⟩:=rv;exact PySem.W.kia_one PySem.W.kitx_int I.kIn True.intro e (fun z=>nomatch z) h
 | str i=>cases ht;rw[rep_str] at r;subst r;obtain⟨t,rfl⟩:=rv;exact PySem.W.kia_one PySem.W.kitx_str I.kIn True.intro e (fun z=>nomatch z) h
 | tup ds =>
   cases ht
   obtain⟨p,vs,rfl,q,_⟩:=rep_tup.mp r
   cases rv
   obtain⟨its,_,⟨o,h1,h2,_⟩,_⟩:=I.tuple (sub.tup q)
   exact PySem.W.kia_one PySem.W.kitx_tuple I.kIn ⟨o,h1,h2⟩ e (fun z=>nomatch z) h
 | lst ds =>
   cases ht
   obtain⟨p,vs,rfl,q,_⟩:=rep_lst.mp r
   cases rv
   obtain⟨its,_,⟨o,n,h1,h2,_⟩,_⟩:=I.list (sub.seq q)
   exact PySem.W.kia_one PySem.W.kitx_list I.kIn ⟨o,h1,h2⟩ e (fun z=>nomatch z) h
 | obj C ns ds=>cases ht
 | exc C ns ds=>cases ht
theorem zRD (K:PySem.W.Frag):∀t:String,t∈["NoneType","bool","int","str","tuple","list"]->PySem.W.kitOne K (.type t) (.type "int")=some (decide (t="bool"∨t="int")):=by
 intro t ht
 simp only[List.mem_cons,List.not_mem_nil,or_false] at ht
 rcases ht with rfl | rfl | rfl | rfl | rfl | rfl<;>kernel_rfl
theorem zTc (K:PySem.W.Frag):∀t:String,t∈["NoneType","bool","int","str","tuple","list"]->PySem.W.kitOne K (.type t) (.type "bool")=some (decide (t="bool")):=by
 intro t ht
 simp only[List.mem_cons,List.not_mem_nil,or_false] at ht
 rcases ht with rfl | rfl | rfl | rfl | rfl | rfl<;>kernel_rfl
theorem zRK (K:PySem.W.Frag):∀t:String,t∈["NoneType","bool","int","str","tuple","list"]->PySem.W.kitOne K (.type t) (.type "str")=some (decide (t="str")):=by
 intro t ht
 simp only[List.mem_cons,List.not_mem_nil,or_false] at ht
 rcases ht with rfl | rfl | rfl | rfl | rfl | rfl<;>kernel_rfl
theorem zUH (K:PySem.W.Frag):∀t:String,t∈["NoneType","bool","int","str","tuple","list"]->PySem.W.kitOne K (.type t) (.type "tuple")=some (decide (t="tuple")):=by
 intro t ht
 simp only[List.mem_cons,List.not_mem_nil,or_false] at ht
 rcases ht with rfl | rfl | rfl | rfl | rfl | rfl<;>kernel_rfl
theorem zTu (K:PySem.W.Frag):∀t:String,t∈["NoneType","bool","int","str","tuple","list"]->PySem.W.kitOne K (.type t) (.type "list")=some (decide (t="list")):=by
 intro t ht
 simp only[List.mem_cons,List.not_mem_nil,or_false] at ht
 rcases ht with rfl | rfl | rfl | rfl | rfl | rfl<;>kernel_rfl
theorem iQ {d:D}{t:String}(h:tyD d=some t):t∈["NoneType","bool","int","str","tuple","list"]:=by
 cases d<;>cases h<;>simp
def rL (p:D->Bool)(f:Ef):Ef:=fun ρ=>(f ρ).bind fun d=>match d with | .obj _ _ _=>none | .exc _ _ _=>none | d=>some (.bl (p d))
def isInt:D->Bool | .int _=>true | .bl _=>true | _=>false
def nP:D->Bool | .bl _=>true | _=>false
def oY:D->Bool | .str _=>true | _=>false
def mL:D->Bool | .tup _=>true | _=>false
def mM:D->Bool | .lst _=>true | _=>false
theorem nB {T:Str}{TT:String}{q:D->Bool}{p1:Pos}(hT:bootBuiltins T=some (.type TT))(hq:∀(K:PySem.W.Frag) d t,tyD d=some t->PySem.W.kitOne K (.type t) (.type TT)=some (q d))(hg:Gl X "isinstance")(hm:X.mg "isinstance"=none)(hgT:Gl X T)(hmT:X.mg T=none)(h:PF X a fa)
   (hn:T≠"__name__":=by decide) (hd:(T==("__debug__":Str))=false:=by decide) (hs:starEach [a,.Name T p1] X.env=[(false,eval a X.env),(false,eval (.Name T p1) X.env)]:=by rfl):PF X (.Call (.Name "isinstance" p) [a,.Name T p1] [] pos) (rL q fa):=by
 have hcall:CallR X (.builtin "isinstance") (fun xs H Q=>∃x G d,xs=[x,.ty TT]/\Same G H/\Rep X.K G d x/\(tyD d).isSome=true/\Q (.bl (q d)) H):=by
   intro pins s σ H xs us Q I r hh
   obtain⟨x,G,d,rfl,sub,rx,ht,qq⟩:=hh
   obtain⟨u,u',rfl,ru,ru'⟩:=zSx r
   cases ru'
   obtain⟨t,ht⟩:=Option.isSome_iff_exists.mp ht
   exact zPa I ru sub rx ht (hq _ d t ht) fun tk=>⟨.bl (q d),H,I.tok tk,rfl,qq⟩
 refine PE.to (rA hcall hg hm (by rfl) (yW h (yW (zRI (v:=.ty TT) hgT hmT hT rfl hn hd) yI) (by rw[hs];rfl)) (by decide) (by decide) (by rw[hs];rfl) (by rfl)) ?_
 rintro σ H Q ⟨G0,H0,G,ρ,d,good,hf,k⟩
 unfold rL at hf
 obtain⟨x,h1,hf⟩:=Option.bind_eq_some_iff.mp hf
 refine⟨G0,H0,G,ρ,_,good,h1,fun v H1 G1 s1 r1=>?_⟩
 have hx:(tyD x).isSome=true/\d = .bl (q x):=by
   cases x<;>first
     | (cases hf;exact⟨rfl,rfl⟩)
     | cases hf
 obtain⟨hx,rfl⟩:=hx
 exact⟨v,G1,x,rfl,s1.sub,r1,hx,k _ _ G1 s1 (rep_bl.mpr rfl)⟩
theorem zSo (K:PySem.W.Frag)(d:D)(t:String)(h:tyD d=some t):PySem.W.kitOne K (.type t) (.type "int")=some (isInt d):=by
 rw[zRD K t (iQ h)];cases d<;>cases h<;>simp[isInt,nP,oY,mL,mM]
theorem zR1 (K:PySem.W.Frag)(d:D)(t:String)(h:tyD d=some t):PySem.W.kitOne K (.type t) (.type "bool")=some (nP d):=by
 rw[zTc K t (iQ h)];cases d<;>cases h<;>simp[isInt,nP,oY,mL,mM]
theorem zT9 (K:PySem.W.Frag)(d:D)(t:String)(h:tyD d=some t):PySem.W.kitOne K (.type t) (.type "str")=some (oY d):=by
 rw[zRK K t (iQ h)];cases d<;>cases h<;>simp[isInt,nP,oY,mL,mM]
theorem zTI (K:PySem.W.Frag)(d:D)(t:String)(h:tyD d=some t):PySem.W.kitOne K (.type t) (.type "tuple")=some (mL d):=by
 rw[zUH K t (iQ h)];cases d<;>cases h<;>simp[isInt,nP,oY,mL,mM]
theorem zS2 (K:PySem.W.Frag)(d:D)(t:String)(h:tyD d=some t):PySem.W.kitOne K (.type t) (.type "list")=some (mM d):=by
 rw[zTu K t (iQ h)];cases d<;>cases h<;>simp[isInt,nP,oY,mL,mM]
def zUM:List D->Option (List Bool)
 | []=>some []
 | .bl k::r=>(zUM r).map fun ks=>k::ks
 | _=>none
def zUX (f:Ef):Ef:=fun ρ=>(f ρ).bind fun d=>match d with | .lst ds=>(zUM ds).map fun ks=>.bl (ks.all id) | _=>none
theorem zUD (hc:X.calm=true):CallR X (.builtin "all") (fun xs H Q=>∃(p:Addr) (ks:List Bool),xs=[V.ref p]/\SqL X.K H p (ks.map V.bl)/\Q (.bl (ks.all id)) H):=by
 intro pins s σ H xs us Q I r h
 obtain⟨p,ks,rfl,hq,q⟩:=h
 obtain⟨u,rfl,ru⟩:=pZ r
 cases ru
 obtain⟨its,rv,pl,hz⟩:=I.list hq
 have hks:∀(i:Nat) (v:Value),its[i]?=some v->∃k,ks[i]?=some k/\v=Value.bool k:=fun i v e=>by
   have hi:i < ks.length:=by have:=rv.length;rw[List.length_map] at this;rw[this];exact(List.getElem?_eq_some_iff.mp e).1
   obtain⟨u,e1,r1⟩:=rv.get (i:=i) (x:=.bl ks[i]) (by rw[List.getElem?_map,List.getElem?_eq_getElem hi];rfl)
   rw[e] at e1;cases e1
   exact⟨ks[i],List.getElem?_eq_getElem hi,r1⟩
 have hlen:its.length=ks.length:=by have:=rv.length;rw[List.length_map] at this;exact this.symm
 refine call_all_walk (wpAny_pyIter_list pl.isList ?_)
 have hne:p≠s.heap.objs.size:=by obtain⟨o,_,e,_⟩:=pl;exact Nat.ne_of_lt (Heap.lt_size e)
 refine⟨s.heap.objs.size,_,_,_,_,_,fun i=>(ks[i]?).getD true,rfl,Walks.list (A:=X.A.in1) (I.ok.hd hc) s.heap.objs.size p hne its.toArray,⟨⟨_,Heap.get?_push_size _ rfl,rfl,rfl⟩,pl.isList.push _⟩,?_,fun h' tk hk=>?_⟩
 · intro i v s' Q' E' hv hQ'
   obtain⟨k,e1,rfl⟩:=hks i v (by simpa using hv)
   have hQ2:Q' ((ks[i]?).getD true) s':=hQ'
   rw[e1] at hQ2
   exact wpAny_truthy_bool hQ2
 · have hI:Inv X pins σ H { s with heap:=h',toks:=tk }:=I.kept fun b o e=>hk b o (by simp;exact Nat.ne_of_lt (Heap.lt_size e)) (Heap.get?_push_of_some _ e)
   have e:((List.range its.toArray.size).all fun i=>(ks[i]?).getD true)=ks.all id:=by
     rw[List.size_toArray,hlen]
     rw[Bool.eq_iff_iff]
     simp only[List.all_eq_true,List.mem_range,id]
     constructor
     · intro h x hx
       obtain⟨i,hi,rfl⟩:=List.getElem_of_mem hx
       have:=h i hi
       rw[List.getElem?_eq_getElem hi] at this
       exact this
     · intro h i hi
       rw[List.getElem?_eq_getElem hi]
       exact h _ (List.getElem_mem hi)
   rw[e]
   exact⟨.bl (ks.all id),H,hI,rfl,q⟩
theorem zXG {K:PySem.W.Frag}{G:Hp}:∀ {ds:List D} {vs:List V} {ks:List Bool},zUM ds=some ks->Reps K G ds vs->vs=ks.map V.bl
 | [],_,_,h,r=>by cases h;rw[reps_nil] at r;rw[r];rfl
 | d::t,_,_,h,r=>by
   unfold zUM at h
   split at h
   · rename_i h';cases h'
   · rename_i k t' h'
     cases h'
     obtain⟨v,vr,rfl,r1,r2⟩:=reps_cons.mp r
     obtain⟨ks,h1,rfl⟩:=Option.map_eq_some_iff.mp h
     rw[zXG h1 r2,rep_bl.mp r1];rfl
   · cases h
theorem zPx (hc:X.calm=true)(hg:Gl X "all")(hm:X.mg "all"=none)(h:PF X a fa)(hs:starEach [a] X.env=[(false,eval a X.env)]:=by rfl):PF X (.Call (.Name "all" p) [a] [] pos) (zUX fa):=by
 refine PE.to (rA (zUD hc) hg hm (by rfl) (yW h yI (by rw[hs];rfl)) (by decide) (by decide) (by rw[hs];rfl) (by rfl)) ?_
 rintro σ H Q ⟨G0,H0,G,ρ,d,good,hf,k⟩
 unfold zUX at hf
 obtain⟨x,h1,hf⟩:=Option.bind_eq_some_iff.mp hf
 cases x with
 | lst ds =>
   dsimp only at hf
   obtain⟨ks,h2,rfl⟩:=Option.map_eq_some_iff.mp hf
   refine⟨G0,H0,G,ρ,_,good,h1,fun v H1 G1 s1 r1=>?_⟩
   obtain⟨p,vs,rfl,q,rs⟩:=rep_lst.mp r1
   have e:=zXG h2 rs
   subst e
   exact⟨p,ks,rfl,s1.sub.seq q,k _ _ G1 s1 (rep_bl.mpr rfl)⟩
 | _=>cases hf
end
end L2
namespace L2
open PySem PySem.Spec PyProof.Rows
theorem Inv.turnedNew {X:Cx}{pins:List (Addr×Obj)}{σ:St}{H:Hp}{s:Shared}{h':Heap}{t':Nat}{fp:List Addr}{T:Addr}{o:HO}(I:Inv X pins σ H s)(k:∀b u,b∉fp->s.heap.get? b=some u->h'.get? b=some u)
   (hf:∀b∈fp,oV X pins H b) (hT:s.heap.objs.size<=T) (new:ObjOk X.prog X.w (upd H T o) h' T o):Inv X pins σ (upd H T o) { s with heap:=h',toks:=t' }:=by
 have fr:H T=none:=I.hok.fresh hT
 have neT:∀b u,s.heap.get? b=some u->b≠T:=fun b u e=>Nat.ne_of_lt (Nat.lt_of_lt_of_le (Heap.lt_size e) hT)
 have nfp:∀b u,H b=some u->b∉fp:=fun b u e z=>by have:=(hf b z).1;rw[e] at this;cases this
 refine I.step (g':=s.gens) (d':=s.drawn) (ch:=fp) (fun b hb=>⟨(hf b hb).2.2.2.1,(hf b hb).2.1,(hf b hb).2.2.2.2.1,(hf b hb).2.2.2.2.2⟩) (fun b u _ _ hc e _=>k b u hc e)
   (fun b u _ _ hc e _=>⟨u.slots,k b u hc e⟩) (fun b u _ e n=>by rw[yX (neT b u e)];exact n) (fun b u hc e=>⟨u,k b u hc e⟩)
   (fun b xs e=>by rw[yX (yC e fr)];exact e) (fun b u x e=>by rw[yX (yC e fr)];exact e) (fun b ps e=>⟨#[],by rw[yX (yC e fr),e];simp⟩) (fun m hm=>?_) (fun b u e=>?_) I.bare
 · obtain⟨ob,es,ep,ho,r⟩:=hm
   exact⟨ob,es,ep,k _ ob (fun z=>(hf _ z).2.1 rfl) ho,r⟩
 · by_cases hb:b=T
   · subst hb;rw[zD] at e;cases e;exact new
   · rw[yX hb] at e
     refine(I.hok b u e).stay (fun c v hc q=>k c v ?_ q) (fun c q=>by rw[yX (yC q fr)];exact q) fun c xs q=>by rw[yX (yC q fr)];exact q
     rcases hc with z | z
     · rw[z];exact nfp b u e
     · exact nfp c _ z
theorem Inv.turnedL {X:Cx}{pins:List (Addr×Obj)}{σ:St}{H:Hp}{s:Shared}{h':Heap}{t':Nat}{fp:List Addr}(I:Inv X pins σ H s)(k:∀b u,b∉fp->s.heap.get? b=some u->h'.get? b=some u)
   (hf:∀b∈fp,oV X pins H b):Inv X pins σ H { s with heap:=h',toks:=t' }:=by
 have nfp:∀b u,H b=some u->b∉fp:=fun b u e z=>by have:=(hf b z).1;rw[e] at this;cases this
 refine I.step (g':=s.gens) (d':=s.drawn) (ch:=fp) (fun b hb=>⟨(hf b hb).2.2.2.1,(hf b hb).2.1,(hf b hb).2.2.2.2.1,(hf b hb).2.2.2.2.2⟩) (fun b u _ _ hc e _=>k b u hc e)
   (fun b u _ _ hc e _=>⟨u.slots,k b u hc e⟩) (fun b u _ e n=>n) (fun b u hc e=>⟨u,k b u hc e⟩) (fun b xs e=>e) (fun b u x e=>e) (fun b ps e=>⟨#[],by rw[e];simp⟩) (fun m hm=>?_) (fun b u e=>?_) I.bare
 · obtain⟨ob,es,ep,ho,r⟩:=hm
   exact⟨ob,es,ep,k _ ob (fun z=>(hf _ z).2.1 rfl) ho,r⟩
 · refine(I.hok b u e).stay (fun c v hc q=>k c v ?_ q) (fun c q=>q) fun c xs q=>q
   rcases hc with z | z
   · rw[z];exact nfp b u e
   · exact nfp c _ z
section
variable {X:Cx} {a b c e tg elt iter:Expr} {es ifs:List Expr} {fa fb fc:Ef} {ga gb gi:Lf} {ta tc:Tf} {pos p:Pos} {st:Stmt}
def numbered (ds:List D):List D:=ds.zipIdx.map fun q=>D.tup [.int (q.2:Nat),q.1]
def zRJ (K:PySem.W.Frag)(f:Lf):TE:=fun σ H Q=>∃G0 H0 G ρ ds,Good K G0 H0 G H σ ρ/\f ρ=some ds/\∀a vs H' G',Step G H G' H'->SqL K G' a vs->Reps K G' ds vs->Q (.ref a) H'
def zXh (X:Cx)(e:Expr)(f:Lf):Prop:=PE X e (zRJ X.K f)
theorem pS (h:PFr X e ga):zXh X e ga:=fun pins s σ H Q I q=>h pins s σ H Q I (by
 obtain⟨G0,H0,G,ρ,ds,good,hf,k⟩:=q
 exact⟨G0,H0,G,ρ,ds,good,hf,fun p vs H' G' s hn hp gp rs=>k p vs H' (upd G' p (.lst vs)) (s.frz hn hp gp) (.of zD) (rs.mono (Same.new gp))⟩)
theorem kL (h:PF X e fa):zXh X e (iL fa):=fun pins s σ H Q I q=>h pins s σ H Q I (by
 obtain⟨G0,H0,G,ρ,ds,good,hf,k⟩:=q
 unfold iL at hf
 obtain⟨d,h1,hf⟩:=Option.bind_eq_some_iff.mp hf
 cases d with
 | lst es =>
   cases hf
   refine⟨G0,H0,G,ρ,_,good,h1,fun x H1 G1 s1 r1=>?_⟩
   obtain⟨p,vs,rfl,q,rs⟩:=rep_lst.mp r1
   exact k p vs H1 G1 s1 q rs
 | _=>cases hf)
def rJ (f g:Lf):Lf:=fun ρ=>(f ρ).bind fun xs=>(g ρ).bind fun ys=>okL (xs++ys)
theorem zW4 (ha:PFr X a ga)(hb:PFr X b gb):PFr X (.BinOp a .Add b pos) (rJ ga gb):=by
 refine PE.toR (zZQ zQe ha hb) ?_
 rintro σ H Q ⟨G0,H0,G,ρ,d,good,hf,k⟩
 unfold rJ at hf
 obtain⟨xs,h1,hf⟩:=Option.bind_eq_some_iff.mp hf
 obtain⟨ys,h2,hf⟩:=Option.bind_eq_some_iff.mp hf
 obtain⟨rfl,h3⟩:=iF hf
 refine⟨G0,H0,G,ρ,_,good,h1,fun p vs H1 G1 s1 hn hp gp rs=>⟨G0,H0,G1,ρ,_,good.step s1,h2,fun q us H2 G2 s2 hn2 hq gq rs2=>?_⟩⟩
 refine⟨p,q,vs,us,rfl,rfl,s2.hh _ _ hp,hq,?_,fun l hl=>?_⟩
 · rw[←rs.length,←rs2.length,←List.length_append];exact Nat.le_of_lt (wD h3)
 · have s3:=Step.own (o:=.lst (vs++us)) s2.sub hl
   exact k l _ _ G2 ((s1.trans s2).trans s3) ((s1.trans s2).hh.free hl) zD (s2.sub.free hl) ((rs.mono s2.gg).append rs2)
abbrev Of:=List B->Option (Option Int)
def tFO (K:PySem.W.Frag)(f:Of):TO:=fun σ H Q=>∃G0 H0 G ρ o,Good K G0 H0 G H σ ρ/\f ρ=some o/\∀H' G',Step G H G' H'->Q o H'
def PFO (X:Cx)(e:Option Expr)(f:Of):Prop:=PO X e (tFO X.K f)
def oNo:Of:=fun _=>some none
def mH (f:Ef):Of:=fun ρ=>(f ρ).bind fun d=>match d with | .int i=>some (some i) | _=>none
theorem zQM:PFO X none oNo:=fun pins s σ H Q I h=>zRz pins s σ H Q I (by
 obtain⟨G0,H0,G,ρ,o,good,hf,k⟩:=h
 cases hf
 exact k H G (.refl good.sub))
theorem zV7 (h:PF X e fa):PFO X (some e) (mH fa):=fun pins s σ H Q I q=>zRP h pins s σ H Q I (by
 obtain⟨G0,H0,G,ρ,o,good,hf,k⟩:=q
 unfold mH at hf
 obtain⟨d,h1,hf⟩:=Option.bind_eq_some_iff.mp hf
 cases d with
 | int i=>cases hf;exact⟨G0,H0,G,ρ,_,good,h1,fun v H' G' s r=>⟨i,rep_int.mp r,k H' G' s⟩⟩
 | _=>cases hf)
def zRG (xs:List D)(lo hi:Option Int):List D:=(xs.drop (HT.sIx xs.length 0 lo)).take (HT.sIx xs.length xs.length hi - HT.sIx xs.length 0 lo)
def pO (f:Ef)(lo hi:Of):Lf:=fun ρ=>(f ρ).bind fun d=>(lo ρ).bind fun l=>(hi ρ).bind fun u=>match d with | .lst ds=>some (zRG ds l u) | _=>none
theorem zX3 {lo hi:Option Expr}{fl fh:Of}{p2:Pos}(ha:PF X a fa)(hl:PFO X lo fl)(hh:PFO X hi fh):PFr X (.Subscript a (.Slice lo hi none p2) pos) (pO fa fl fh):=by
 refine PE.toR (zTA zRw ha hl hh) ?_
 rintro σ H Q ⟨G0,H0,G,ρ,d,good,hf,k⟩
 unfold pO at hf
 obtain⟨x,h1,hf⟩:=Option.bind_eq_some_iff.mp hf
 obtain⟨l,h2,hf⟩:=Option.bind_eq_some_iff.mp hf
 obtain⟨u,h3,hf⟩:=Option.bind_eq_some_iff.mp hf
 cases x with
 | lst ds =>
   cases hf
   refine⟨G0,H0,G,ρ,_,good,h1,fun v H1 G1 s1 r1=>⟨G0,H0,G1,ρ,_,good.step s1,h2,fun H2 G2 s2=>⟨G0,H0,G2,ρ,_,(good.step s1).step s2,h3,fun H3 G3 s3=>?_⟩⟩⟩
   obtain⟨q,vs,rfl,hq,rs⟩:=rep_lst.mp r1
   have s23:=s2.trans s3
   refine⟨q,vs,rfl,s23.hh |> fun z=>(s1.sub.trans z).seq hq,fun p hp=>?_⟩
   have s4:=Step.own (o:=.lst (zUR vs l u)) s23.sub hp
   refine k p _ _ G3 ((s1.trans s23).trans s4) ((s1.trans s23).hh.free hp) zD (s23.sub.free hp) ?_
   unfold zUR zRG
   rw[←rs.length]
   exact((rs.mono s23.gg).drop _).take _
 | _=>cases hf
end
end L2
namespace L2
open PySem PySem.Spec PyProof.Rows
section
variable {prog:Program} {w:World} {A:Around} {E:Value->Shared->Prop} {s:Shared}
theorem jI {it t:Addr}{i:Nat}{items:Array Value}{x:Value}{Q:Value->Shared->Prop}(hit:s.heap.IsTupleIter it t i)(ht:s.heap.IsTuple t items)(hx:items[i]?=some x)
   (hQ:∀h',h'.IsTupleIter it t (i+1)->Heap.SameBut it s.heap h'->Q x { s with heap:=h' }):wpAny (model prog w) A (Builtin.SmallTypes.nextOf (.ref it)) Q E s:=by
 obtain⟨o,h1,h2,h3⟩:=id hit
 obtain⟨ot,t1,_,n,t2⟩:=ht
 unfold Builtin.SmallTypes.nextOf
 refine wpAny_bind (wpAny_callSpecial?_slot (name:=Str.ofString "__next__") hit.typeIs F.slot_tuple_iterator_next (wpAny_call_entry F.slot_tuple_iterator_next hit.typeIs F.entry_tuple_iterator_next ?_ (F.args_tuple_iterator_next_1 _)))
 change wpAny _ _ (field (.ref it) 0 >>= _) _ _ s
 refine wpAny_bind (wpAny_field h1 h3 (x:=.ref t) rfl ?_)
 change wpAny _ _ (if (Value.ref t==Value.none)=true then _ else _) _ _ s
 rw[if_neg (by exact Bool.false_ne_true)]
 change wpAny _ _ (field (.ref it) 1 >>= _) _ _ s
 refine wpAny_bind (wpAny_field h1 h3 (x:=.int i 0) rfl ?_)
 change wpAny _ _ (seqItems? (.ref t) >>= _) _ _ s
 refine wpAny_bind (wpAny_seqItems t1 t2 ?_)
 simp only[Int.toNat_natCast,hx]
 refine wpAny_bind (wpAny_setField h1 h3 (by simp) (wpAny_pure ⟨x,rfl,wpAny_pure (hQ _ ⟨_,Heap.get?_update_self _ h1 (Obj.isFreed_of_fields (Obj.data_mapFields h3 _)),(Obj.cls_mapFields ..).trans h2,?_⟩ (Heap.SameBut.update ..))⟩))
 rw[Obj.data_mapFields h3]
 simp[rawInt]
theorem zZ9 {it t:Addr}{i:Nat}{items:Array Value}{Q:Value->Shared->Prop}(hh:A.handled=none)(hit:s.heap.IsTupleIter it t i)(ht:s.heap.IsTuple t items)(hx:items[i]?=none)
   (hE:∀h' e,Heap.ExtBut it s.heap h'->(∃o,h'.get? e=some o/\o.cls = .type "StopIteration")->E (.ref e) { s with heap:=h' }):wpAny (model prog w) A (Builtin.SmallTypes.nextOf (.ref it)) Q E s:=by
 obtain⟨o,h1,h2,h3⟩:=id hit
 obtain⟨ot,t1,_,n,t2⟩:=ht
 unfold Builtin.SmallTypes.nextOf
 refine wpAny_bind (wpAny_callSpecial?_slot (name:=Str.ofString "__next__") hit.typeIs F.slot_tuple_iterator_next (wpAny_call_entry F.slot_tuple_iterator_next hit.typeIs F.entry_tuple_iterator_next ?_ (F.args_tuple_iterator_next_1 _)))
 change wpAny _ _ (field (.ref it) 0 >>= _) _ _ s
 refine wpAny_bind (wpAny_field h1 h3 (x:=.ref t) rfl ?_)
 change wpAny _ _ (if (Value.ref t==Value.none)=true then _ else _) _ _ s
 rw[if_neg (by exact Bool.false_ne_true)]
 change wpAny _ _ (field (.ref it) 1 >>= _) _ _ s
 refine wpAny_bind (wpAny_field h1 h3 (x:=.int i 0) rfl ?_)
 change wpAny _ _ (seqItems? (.ref t) >>= _) _ _ s
 refine wpAny_bind (wpAny_seqItems t1 t2 ?_)
 simp only[Int.toNat_natCast,hx]
 refine wpAny_bind (wpAny_rule (wpAny_bind (wpAny_setField h1 h3 (by simp) ?_)))
 change wpAny _ _ (newExc (.type "StopIteration") [] >>= _) _ _ _
 refine wpAny_bind ?_
 simp only[newExc,newTuple]
 refine wpAny_bind (wpAny_newObj_type ?_ (by size_fits))
 refine wpAny_bind (m:=firstArgMember _ _) (wpAny_of_eq (a:=Value.none) (by first | rfl | (simp only[firstArgMember];rfl)) ?_)
 refine wpAny_newObj_type ?_ (by size_fits)
 simp only[raiseNew]
 refine wpAny_bind (wpAny_handled ?_)
 first | rw[show A.in1.handled=none from hh] | rw[hh]
 refine wpAny_bind (wpAny_pure (wpAny_throw ?_))
 exact hE _ _ (((Heap.SameBut.update ..).extBut.push _).push _) ⟨_,Heap.get?_push_size _ rfl,rfl⟩
structure ZApart (z TI TO i1 i2 l1 l2:Addr):Prop where
 a1:TI≠z
 a2:TO≠z
 a3:i1≠z
 a4:i2≠z
 a5:TI≠TO
 a6:TI≠i1
 a7:TI≠i2
 a8:TO≠i1
 a9:TO≠i2
 b1:i1≠i2
 b2:l1≠z
 b3:l1≠TO
 b4:l1≠i1
 b5:l1≠i2
 b6:l2≠z
 b7:l2≠TO
 b8:l2≠i1
 b9:l2≠i2
theorem zUy {z TI TO i1 i2 l1 l2:Addr}{k:Nat}{xs ys:Array Value}{x y a b:Value}{Q:Value->Shared->Prop}(D:ZApart z TI TO i1 i2 l1 l2)(hz:IsZip s.heap z TI TO .none)(hTI:IsPair s.heap TI (.ref i1) (.ref i2))(hTO:IsPair s.heap TO a b)
   (h1:s.heap.IsTupleIter i1 l1 k) (h2:s.heap.IsTupleIter i2 l2 k) (hl1:s.heap.IsTuple l1 xs) (hl2:s.heap.IsTuple l2 ys) (hx:xs[k]?=some x) (hy:ys[k]?=some y)
   (hQ:∀h',IsZip h' z TI TO (rawInt s.heap.objs.size)->IsPair h' TO x y->h'.IsTupleIter i1 l1 (k+1)->h'.IsTupleIter i2 l2 (k+1)->IsPair h' s.heap.objs.size x y ->
     (∀c o,c≠z->c≠TO->c≠i1->c≠i2->s.heap.get? c=some o->h'.get? c=some o)->Q (.ref s.heap.objs.size) { s with heap:=h' }) :
   wpAny (model prog w) A (Builtin.«zip.__next__» ⟨[.ref z],[]⟩) (fun fin s'=>∃v,fin = .done (.ret v)/\Q v s') E s:=by
 change wpAny _ _ (field (.ref z) 2 >>= _) _ _ _
 refine wpAny_bind (wpAny_field hz rfl (x:=.bool false) rfl ?_)
 change wpAny _ _ (field (.ref z) 3 >>= _) _ _ _
 refine wpAny_bind (wpAny_field hz rfl (x:=.ref TI) rfl (wpAny_bind (wpAny_seqItems hTI rfl ?_)))
 change wpAny _ _ (Builtin.SmallTypes.ownedTupleIsFree (.ref z) >>= _) _ _ _
 refine wpAny_bind ?_
 unfold Builtin.SmallTypes.ownedTupleIsFree
 refine wpAny_bind (wpAny_field hz rfl (x:=.none) rfl (wpAny_pure ?_))
 simp only[if_true]
 refine wpAny_bind (wpAny_rule (wpAny_bind (wpAny_field hz rfl (x:=.ref TO) rfl (wpAny_bind (wpAny_setField_rec hz (by simp) fun g1 z1 t1=>?_)))))
 have z1:IsZip g1 z TI TO .ellipsis:=z1
 refine wpAny_bind ?_
 simp only[List.zipIdx_cons,List.zipIdx_nil,List.forIn_cons,List.forIn_nil]
 refine wpAny_bind (wpAny_bind (wpAny_onRaise ?_))
 change wpAny _ _ (Builtin.SmallTypes.nextOf (.ref i1) >>= _) _ _ _
 refine wpAny_bind (jI (h1.extBut t1.extBut D.a3) (hl1.extBut t1.extBut D.b2) hx fun g2 u1 t2=>wpAny_pure ?_)
 have o2:IsPair g2 TO a b:=t2.extBut _ _ D.a8 (t1.extBut _ _ D.a2 hTO)
 refine wpAny_bind (wpAny_seqItems o2 rfl (wpAny_bind (wpAny_updateSeq_pair o2 fun g3 o3 t3=>?_)))
 have o3:IsPair g3 TO x b:=o3
 refine wpAny_bind (wpAny_letGo (wpAny_pure (wpAny_bind (wpAny_bind (wpAny_onRaise ?_)))))
 change wpAny _ _ (Builtin.SmallTypes.nextOf (.ref i2) >>= _) _ _ _
 refine wpAny_bind (jI (((h2.extBut t1.extBut D.a4).extBut t2.extBut D.b1.symm).extBut t3.extBut D.a9.symm) (((hl2.extBut t1.extBut D.b6).extBut t2.extBut D.b8).extBut t3.extBut D.b7) hy fun g4 u2 t4=>wpAny_pure ?_)
 have o4:IsPair g4 TO x b:=t4.extBut _ _ D.a9 o3
 refine wpAny_bind (wpAny_seqItems o4 rfl (wpAny_bind (wpAny_updateSeq_pair o4 fun g5 o5 t5=>?_)))
 have o5:IsPair g5 TO x y:=o5
 refine wpAny_bind (wpAny_letGo (wpAny_pure (wpAny_pure (wpAny_bind (wpAny_seqItems o5 rfl (wpAny_bind (wpAny_newTuple ?_)))))))
 have esz:g5.objs.size=s.heap.objs.size:=by rw[t5.1,t4.1,t3.1,t2.1,t1.1]
 have z5:IsZip g5 z TI TO .ellipsis:=t5.extBut _ _ D.a2.symm (t4.extBut _ _ D.a4.symm (t3.extBut _ _ D.a2.symm (t2.extBut _ _ D.a3.symm z1)))
 have k5:∀c o,c≠z->c≠TO->c≠i1->c≠i2->s.heap.get? c=some o->g5.get? c=some o:=fun c o c1 c2 c3 c4 e=>t5.extBut _ _ c2 (t4.extBut _ _ c4 (t3.extBut _ _ c2 (t2.extBut _ _ c3 (t1.extBut _ _ c1 e))))
 have p1:g5.IsTupleIter i1 l1 (k+1):=((u1.extBut t3.extBut D.a8.symm).extBut t4.extBut D.b1).extBut t5.extBut D.a8.symm
 have p2:g5.IsTupleIter i2 l2 (k+1):=u2.extBut t5.extBut D.a9.symm
 have lz:z < g5.objs.size:=Heap.lt_size z5
 change wpAny _ _ (Builtin.SmallTypes.ownedTupleHandOut (.ref z) (.ref g5.objs.size) >>= _) _ _ _
 refine wpAny_bind ?_
 unfold Builtin.SmallTypes.ownedTupleHandOut
 have z6:IsZip (g5.push { cls:=.type "tuple",data:=.seq #[x,y] }) z TI TO .ellipsis:=Heap.get?_push_of_some _ z5
 refine wpAny_bind (wpAny_setField_rec z6 (by simp) fun g7 z7 t7=>?_)
 have z7:IsZip g7 z TI TO (rawInt g5.objs.size):=z7
 refine wpAny_setField_rec z7 (by simp) fun g8 z8 t8=>?_
 have z8:IsZip g8 z TI TO (rawInt g5.objs.size):=z8
 have up:∀c o,c≠z->g5.get? c=some o->g8.get? c=some o:=fun c o c1 e=>t8.extBut _ _ c1 (t7.extBut _ _ c1 (Heap.get?_push_of_some _ e))
 have n8:IsPair g8 g5.objs.size x y:=t8.extBut _ _ (Nat.ne_of_gt lz) (t7.extBut _ _ (Nat.ne_of_gt lz) (Heap.get?_push_size _ rfl))
 rw[esz] at z8 n8
 refine wpAny_pure ⟨_,rfl,?_⟩
 change Q (.ref g5.objs.size) _
 rw[esz]
 obtain⟨q1,r1,w1⟩:=p1
 obtain⟨q2,r2,w2⟩:=p2
 exact hQ g8 z8 (up _ _ D.a2 o5) ⟨q1,up _ _ D.a3 r1,w1⟩ ⟨q2,up _ _ D.a4 r2,w2⟩ n8 fun c o c1 c2 c3 c4 e=>up c o c1 (k5 c o c1 c2 c3 c4 e)
theorem zTt {z TI TO i1 i2 l1 l2:Addr}{k:Nat}{xs ys:Array Value}{a b:Value}{Q:Fin->Shared->Prop}(hh:A.handled=none)(D:ZApart z TI TO i1 i2 l1 l2)(hz:IsZip s.heap z TI TO .none)(hTI:IsPair s.heap TI (.ref i1) (.ref i2))(hTO:IsPair s.heap TO a b)
   (h1:s.heap.IsTupleIter i1 l1 k) (h2:s.heap.IsTupleIter i2 l2 k) (hl1:s.heap.IsTuple l1 xs) (hl2:s.heap.IsTuple l2 ys) (hend:xs[k]?=none∨ys[k]?=none)
   (hE:∀h' e,(∀c o,c≠z->c≠TO->c≠i1->c≠i2->s.heap.get? c=some o->h'.get? c=some o)->(∃o,h'.get? e=some o/\o.cls = .type "StopIteration")->E (.ref e) { s with heap:=h' }) :
   wpAny (model prog w) A (Builtin.«zip.__next__» ⟨[.ref z],[]⟩) Q E s:=by
 change wpAny _ _ (field (.ref z) 2 >>= _) _ _ _
 refine wpAny_bind (wpAny_field hz rfl (x:=.bool false) rfl ?_)
 change wpAny _ _ (field (.ref z) 3 >>= _) _ _ _
 refine wpAny_bind (wpAny_field hz rfl (x:=.ref TI) rfl (wpAny_bind (wpAny_seqItems hTI rfl ?_)))
 change wpAny _ _ (Builtin.SmallTypes.ownedTupleIsFree (.ref z) >>= _) _ _ _
 refine wpAny_bind ?_
 unfold Builtin.SmallTypes.ownedTupleIsFree
 refine wpAny_bind (wpAny_field hz rfl (x:=.none) rfl (wpAny_pure ?_))
 simp only[if_true]
 refine wpAny_bind (wpAny_rule (wpAny_bind (wpAny_field hz rfl (x:=.ref TO) rfl (wpAny_bind (wpAny_setField_rec hz (by simp) fun g1 z1 t1=>?_)))))
 have z1:IsZip g1 z TI TO .ellipsis:=z1
 refine wpAny_bind ?_
 simp only[List.zipIdx_cons,List.zipIdx_nil,List.forIn_cons,List.forIn_nil]
 refine wpAny_bind (wpAny_bind (wpAny_onRaise ?_))
 change wpAny _ _ (Builtin.SmallTypes.nextOf (.ref i1) >>= _) _ _ _
 cases hx:xs[k]? with
 | none =>
   refine wpAny_bind (zZ9 hh (h1.extBut t1.extBut D.a3) (hl1.extBut t1.extBut D.b2) hx fun g2 e t2 he=>?_)
   obtain⟨oe,he1,he2⟩:=he
   have z2:IsZip g2 z TI TO .ellipsis:=t2 _ _ D.a3.symm z1
   have ne:e≠z:=fun q=>by subst q;rw[z2] at he1;cases he1;simp at he2
   exact wpAny_setField_rec z2 (by simp) fun g3 _ t3=>hE g3 e (fun c o c1 _ c3 _ q=>t3.extBut _ _ c1 (t2 _ _ c3 (t1.extBut _ _ c1 q))) ⟨oe,t3.extBut _ _ ne he1,he2⟩
 | some x =>
   have hy:ys[k]?=none:=by
     rcases hend with q | q
     · rw[hx] at q;cases q
     · exact q
   refine wpAny_bind (jI (h1.extBut t1.extBut D.a3) (hl1.extBut t1.extBut D.b2) hx fun g2 u1 t2=>wpAny_pure ?_)
   have o2:IsPair g2 TO a b:=t2.extBut _ _ D.a8 (t1.extBut _ _ D.a2 hTO)
   refine wpAny_bind (wpAny_seqItems o2 rfl (wpAny_bind (wpAny_updateSeq_pair o2 fun g3 o3 t3=>?_)))
   refine wpAny_bind (wpAny_letGo (wpAny_pure (wpAny_bind (wpAny_bind (wpAny_onRaise ?_)))))
   change wpAny _ _ (Builtin.SmallTypes.nextOf (.ref i2) >>= _) _ _ _
   refine wpAny_bind (zZ9 hh (((h2.extBut t1.extBut D.a4).extBut t2.extBut D.b1.symm).extBut t3.extBut D.a9.symm) (((hl2.extBut t1.extBut D.b6).extBut t2.extBut D.b8).extBut t3.extBut D.b7) hy fun g4 e t4 he=>?_)
   obtain⟨oe,he1,he2⟩:=he
   have z4:IsZip g4 z TI TO .ellipsis:=t4 _ _ D.a4.symm (t3.extBut _ _ D.a2.symm (t2.extBut _ _ D.a3.symm z1))
   have ne:e≠z:=fun q=>by subst q;rw[z4] at he1;cases he1;simp at he2
   exact wpAny_setField_rec z4 (by simp) fun g5 _ t5=>hE g5 e (fun c o c1 c2 c3 c4 q=>t5.extBut _ _ c1 (t4 _ _ c4 (t3.extBut _ _ c2 (t2.extBut _ _ c3 (t1.extBut _ _ c1 q))))) ⟨oe,t5.extBut _ _ ne he1,he2⟩
end
abbrev zT1 (h:Heap)(l1:Addr):Heap:=h.push { cls:=.type "tuple_iterator",data:=.fields #[.ref l1,.int 0 0] }
abbrev zT2 (h:Heap)(l1 l2:Addr):Heap:=(zT1 h l1).push { cls:=.type "tuple_iterator",data:=.fields #[.ref l2,.int 0 0] }
abbrev zT3 (h:Heap)(l1 l2:Addr):Heap:=(zT2 h l1 l2).push { cls:=.type "tuple",data:=.seq #[.ref h.objs.size,.ref (zT1 h l1).objs.size] }
abbrev zT4 (h:Heap)(l1 l2:Addr):Heap:=(zT3 h l1 l2).push { cls:=.type "tuple",data:=.seq #[.none,.none] }
abbrev zT5 (h:Heap)(l1 l2:Addr):Heap:=(zT4 h l1 l2).push { cls:=.type "zip",data:=.fields #[.none,.bool false,.bool false,.ref (zT2 h l1 l2).objs.size,.ref (zT3 h l1 l2).objs.size] }
theorem zSl (l1 l2:Addr)(xs ys:Array Value) :
   Meets (Builtin.«zip.__new__» ⟨[.type "zip",.ref l1,.ref l2],[]⟩) (fun _ R s=>s.heap.IsTuple l1 xs/\s.heap.IsTuple l2 ys/\R (.ok (.ret (.ref (zT4 s.heap l1 l2).objs.size))) { s with heap:=zT5 s.heap l1 l2 }) :=
 .of_wp fun prog w A R s h=>by
   obtain⟨hp,g,d,tk,os⟩:=s;obtain⟨q1,q2,h⟩:=h
   have hsub:=sub_zip
   have L1:Heap.IsTuple (Shared.heap ⟨hp,g,d,tk,os⟩) l1 xs:=q1
   have L2:Heap.IsTuple (Shared.heap ⟨hp.push { cls:=.type "tuple_iterator",data:=.fields #[.ref l1,.int 0 0] },g,d,tk,os⟩) l2 ys:=Heap.IsTuple.push q2 _
   wp_walk using wpAny_pyIter_tuple L1,wpAny_pyIter_tuple L2
   exact⟨_,rfl,h⟩
section
variable {prog:Program} {w:World} {A:Around} {E:Value->Shared->Prop} {s:Shared}
theorem zUV {l1 l2:Addr}{xs ys:Array Value}{Q:Value->Shared->Prop}(q1:s.heap.IsTuple l1 xs)(q2:s.heap.IsTuple l2 ys)
   (h:∀h',IsZip h' (s.heap.objs.size+4) (s.heap.objs.size+2) (s.heap.objs.size+3) .none->IsPair h' (s.heap.objs.size+2) (.ref s.heap.objs.size) (.ref (s.heap.objs.size+1))->IsPair h' (s.heap.objs.size+3) .none .none ->
     h'.IsTupleIter s.heap.objs.size l1 0->h'.IsTupleIter (s.heap.objs.size+1) l2 0->(∀c o,s.heap.get? c=some o->h'.get? c=some o)->Q (.ref (s.heap.objs.size+4)) { s with heap:=h' }):wpAny (model prog w) A (call (.type "zip") [.ref l1,.ref l2]) Q E s:=by
 refine callType_new F.called_zip (by decide) (F.typeCall_zip_2 _ _) (F.newCall_zip_2 _ _) (fun obj=>F.args_object_init_3 obj _ _) F.entry_zip_new (zSl l1 l2 xs ys) ⟨q1,q2,?_⟩
 have y1:(zT1 s.heap l1).objs.size=s.heap.objs.size+1:=Heap.size_push ..
 have y2:(zT2 s.heap l1 l2).objs.size=s.heap.objs.size+2:=by rw[Heap.size_push,y1]
 have y3:(zT3 s.heap l1 l2).objs.size=s.heap.objs.size+3:=by rw[Heap.size_push,y2]
 have y4:(zT4 s.heap l1 l2).objs.size=s.heap.objs.size+4:=by rw[Heap.size_push,y3]
 have f5:(zT5 s.heap l1 l2).get? (zT4 s.heap l1 l2).objs.size=some _:=Heap.get?_push_size _ rfl
 have f4:(zT5 s.heap l1 l2).get? (zT3 s.heap l1 l2).objs.size=some _:=Heap.get?_push_of_some _ (Heap.get?_push_size _ rfl)
 have f3:(zT5 s.heap l1 l2).get? (zT2 s.heap l1 l2).objs.size=some _:=Heap.get?_push_of_some _ (Heap.get?_push_of_some _ (Heap.get?_push_size _ rfl))
 have f2:(zT5 s.heap l1 l2).get? (zT1 s.heap l1).objs.size=some _:=Heap.get?_push_of_some _ (Heap.get?_push_of_some _ (Heap.get?_push_of_some _ (Heap.get?_push_size _ rfl)))
 have f1:(zT5 s.heap l1 l2).get? s.heap.objs.size=some _:=Heap.get?_push_of_some _ (Heap.get?_push_of_some _ (Heap.get?_push_of_some _ (Heap.get?_push_of_some _ (Heap.get?_push_size _ rfl))))
 change _/\_
 rw[y2,y3,y4] at f5
 rw[y1,y2] at f3
 rw[y3] at f4
 rw[y1] at f2
 rw[y4]
 exact⟨⟨_,f5,rfl⟩,h _ f5 f3 f4 ⟨_,f1,rfl,rfl⟩ ⟨_,f2,rfl,rfl⟩ fun c o x=>Heap.get?_push_of_some _ (Heap.get?_push_of_some _ (Heap.get?_push_of_some _ (Heap.get?_push_of_some _ (Heap.get?_push_of_some _ x))))⟩
end
def Itz (K:PySem.W.Frag)(a b:Addr):It :=
 ⟨fun i H=>∃xs ys x y,SqT K H a xs/\SqT K H b ys/\xs[i]?=some x/\ys[i]?=some y,fun i H x H'=>∃p v u,H p=none/\x = .ref p/\H'=upd H p (.tup [v,u])/\(∀xs,SqT K H a xs->xs[i]?=some v)/\∀ys,SqT K H b ys->ys[i]?=some u,
   fun i H=>∃xs ys,SqT K H a xs/\SqT K H b ys/\(xs.length<=i∨ys.length<=i)⟩
theorem cA {prog:Program}{w:World}{A:Around}{E:Value->Shared->Prop}{s:Shared}{z TI TO i1 i2 l1 l2:Addr}{k:Nat}{xs ys:Array Value}{x y a b:Value}{Q:Option Value->Shared->Prop}(D:ZApart z TI TO i1 i2 l1 l2)(hz:IsZip s.heap z TI TO .none)(hTI:IsPair s.heap TI (.ref i1) (.ref i2))(hTO:IsPair s.heap TO a b)
   (h1:s.heap.IsTupleIter i1 l1 k) (h2:s.heap.IsTupleIter i2 l2 k) (hl1:s.heap.IsTuple l1 xs) (hl2:s.heap.IsTuple l2 ys) (hx:xs[k]?=some x) (hy:ys[k]?=some y)
   (hQ:∀h',IsZip h' z TI TO (rawInt s.heap.objs.size)->IsPair h' TO x y->h'.IsTupleIter i1 l1 (k+1)->h'.IsTupleIter i2 l2 (k+1)->IsPair h' s.heap.objs.size x y ->
     (∀c o,c≠z->c≠TO->c≠i1->c≠i2->s.heap.get? c=some o->h'.get? c=some o)->Q (some (.ref s.heap.objs.size)) { s with heap:=h' }):wpAny (model prog w) A (pyNext (.ref z)) Q E s:=by
 have hT:s.TypeIs (.ref z) "zip":=⟨_,hz,rfl⟩
 unfold pyNext
 exact wpAny_bind (wpAny_attempt (wpAny_callSpecial?_slot (name:=Str.ofString "__next__") hT F.slot_zip_next (wpAny_call_entry F.slot_zip_next hT F.entry_zip_next (zUy D hz hTI hTO h1 h2 hl1 hl2 hx hy fun h' a1 a2 a3 a4 a5 a6=>wpAny_pure (hQ h' a1 a2 a3 a4 a5 a6)) (F.args_zip_next_1 _))))
theorem bA {prog:Program}{w:World}{A:Around}{E:Value->Shared->Prop}{s:Shared}{z TI TO i1 i2 l1 l2:Addr}{k:Nat}{xs ys:Array Value}{a b:Value}{Q:Option Value->Shared->Prop}(hh:A.handled=none)(D:ZApart z TI TO i1 i2 l1 l2)(hz:IsZip s.heap z TI TO .none)(hTI:IsPair s.heap TI (.ref i1) (.ref i2))(hTO:IsPair s.heap TO a b)
   (h1:s.heap.IsTupleIter i1 l1 k) (h2:s.heap.IsTupleIter i2 l2 k) (hl1:s.heap.IsTuple l1 xs) (hl2:s.heap.IsTuple l2 ys) (hend:xs[k]?=none∨ys[k]?=none)
   (hQ:∀h',(∀c o,c≠z->c≠TO->c≠i1->c≠i2->s.heap.get? c=some o->h'.get? c=some o)->Q none { s with heap:=h' }):wpAny (model prog w) A (pyNext (.ref z)) Q E s:=by
 have hT:s.TypeIs (.ref z) "zip":=⟨_,hz,rfl⟩
 unfold pyNext
 refine wpAny_bind (wpAny_attempt (wpAny_callSpecial?_slot (name:=Str.ofString "__next__") hT F.slot_zip_next (wpAny_call_entry F.slot_zip_next hT F.entry_zip_next (zTt hh D hz hTI hTO h1 h2 hl1 hl2 hend fun h' e hk he=>?_) (F.args_zip_next_1 _))))
 obtain⟨o,q1,q2⟩:=he
 exact wpAny_bind (wpAny_isInstance (T:="StopIteration") (b:=true) ⟨o,q1,q2⟩ isSubtype_stop (wpAny_pure (hQ _ hk)))
theorem zne {n:Nat}(i j:Nat)(h:i≠j):n+i≠n+j:=fun z=>h (Nat.add_left_cancel z)
theorem zSX {P:Program}{w:World}{K:PySem.W.Frag}{elts:List Expr}{k:Nat}{pos:Pos}(a b n:Addr):Turn P w K (.Tuple elts k pos) (Itz K a b) [n+4,n+2,n+3,n,n+1] (n+4)
   (fun i h=>IsZip h (n+4) (n+2) (n+3) .none/\IsPair h (n+2) (.ref n) (.ref (n+1))/\(∃p q,IsPair h (n+3) p q)/\h.IsTupleIter n a i/\h.IsTupleIter (n+1) b i) where
 mem:=by simp
 obj:=fun i h st c hc=>by
   obtain⟨h1,h2,⟨p,q,h3⟩,⟨o1,e1,_,d1⟩,⟨o2,e2,_,d2⟩⟩:=st
   simp only[List.mem_cons,List.not_mem_nil,or_false] at hc
   rcases hc with z | z | z | z | z
   · subst z;exact⟨_,h1,fun v q=>nomatch q⟩
   · subst z;exact⟨_,h2,fun v q=>nomatch q⟩
   · subst z;exact⟨_,h3,fun v q=>nomatch q⟩
   · subst z;exact⟨o1,e1,fun v q=>by rw[d1] at q;cases q⟩
   · subst z;exact⟨o2,e2,fun v q=>by rw[d2] at q;cases q⟩
 keep:=fun i h h' st kk=>by
   obtain⟨h1,h2,⟨p,q,h3⟩,⟨o1,e1,r1⟩,⟨o2,e2,r2⟩⟩:=st
   exact⟨kk _ (by simp) _ h1,kk _ (by simp) _ h2,⟨p,q,kk _ (by simp) _ h3⟩,⟨o1,kk _ (by simp) _ e1,r1⟩,⟨o2,kk _ (by simp) _ e2,r2⟩⟩
 item:=by
   intro X hP hw hK hc i pins s σ H E I hf st hg
   subst hP hw hK
   obtain⟨xs,ys,x,y,hq,hq',hx,hy⟩:=hg
   obtain⟨its,rv,p1,hz⟩:=I.tuple hq
   obtain⟨jts,rv',p2,hz'⟩:=I.tuple hq'
   obtain⟨u,hu,ru⟩:=rv.get hx
   obtain⟨u',hu',ru'⟩:=rv'.get hy
   obtain⟨h1,h2,⟨p,q,h3⟩,h4,h5⟩:=st
   have apart:∀c∈[n+4,n+2,n+3,n,n+1],∀v:List V,∀d:Addr,SqT X.K H d v->d≠c:=fun c hc v d hd z=>by
     have e:=(hf c hc).1
     obtain⟨its,_,⟨o,e1,e2,_⟩,_⟩:=I.tuple hd
     rcases hd with(hd | ⟨ob,hd⟩) | hd
     · rw[z,e] at hd;cases hd
     · rw[z,e] at hd;cases hd
     · obtain⟨ob,_,_,hk,_⟩:=hd
       have e3:=I.ok.mod.kin d ob hk
       obtain⟨_,q1,_,q3,_⟩:=hf c hc
       rcases q3 with q3 | q3
       · exact I.ok.noex d ob e3 (z ▸ q3)
       · exact absurd (Nat.lt_of_lt_of_le (Heap.lt_size (I.ok.bs d ob e3).1) (z ▸ q3)) (Nat.lt_irrefl _)
   have D:ZApart (n+4) (n+2) (n+3) n (n+1) a b:=⟨zne 2 4 (by decide),zne 3 4 (by decide),zne 0 4 (by decide),zne 1 4 (by decide),zne 2 3 (by decide),zne 2 0 (by decide),zne 2 1 (by decide),zne 3 0 (by decide),zne 3 1 (by decide),zne 0 1 (by decide),apart _ (by simp) xs a hq,apart _ (by simp) xs a hq,apart _ (by simp) xs a hq,apart _ (by simp) xs a hq,apart _ (by simp) ys b hq',apart _ (by simp) ys b hq',apart _ (by simp) ys b hq',apart _ (by simp) ys b hq'⟩
   refine cA D h1 h2 h3 h4 h5 (show s.heap.IsTuple a its.toArray from p1) (show s.heap.IsTuple b jts.toArray from p2) (x:=u) (y:=u') (by simpa using hu) (by simpa using hu') fun g g1 g2 g3 g4 g5 hk=>?_
   have hk':∀c o,c∉[n+4,n+2,n+3,n,n+1]->s.heap.get? c=some o->g.get? c=some o:=fun c o hc e=>hk c o (fun z=>hc (by simp[z])) (fun z=>hc (by simp[z])) (fun z=>hc (by simp[z])) (fun z=>hc (by simp[z])) e
   have I1:Inv X pins σ (upd H s.heap.objs.size (.tup [x,y])) { s with heap:=g }:=I.turnedNew (t':=s.toks) hk' hf (Nat.le_refl _) ⟨by show 2<=sizeLine;exact Nat.le_of_lt (wD (by decide)),[u,u'],.cons ru (.cons ru' .nil),⟨_,g5,rfl,_,rfl⟩⟩
   refine⟨_,rfl,wpAny_letOwnedTupleGo_zip g1 fun g' z' t'=>?_⟩
   have t':Heap.SameBut (n+4) g g':=t'
   have neT:∀c∈[n+4,n+2,n+3,n,n+1],c≠s.heap.objs.size:=fun c hc z=>by
     have lt:c < s.heap.objs.size:=by
       obtain⟨o1,e1,_⟩:=h4
       obtain⟨o2,e2,_⟩:=h5
       simp only[List.mem_cons,List.not_mem_nil,or_false] at hc
       rcases hc with q | q | q | q | q
       · rw[q];exact Heap.lt_size h1
       · rw[q];exact Heap.lt_size h2
       · rw[q];exact Heap.lt_size h3
       · rw[q];exact Heap.lt_size e1
       · rw[q];exact Heap.lt_size e2
     rw[z] at lt
     exact Nat.lt_irrefl _ lt
   have hf1:∀c∈[n+4,n+2,n+3,n,n+1],oV X pins (upd H s.heap.objs.size (.tup [x,y])) c:=fun c hc=>⟨by rw[yX (neT c hc)];exact(hf c hc).1,(hf c hc).2⟩
   have I2:=I1.turnedL (h':=g') (t':=s.toks) (fp:=[n+4,n+2,n+3,n,n+1]) (fun c o hc e=>(t'.2 c (fun z=>hc (by simp[z]))).trans e) hf1
   have g2':IsPair g (n+2) (.ref n) (.ref (n+1)):=hk _ _ D.a1 D.a5 D.a6 D.a7 h2
   obtain⟨o3,e3,r3⟩:=g3
   obtain⟨o4,e4,r4⟩:=g4
   exact⟨.ref s.heap.objs.size,_,I2,rfl,⟨s.heap.objs.size,x,y,I.fresh,rfl,rfl,fun zs hs=>by rw[I.tuple_inj hs hq];exact hx,fun zs hs=>by rw[I.tuple_inj hs hq'];exact hy⟩,
     ⟨z',(t'.2 _ D.a1).trans g2',⟨_,_,(t'.2 _ D.a2).trans g2⟩,⟨o3,(t'.2 _ D.a3).trans e3,r3⟩,⟨o4,(t'.2 _ D.a4).trans e4,r4⟩⟩,fun c hc=>(hf1 c hc).1⟩
 done:=by
   intro X hP hw hK hc i pins s σ H E I hf st hg
   subst hP hw hK
   obtain⟨xs,ys,hq,hq',hx⟩:=hg
   obtain⟨its,rv,p1,hz⟩:=I.tuple hq
   obtain⟨jts,rv',p2,hz'⟩:=I.tuple hq'
   obtain⟨h1,h2,⟨p,q,h3⟩,h4,h5⟩:=st
   have apart:∀c∈[n+4,n+2,n+3,n,n+1],∀v:List V,∀d:Addr,SqT X.K H d v->d≠c:=fun c hc v d hd z=>by
     have e:=(hf c hc).1
     rcases hd with(hd | ⟨ob,hd⟩) | hd
     · rw[z,e] at hd;cases hd
     · rw[z,e] at hd;cases hd
     · obtain⟨ob,_,_,hk,_⟩:=hd
       have e3:=I.ok.mod.kin d ob hk
       obtain⟨_,q1,_,q3,_⟩:=hf c hc
       rcases q3 with q3 | q3
       · exact I.ok.noex d ob e3 (z ▸ q3)
       · exact absurd (Nat.lt_of_lt_of_le (Heap.lt_size (I.ok.bs d ob e3).1) (z ▸ q3)) (Nat.lt_irrefl _)
   have D:ZApart (n+4) (n+2) (n+3) n (n+1) a b:=⟨zne 2 4 (by decide),zne 3 4 (by decide),zne 0 4 (by decide),zne 1 4 (by decide),zne 2 3 (by decide),zne 2 0 (by decide),zne 2 1 (by decide),zne 3 0 (by decide),zne 3 1 (by decide),zne 0 1 (by decide),apart _ (by simp) xs a hq,apart _ (by simp) xs a hq,apart _ (by simp) xs a hq,apart _ (by simp) xs a hq,apart _ (by simp) ys b hq',apart _ (by simp) ys b hq',apart _ (by simp) ys b hq',apart _ (by simp) ys b hq'⟩
   have l1:=rv.length
   have l2:=rv'.length
   refine bA (I.ok.hd hc) D h1 h2 h3 h4 h5 (show s.heap.IsTuple a its.toArray from p1) (show s.heap.IsTuple b jts.toArray from p2) ?_ fun g hk=>⟨rfl,I.turnedL (t':=s.toks) (fp:=[n+4,n+2,n+3,n,n+1]) (fun c o hc e=>hk c o (fun z=>hc (by simp[z])) (fun z=>hc (by simp[z])) (fun z=>hc (by simp[z])) (fun z=>hc (by simp[z])) e) hf⟩
   rcases hx with q | q
   · exact .inl (by simp;omega)
   · exact .inr (by simp;omega)
 self:=fun _ _ _ _ _ st h=>wpAny_pyIter_zip st.1 h
def tJ:List D->List D->List D
 | x::xs,y::ys=>.tup [x,y]::tJ xs ys
 | _,_=>[]
theorem bI:∀ {xs ys:List D} {i:Nat} {d:D},(tJ xs ys)[i]?=some d->∃x y,xs[i]?=some x/\ys[i]?=some y/\d = .tup [x,y]
 | [],_,_,_,h=>by simp[tJ] at h
 | _::_,[],_,_,h=>by simp[tJ] at h
 | x::xs,y::ys,0,d,h=>by simp[tJ] at h;exact⟨x,y,rfl,rfl,h.symm⟩
 | x::xs,y::ys,i+1,d,h=>by
   simp only[tJ,List.getElem?_cons_succ] at h
   obtain⟨a,b,h1,h2,h3⟩:=bI h
   exact⟨a,b,by simpa using h1,by simpa using h2,h3⟩
theorem cD:∀(xs ys:List D),(tJ xs ys).length=min xs.length ys.length
 | [],_=>by simp[tJ]
 | _::_,[]=>by simp[tJ]
 | x::xs,y::ys=>by rw[tJ,List.length_cons,cD xs ys,List.length_cons,List.length_cons];omega
theorem zW9 {K:PySem.W.Frag}{G:Hp}{a b:Addr}{vs us:List V}{ds es:List D}(h:SqT K G a vs)(r:Reps K G ds vs)(h':SqT K G b us)(r':Reps K G es us):gX K (Itz K a b) G (tJ ds es):=by
 intro i G2 H2 s1 s2
 have q:SqT K H2 a vs:=(s1.trans s2).tup h
 have q':SqT K H2 b us:=(s1.trans s2).tup h'
 refine⟨fun d hd=>?_,fun hi=>⟨vs,us,q,q',?_⟩⟩
 · obtain⟨x,y,h1,h2,rfl⟩:=bI hd
   obtain⟨v,e1,rv⟩:=r.get h1
   obtain⟨u,e2,ru⟩:=r'.get h2
   refine⟨⟨vs,us,v,u,q,q',e1,e2⟩,fun x' H3 yy=>?_⟩
   obtain⟨p,v',u',hp,rfl,rfl,y1,y2⟩:=yy
   have f1:=y1 vs q
   rw[e1] at f1;cases f1
   have f2:=y2 us q'
   rw[e2] at f2;cases f2
   have s3:=Step.laid (o:=.tup [v,u]) s2 hp
   exact⟨_,s3,rep_tup.mpr ⟨p,_,rfl,.of zD,reps_cons.mpr ⟨_,_,rfl,(rv.mono s1).mono s3.gg,reps_cons.mpr ⟨_,_,rfl,(ru.mono s1).mono s3.gg,reps_nil.mpr rfl⟩⟩⟩⟩
 · rw[cD] at hi
   rw[←r.length,←r'.length]
   omega
section
variable {X:Cx} {a b c e tg elt iter:Expr} {fa fb:Ef} {pos p:Pos}
def zRC (f g:Ef):Lf:=fun ρ=>(f ρ).bind fun x=>(g ρ).bind fun y=>match x,y with | .tup xs,.tup ys=>some (tJ xs ys) | _,_=>none
theorem zSU {elts:List Expr}{k:Nat}{pos':Pos}(hg:Gl X "zip")(hm:X.mg "zip"=none)(ha:PF X a fa)(hb:PF X b fb)(hs:starEach [a,b] X.env=[(false,eval a X.env),(false,eval b X.env)]:=by rfl)(hs2:starEach [b] X.env=[(false,eval b X.env)]:=by rfl) :
   PFI X (.Tuple elts k pos') (.Call (.Name "zip" p) [a,b] [] pos) (zRC fa fb):=by
 intro pins s σ H R I q
 obtain⟨G0,H0,G,ρ,ds,good,hf,kk⟩:=q
 unfold zRC at hf
 obtain⟨x,h1,hf⟩:=Option.bind_eq_some_iff.mp hf
 obtain⟨y,h2,hf⟩:=Option.bind_eq_some_iff.mp hf
 cases x with
 | tup xs =>
   cases y with
   | tup ys =>
     cases hf
     have hA:=yW ha (yW hb yI (by rw[hs2];rfl)) (by rw[hs,hs2]) pos pins s σ H (fun vs H'=>∃a b us ws G',vs=[.ref a,.ref b]/\Step G H G' H'/\SqT X.K G' a us/\Reps X.K G' xs us/\SqT X.K G' b ws/\Reps X.K G' ys ws) I
       ⟨G0,H0,G,ρ,_,good,h1,fun v H1 G1 s1 r1=>⟨G0,H0,G1,ρ,_,good.step s1,h2,fun u H2 G2 s2 r2=>by
         obtain⟨a,us,rfl,q1,q2⟩:=rep_tup.mp (r1.mono s2.gg)
         obtain⟨b,ws,rfl,q3,q4⟩:=rep_tup.mp r2
         exact⟨a,b,us,ws,G2,rfl,s1.trans s2,q1,q2,q3,q4⟩⟩⟩
     refine Call_ (qY I hg hm (by rfl) (PyProof.Rows.callWith_type1 (thn hA fun us s1 ⟨vs,H1,I1,r1,l1,l2,ws,zs,G1,e1,st1,q1,q2,q3,q4⟩=>?_) (by rw[hs,hs2]) (by rw[hs2];rfl)))
     subst e1
     obtain⟨u,u',rfl,ru,ru'⟩:=zSx r1
     cases ru
     cases ru'
     obtain⟨its,rv,p1,_⟩:=I1.tuple (st1.sub.tup q1)
     obtain⟨jts,rv',p2,_⟩:=I1.tuple (st1.sub.tup q3)
     refine zUV (show s1.heap.IsTuple l1 its.toArray from p1) (show s1.heap.IsTuple l2 jts.toArray from p2) fun h' z1 z2 z3 z4 z5 hk=>?_
     have I2:Inv X pins σ H1 { s1 with heap:=h' }:=I1.kept (t':=s1.toks) hk
     refine wpAny_pyIter_zip z1 ?_
     refine⟨_,[s1.heap.objs.size+4,s1.heap.objs.size+2,s1.heap.objs.size+3,s1.heap.objs.size,s1.heap.objs.size+1],_,_,H1,rfl,I2,zSX l1 l2 s1.heap.objs.size,⟨z1,z2,⟨_,_,z3⟩,z4,z5⟩,fun b hb=>?_,kk _ H1 G1 st1 (zW9 q1 q2 q3 q4)⟩
     have hb':s1.heap.objs.size<=b:=by
       simp only[List.mem_cons,List.not_mem_nil,or_false] at hb
       rcases hb with z | z | z | z | z<;>(rw[z];first | exact Nat.le_refl _ | exact Nat.le_add_right _ _)
     exact I1.fpOk hb' (I1.hok.fresh hb')
   | _=>cases hf
 | _=>cases hf
end
end L2
set_option maxHeartbeats 4000000
namespace L2
open PySem PySem.Spec PyProof.Rows
def aS (f:D->D->Option Bool):List D->List D->Option Bool
 | x::xs,y::ys=>(f x y).bind fun a=>(aS f xs ys).map fun b=>a&&b
 | _,_=>some true
def eqD:Nat->D->D->Option Bool
 | _+1,.int i,.int j=>some (i==j)
 | _+1,.bl i,.bl j=>some (i==j)
 | _+1,.str i,.str j=>some (i==j)
 | _+1,.non,.non=>some true
 | n+1,.tup xs,.tup ys=>(aS (eqD n) xs ys).map fun b=>b&&xs.length==ys.length
 | n+1,.lst xs,.lst ys=>if xs.length=ys.length then aS (eqD n) xs ys else some false
 | _,_,_=>none
def nX (f:D->D->Option Bool)(xs ys:List D)(j:Nat):Bool:=match xs[j]?,ys[j]? with | some a,some c=>(f a c).getD true | _,_=>true
theorem bE {f:D->D->Option Bool}:∀ {xs ys:List D} {b:Bool},aS f xs ys=some b->b=(List.range (min xs.length ys.length)).all (nX f xs ys)/\∀(j:Nat) (a c:D),xs[j]?=some a->ys[j]?=some c->f a c=some (nX f xs ys j)
 | [],_,_,h=>by cases h;exact⟨by simp,fun j a c e=>by simp at e⟩
 | _::_,[],_,h=>by cases h;exact⟨by simp,fun j a c _ e=>by simp at e⟩
 | x::xs,y::ys,b,h=>by
   unfold aS at h
   obtain⟨a,h1,h⟩:=Option.bind_eq_some_iff.mp h
   obtain⟨b',h2,rfl⟩:=Option.map_eq_some_iff.mp h
   obtain⟨e1,e2⟩:=bE h2
   constructor
   · rw[List.length_cons,List.length_cons,Nat.succ_min_succ,List.range_succ_eq_map,List.all_cons,List.all_map,e1]
     congr 1
     simp[nX,h1]
   · intro j p q hp hq
     cases j with
     | zero =>
       simp at hp hq
       subst hp;subst hq
       simp[nX,h1]
     | succ j =>
       have:=e2 j p q (by simpa using hp) (by simpa using hq)
       simpa [nX] using this
section
variable {X:Cx} {pins:List (Addr×Obj)} {σ:St} {H G:Hp} {s:Shared}
theorem zXj (I:Inv X pins σ H s)(sub:Same G H):∀(n:Nat) (d d':D) (x:V) (k:Bool),eqD n d d'=some k->Rep X.K G d x->Rep X.K G d' x->k=true:=by
 intro n
 induction n with
 | zero=>intro d d' x k h;cases d<;>cases d'<;>cases h
 | succ n ih =>
   have many:∀(ds es:List D) (vs:List V) (b:Bool),aS (eqD n) ds es=some b->Reps X.K G ds vs->Reps X.K G es vs->b=true:=by
     intro ds
     induction ds with
     | nil=>intro es vs b h _ _;cases h;rfl
     | cons d r ihr =>
       intro es vs b h r1 r2
       cases es with
       | nil=>cases h;rfl
       | cons e t =>
         unfold aS at h
         obtain⟨a,h1,h⟩:=Option.bind_eq_some_iff.mp h
         obtain⟨b',h2,rfl⟩:=Option.map_eq_some_iff.mp h
         obtain⟨v,vr,rfl,q1,q2⟩:=reps_cons.mp r1
         obtain⟨v',vr',e',q3,q4⟩:=reps_cons.mp r2
         cases e'
         rw[ih d e v a h1 q1 q3,ihr t vr b' h2 q2 q4];rfl
   intro d d' x k h r1 r2
   cases d with
   | int i =>
     cases d' with
     | int j=>cases h;rw[rep_int] at r1 r2;rw[r1] at r2;cases r2;simp
     | _=>cases h
   | bl i =>
     cases d' with
     | bl j=>cases h;rw[rep_bl] at r1 r2;rw[r1] at r2;cases r2;simp
     | _=>cases h
   | str i =>
     cases d' with
     | str j=>cases h;rw[rep_str] at r1 r2;rw[r1] at r2;cases r2;simp
     | _=>cases h
   | non =>
     cases d' with
     | non=>cases h;rfl
     | _=>cases h
   | tup ds =>
     cases d' with
     | tup es =>
       unfold eqD at h
       obtain⟨b,h1,rfl⟩:=Option.map_eq_some_iff.mp h
       obtain⟨p,vs,e1,q1,q2⟩:=rep_tup.mp r1
       obtain⟨p',vs',e2,q3,q4⟩:=rep_tup.mp r2
       rw[e1] at e2;cases e2
       have ev:=I.tuple_inj (sub.tup q1) (sub.tup q3)
       subst ev
       rw[many ds es vs b h1 q2 q4,q2.length,q4.length];simp
     | _=>cases h
   | lst ds =>
     cases d' with
     | lst es =>
       unfold eqD at h
       obtain⟨p,vs,e1,q1,q2⟩:=rep_lst.mp r1
       obtain⟨p',vs',e2,q3,q4⟩:=rep_lst.mp r2
       rw[e1] at e2;cases e2
       have ev:=I.list_inj (sub.seq q1) (sub.seq q3)
       subst ev
       rw[if_pos (by rw[q2.length,q4.length])] at h
       exact many ds es vs k h q2 q4
     | _=>cases h
   | obj C ns ds=>cases d'<;>cases h
   | exc C ns ds=>cases d'<;>cases h
theorem zQ4 (I:Inv X pins σ H s)(sub:Same G H):∀(n:Nat) (A:Around) (d d':D) (x y:V) (u v:Value) (k:Bool),A.units+n < cLine->eqD n d d'=some k->Rep X.K G d x->Rep X.K G d' y->RelV x u->RelV y v ->
   SeqAt.RcAt A s u v k/\SeqAt.RcNeAt A s u v (!k)/\SeqAt.EqAt A s u v k:=by
 intro n
 induction n with
 | zero=>intro A d d' x y u v k _ h;cases d<;>cases d'<;>cases h
 | succ n ih =>
   intro A d d' x y u v k hu h r1 r2 ru rv
   have hu1:A.units < cLine:=by omega
   have hin:A.in1.units+n < cLine:=by show A.units+1+n < cLine;omega
   cases d with
   | int i =>
     cases d' with
     | int j=>cases h;rw[rep_int] at r1 r2;subst r1;subst r2;obtain⟨t,rfl⟩:=ru;obtain⟨t',rfl⟩:=rv;exact⟨SeqAt.RcAt.int_int _ _ _ _,SeqAt.RcNeAt.int_int _ _ _ _,SeqAt.EqAt.int_int _ _ _ _⟩
     | _=>cases h
   | bl i =>
     cases d' with
     | bl j=>cases h;rw[rep_bl] at r1 r2;subst r1;subst r2;cases ru;cases rv;exact⟨SeqAt.RcAt.bool_bool _ _,SeqAt.RcNeAt.bool_bool _ _,SeqAt.EqAt.bool_bool _ _⟩
     | _=>cases h
   | str i =>
     cases d' with
     | str j=>cases h;rw[rep_str] at r1 r2;subst r1;subst r2;obtain⟨t,rfl⟩:=ru;obtain⟨t',rfl⟩:=rv;exact⟨SeqAt.RcAt.str_str _ _ _ _,SeqAt.RcNeAt.str_str _ _ _ _,SeqAt.EqAt.str_str _ _ _ _⟩
     | _=>cases h
   | non =>
     cases d' with
     | non=>cases h;rw[rep_non] at r1 r2;subst r1;subst r2;cases ru;cases rv;exact⟨SeqAt.RcAt.none_none,SeqAt.RcNeAt.none_none,SeqAt.EqAt.same _⟩
     | _=>cases h
   | tup ds =>
     cases d' with
     | tup es =>
       have h0:=h
       unfold eqD at h
       obtain⟨b,h1,rfl⟩:=Option.map_eq_some_iff.mp h
       obtain⟨p,vs,rfl,q1,q2⟩:=rep_tup.mp r1
       obtain⟨p',vs',rfl,q3,q4⟩:=rep_tup.mp r2
       cases ru;cases rv
       obtain⟨its,w1,t1,_⟩:=I.tuple (sub.tup q1)
       obtain⟨jts,w2,t2,_⟩:=I.tuple (sub.tup q3)
       obtain⟨e1,e2⟩:=bE h1
       have l1:ds.length=its.length:=q2.length.trans w1.length
       have l2:es.length=jts.length:=q4.length.trans w2.length
       have he:∀j (a1:j < its.toArray.size) (a2:j < jts.toArray.size),SeqAt.EqAt A.in1 s its.toArray[j] jts.toArray[j] (nX (eqD n) ds es j):=fun j a1 a2=>by
         have b1:j < ds.length:=by rw[l1];simpa using a1
         have b2:j < es.length:=by rw[l2];simpa using a2
         obtain⟨v1,f1,g1⟩:=q2.get (List.getElem?_eq_getElem b1)
         obtain⟨v2,f2,g2⟩:=q4.get (List.getElem?_eq_getElem b2)
         obtain⟨u1,f3,g3⟩:=w1.get f1
         obtain⟨u2,f4,g4⟩:=w2.get f2
         have x1:its.toArray[j]=u1:=by
           have:=(List.getElem?_eq_some_iff.mp f3).2
           simpa using this
         have x2:jts.toArray[j]=u2:=by
           have:=(List.getElem?_eq_some_iff.mp f4).2
           simpa using this
         rw[x1,x2]
         exact(ih A.in1 _ _ v1 v2 u1 u2 _ hin (e2 j _ _ (List.getElem?_eq_getElem b1) (List.getElem?_eq_getElem b2)) g1 g2 g3 g4).2.2
       have ek:((List.range (min its.toArray.size jts.toArray.size)).all (nX (eqD n) ds es)&&its.toArray.size==jts.toArray.size)=(b&&ds.length==es.length):=by
         rw[List.size_toArray,List.size_toArray,←l1,←l2,e1]
       have R1:=SeqAt.RcAt.tuples t1 t2 hu1 he
       have R2:=SeqAt.RcNeAt.tuples t1 t2 hu1 he
       rw[ek] at R1 R2
       refine⟨R1,R2,?_⟩
       by_cases hp:p=p'
       · subst hp
         have hk:=zXj I sub (n+1) (.tup ds) (.tup es) (.ref p) _ h0 r1 r2
         rw[hk]
         exact SeqAt.EqAt.same _
       · exact .of_refs hp R1
     | _=>cases h
   | lst ds =>
     cases d' with
     | lst es =>
       have h0:=h
       unfold eqD at h
       obtain⟨p,vs,rfl,q1,q2⟩:=rep_lst.mp r1
       obtain⟨p',vs',rfl,q3,q4⟩:=rep_lst.mp r2
       cases ru;cases rv
       obtain⟨its,w1,t1,_⟩:=I.list (sub.seq q1)
       obtain⟨jts,w2,t2,_⟩:=I.list (sub.seq q3)
       have l1:ds.length=its.length:=q2.length.trans w1.length
       have l2:es.length=jts.length:=q4.length.trans w2.length
       have fin:SeqAt.RcAt A s (.ref p) (.ref p') k/\SeqAt.RcNeAt A s (.ref p) (.ref p') (!k):=by
         split at h
         · rename_i hl
           obtain⟨e1,e2⟩:=bE h
           have he:∀j (a1:j < its.toArray.size) (a2:j < jts.toArray.size),SeqAt.EqAt A.in1 s its.toArray[j] jts.toArray[j] (nX (eqD n) ds es j):=fun j a1 a2=>by
             have b1:j < ds.length:=by rw[l1];simpa using a1
             have b2:j < es.length:=by rw[l2];simpa using a2
             obtain⟨v1,f1,g1⟩:=q2.get (List.getElem?_eq_getElem b1)
             obtain⟨v2,f2,g2⟩:=q4.get (List.getElem?_eq_getElem b2)
             obtain⟨u1,f3,g3⟩:=w1.get f1
             obtain⟨u2,f4,g4⟩:=w2.get f2
             have x1:its.toArray[j]=u1:=by
               have:=(List.getElem?_eq_some_iff.mp f3).2
               simpa using this
             have x2:jts.toArray[j]=u2:=by
               have:=(List.getElem?_eq_some_iff.mp f4).2
               simpa using this
             rw[x1,x2]
             exact(ih A.in1 _ _ v1 v2 u1 u2 _ hin (e2 j _ _ (List.getElem?_eq_getElem b1) (List.getElem?_eq_getElem b2)) g1 g2 g3 g4).2.2
           have hsz:its.toArray.size=jts.toArray.size:=by rw[List.size_toArray,List.size_toArray,←l1,←l2,hl]
           have ek:(List.range its.toArray.size).all (nX (eqD n) ds es)=k:=by
             rw[e1,List.size_toArray,←l1,←hl,Nat.min_self]
           have R1:=SeqAt.RcAt.lists t1.isList t2.isList hsz hu1 he
           have R2:=SeqAt.RcNeAt.lists t1.isList t2.isList hsz hu1 he
           rw[ek] at R1 R2
           exact⟨R1,R2⟩
         · rename_i hl
           cases h
           have hsz:(its.toArray.size != jts.toArray.size)=true:=by
             rw[List.size_toArray,List.size_toArray,←l1,←l2]
             simpa using hl
           exact⟨SeqAt.RcAt.lists_lengths t1.isList t2.isList hsz hu1,SeqAt.RcNeAt.lists_lengths t1.isList t2.isList hsz hu1⟩
       refine⟨fin.1,fin.2,?_⟩
       by_cases hp:p=p'
       · subst hp
         have hk:=zXj I sub (n+1) (.lst ds) (.lst es) (.ref p) _ h0 r1 r2
         rw[hk]
         exact SeqAt.EqAt.same _
       · exact .of_refs hp fin.1
     | _=>cases h
   | obj C ns ds=>cases d'<;>cases h
   | exc C ns ds=>cases d'<;>cases h
end
section
variable {X:Cx} {a b c e:Expr} {fa fb:Ef} {ga gb:Lf} {pos p:Pos} {k:Nat}
def cQ:D->D->Option Bool:=eqD 8
def jA (x y:D):Option Bool:=(eqD 8 x y).map (!·)
theorem zW0 (hr:Room k X.A):CmR X .Eq cQ:=by
 refine⟨fun x y H Q=>∃G d d' b,Same G H/\Rep X.K G d x/\Rep X.K G d' y/\eqD 8 d d'=some b/\Q (.bl b) H,?_,fun d d' k G H x y Q h s rx ry q=>⟨G,d,d',k,s,rx,ry,h,q H G (.refl s)⟩⟩
 intro pins s σ H x y v u Q I rx ry ⟨G,d,d',b,sub,r1,r2,h,q⟩
 have hu:=hr.units
 exact(zQ4 I sub 8 X.A d d' x y v u b (by omega) h r1 r2 rx ry).1 X.prog X.w X.xe _ ⟨.bl b,H,I,rfl,q⟩
theorem bP (hr:Room k X.A):CmR X .NotEq jA:=by
 refine⟨fun x y H Q=>∃G d d' b,Same G H/\Rep X.K G d x/\Rep X.K G d' y/\eqD 8 d d'=some b/\Q (.bl (!b)) H,?_,fun d d' k G H x y Q h s rx ry q=>?_⟩
 · intro pins s σ H x y v u Q I rx ry ⟨G,d,d',b,sub,r1,r2,h,q⟩
   have hu:=hr.units
   exact(zQ4 I sub 8 X.A d d' x y v u b (by omega) h r1 r2 rx ry).2.1 X.prog X.w X.xe _ ⟨.bl (!b),H,I,rfl,q⟩
 · unfold jA at h
   obtain⟨b,h1,rfl⟩:=Option.map_eq_some_iff.mp h
   exact⟨G,d,d',b,s,rx,ry,h1,q H G (.refl s)⟩
def zTB:D->Option V
 | .non=>some .non
 | .bl b=>some (.bl b)
 | .int i=>some (.int i)
 | .str x=>some (.str x)
 | _=>none
def dI:List D->Option (List V)
 | []=>some []
 | d::r=>(zTB d).bind fun v=>(dI r).map fun vs=>v::vs
theorem zZY {K:PySem.W.Frag}{G:Hp}{d:D}{v x:V}(h:zTB d=some v)(r:Rep K G d x):x=v/\mI v=true:=by
 cases d with
 | non=>cases h;exact⟨rep_non.mp r,rfl⟩
 | bl b=>cases h;exact⟨rep_bl.mp r,rfl⟩
 | int i=>cases h;exact⟨rep_int.mp r,rfl⟩
 | str i=>cases h;exact⟨rep_str.mp r,rfl⟩
 | _=>cases h
theorem jJ {K:PySem.W.Frag}{G:Hp}:∀ {ds:List D} {vs xs:List V},dI ds=some vs->Reps K G ds xs->xs=vs/\vs.all mI=true
 | [],_,_,h,r=>by cases h;rw[reps_nil] at r;exact⟨r,rfl⟩
 | d::t,_,_,h,r=>by
   unfold dI at h
   obtain⟨v,h1,h⟩:=Option.bind_eq_some_iff.mp h
   obtain⟨vs,h2,rfl⟩:=Option.map_eq_some_iff.mp h
   obtain⟨x,xr,rfl,r1,r2⟩:=reps_cons.mp r
   obtain⟨rfl,f1⟩:=zZY h1 r1
   obtain⟨rfl,f2⟩:=jJ h2 r2
   exact⟨rfl,by rw[List.all_cons,f1,f2];rfl⟩
def zWZ (x y:D):Option Bool:=(zTB x).bind fun v=>match y with
 | .lst ds=>(dI ds).map fun vs=>inV v vs
 | .tup ds=>(dI ds).map fun vs=>inV v vs
 | _=>none
theorem zRt {K:PySem.W.Frag}{G H:Hp}{d d':D}{x y:V}{k:Bool}(h:zWZ d d'=some k)(s:Same G H)(rx:Rep K G d x)(ry:Rep K G d' y):∃p xs,y = .ref p/\(SqL K H p xs∨SqT K H p xs)/\mI x=true/\xs.all mI=true/\k=inV x xs:=by
 unfold zWZ at h
 obtain⟨v,h1,h⟩:=Option.bind_eq_some_iff.mp h
 obtain⟨rfl,f1⟩:=zZY h1 rx
 cases d' with
 | lst ds =>
   obtain⟨vs,h2,rfl⟩:=Option.map_eq_some_iff.mp h
   obtain⟨p,xs,rfl,q1,q2⟩:=rep_lst.mp ry
   obtain⟨rfl,f2⟩:=jJ h2 q2
   exact⟨p,_,rfl,.inl (s.seq q1),f1,f2,rfl⟩
 | tup ds =>
   obtain⟨vs,h2,rfl⟩:=Option.map_eq_some_iff.mp h
   obtain⟨p,xs,rfl,q1,q2⟩:=rep_tup.mp ry
   obtain⟨rfl,f2⟩:=jJ h2 q2
   exact⟨p,_,rfl,.inr (s.tup q1),f1,f2,rfl⟩
 | _=>cases h
theorem zTq:CmR X .In zWZ:=⟨_,zUK,fun d d' k G H x y Q h s rx ry q=>by
 obtain⟨p,xs,e1,e2,e3,e4,rfl⟩:=zRt h s rx ry
 exact⟨p,xs,e1,e2,e3,e4,q H G (.refl s)⟩⟩
def zVZ (x:Int):List Int->List Int
 | []=>[x]
 | y::r=>if x<=y then x::y::r else y::zVZ x r
def fK:List Int->List Int
 | []=>[]
 | x::r=>zVZ x (fK r)
theorem gZ (x:Int):∀l:List Int,(zVZ x l).Perm (x::l)
 | []=>.refl _
 | y::r=>by
   unfold zVZ
   split
   · exact .refl _
   · exact(List.Perm.cons y (gZ x r)).trans (List.Perm.swap x y r)
theorem jE:∀l:List Int,(fK l).Perm l
 | []=>.refl _
 | x::r=>(gZ x (fK r)).trans (.cons x (jE r))
theorem eY (x:Int):∀l:List Int,l.Pairwise (· <= ·)->(zVZ x l).Pairwise (· <= ·)
 | [],_=>by unfold zVZ;simp
 | y::r,h=>by
   unfold zVZ
   split
   · rename_i hxy
     refine List.pairwise_cons.mpr ⟨fun z hz=>?_,h⟩
     rcases List.mem_cons.mp hz with q | q
     · rw[q];exact hxy
     · exact Int.le_trans hxy ((List.pairwise_cons.mp h).1 z q)
   · rename_i hxy
     refine List.pairwise_cons.mpr ⟨fun z hz=>?_,eY x r (List.pairwise_cons.mp h).2⟩
     rcases List.mem_cons.mp ((gZ x r).mem_iff.mp hz) with q | q
     · rw[q];omega
     · exact(List.pairwise_cons.mp h).1 z q
theorem hZ:∀l:List Int,(fK l).Pairwise (· <= ·)
 | []=>.nil
 | x::r=>eY x _ (hZ r)
theorem zWY {l m:List Int}(hp:l.Perm m)(hl:l.Pairwise (· <= ·))(hm:m.Pairwise (· <= ·)):l=m:=hp.eq_of_pairwise (fun a b _ _ h1 h2=>Int.le_antisymm h1 h2) hl hm
def zYl:List D->Option (List Int)
 | []=>some []
 | .int i::r=>(zYl r).map fun is=>i::is
 | _=>none
theorem fR {K:PySem.W.Frag}{G:Hp}:∀ {ds:List D} {is:List Int} {vs:List V},zYl ds=some is->Reps K G ds vs->vs=is.map V.int
 | [],_,_,h,r=>by cases h;rw[reps_nil] at r;rw[r];rfl
 | d::t,_,_,h,r=>by
   unfold zYl at h
   split at h
   · rename_i h';cases h'
   · rename_i k t' h'
     cases h'
     obtain⟨v,vr,rfl,r1,r2⟩:=reps_cons.mp r
     obtain⟨ks,h1,rfl⟩:=Option.map_eq_some_iff.mp h
     rw[fR h1 r2,rep_int.mp r1];rfl
   · cases h
theorem zYy:CallR X (.builtin "sorted") (fun xs H Q=>∃(q:Addr) (ns:List Int),xs=[V.ref q]/\SqL X.K H q (ns.map V.int)/\ns.length < 64/\∀l,H l=none->Q (.ref l) (upd H l (.lst ((fK ns).map V.int)))):=by
 intro pins s σ H xs us Q I r h
 obtain⟨q,ns,rfl,hq,hl,k⟩:=h
 obtain⟨u,rfl,ru⟩:=pZ r
 cases ru
 obtain⟨its,rv,pl,hz⟩:=I.list hq
 have hi:=zWy rv
 have hlen:its.length < 64:=by rw[←rv.length,List.length_map];exact hl
 refine sorted_ints pl.isList hi hlen fun out ns' a1 a2 a3=>?_
 obtain⟨e,he⟩:=sortedAll_at s.heap its out
 have en:ns'=fK ns:=zWY (a2.trans (jE ns).symm) a3 (hZ ns)
 subst en
 have hsz:s.heap.objs.size<=s.heap.objs.size+1:=Nat.le_succ _
 refine⟨.ref (s.heap.objs.size+1),_,I.laid (t':=s.toks) (o:=.lst ((fK ns).map V.int)) (fun b o e=>sortedAll_old e) hsz ?_,rfl,k _ (I.hok.fresh hsz)⟩
 refine⟨?_,out.toList,e,gY a1,by simpa [seqObj] using he⟩
 rw[List.length_map,(jE ns).length_eq]
 exact Nat.le_of_lt (wD (by show ns.length<=100000;omega))
theorem zZw {K:PySem.W.Frag}{G:Hp}:∀ns:List Int,Reps K G (ns.map .int) (ns.map V.int)
 | []=>reps_nil.mpr rfl
 | n::r=>reps_cons.mpr ⟨_,_,rfl,rep_int.mpr rfl,zZw r⟩
def dU (g:Lf):Lf:=fun ρ=>(g ρ).bind fun ds=>(zYl ds).bind fun ns=>if ns.length < 64 then some ((fK ns).map .int) else none
theorem zU8 (hg:Gl X "sorted")(hm:X.mg "sorted"=none)(h:zXh X a ga)(hs:starEach [a] X.env=[(false,eval a X.env)]:=by rfl):PFr X (.Call (.Name "sorted" p) [a] [] pos) (dU ga):=by
 refine PE.toR (rA zYy hg hm (by rfl) (yW h yI (by rw[hs];rfl)) (by decide) (by decide) (by rw[hs];rfl) (by rfl)) ?_
 rintro σ H Q ⟨G0,H0,G,ρ,d,good,hf,k⟩
 unfold dU at hf
 obtain⟨ds,h1,hf⟩:=Option.bind_eq_some_iff.mp hf
 obtain⟨ns,h2,hf⟩:=Option.bind_eq_some_iff.mp hf
 split at hf
 · rename_i hl
   cases hf
   refine⟨G0,H0,G,ρ,_,good,h1,fun q vs H1 G1 s1 hq rs=>?_⟩
   have e:=fR h2 rs
   subst e
   refine⟨q,ns,rfl,s1.sub.seq hq,hl,fun l hl'=>?_⟩
   exact k l _ _ G1 (s1.trans (Step.own s1.sub hl')) (s1.hh.free hl') zD (s1.sub.free hl') (zZw _)
 · cases hf
end
end L2
namespace L2
open PySem PySem.Spec PyProof.Rows
def Its (x:Str):It:=⟨fun i _=>i < x.cps.size,fun i H y H'=>H'=H/\∃c,x.cps[i]?=some c/\y = .str ⟨#[c]⟩,fun i _=>x.cps.size<=i⟩
theorem zSQ {P:Program}{w:World}{K:PySem.W.Frag}{tg:Expr}(it:Addr)(ty:String)(hty:ty="str_ascii_iterator"∨ty="str_iterator")(x:Str)(t:Tok):Turn P w K tg (Its x) [it] it (fun i h=>h.IsStrIter it ty x t i) where
 mem:=by simp
 obj:=fun i h st b hb=>by
   have e:b=it:=by simpa using hb
   subst e
   obtain⟨o,e,c,d⟩:=st
   exact⟨o,e,fun v z=>by rw[d] at z;cases z⟩
 keep:=fun i h h' st k=>by
   obtain⟨o,e,r⟩:=st
   exact⟨o,k it (by simp) o e,r⟩
 item:=by
   intro X hP hw hK hc i pins s σ H E I hf st hg
   subst hP hw hK
   obtain⟨f0,f1,f2,f3,f4,f5⟩:=hf it (by simp)
   have hg:i < x.cps.size:=hg
   have hx:x.cps[i]?=some x.cps[i]:=by simp[hg]
   rcases hty with rfl | rfl
   · refine wpAny_pyNext_ascii_item st hx fun h' st' sb=>?_
     have I1:Inv X pins σ H { s with heap:=h',toks:=s.toks+1 }:=I.turned (t':=s.toks+1) (fun b o hb e=>(sb.2 b hb).trans e) f0 f1 f3 f4 f5
     obtain⟨o,e,c,d⟩:=id st'
     exact⟨_,rfl,zXg (s:={ s with heap:=h',toks:=s.toks+1 }) e c d (by decide) ⟨.str ⟨#[x.cps[i]]⟩,H,I1,⟨_,rfl⟩,⟨rfl,_,hx,rfl⟩,st',fun b hb=>(hf b hb).1⟩⟩
   · refine wpAny_pyNext_wide_item st hx fun h' st' sb=>?_
     have I1:Inv X pins σ H { s with heap:=h',toks:=s.toks+1 }:=I.turned (t':=s.toks+1) (fun b o hb e=>(sb.2 b hb).trans e) f0 f1 f3 f4 f5
     obtain⟨o,e,c,d⟩:=id st'
     exact⟨_,rfl,zXg (s:={ s with heap:=h',toks:=s.toks+1 }) e c d (by decide) ⟨.str ⟨#[x.cps[i]]⟩,H,I1,⟨_,rfl⟩,⟨rfl,_,hx,rfl⟩,st',fun b hb=>(hf b hb).1⟩⟩
 done:=by
   intro X hP hw hK hc i pins s σ H E I hf st hg
   subst hP hw hK
   obtain⟨f0,f1,f2,f3,f4,f5⟩:=hf it (by simp)
   have hg:x.cps.size<=i:=hg
   have hx:x.cps[i]?=none:=by simp[hg]
   rcases hty with rfl | rfl
   · exact wpAny_pyNext_ascii_end (I.ok.hd hc) st hx fun h' eb=>⟨rfl,I.turned (t':=s.toks) (fun b o hb e=>eb b o hb e) f0 f1 f3 f4 f5⟩
   · exact wpAny_pyNext_wide_end (I.ok.hd hc) st hx fun h' eb=>⟨rfl,I.turned (t':=s.toks) (fun b o hb e=>eb b o hb e) f0 f1 f3 f4 f5⟩
 self:=fun _ _ _ _ _ st h=>by
   rcases hty with rfl | rfl
   · exact wpAny_pyIter_striter_ascii st h
   · exact wpAny_pyIter_striter_wide st h
def nN (x:Str):List D:=x.cps.toList.map fun c=>.str ⟨#[c]⟩
theorem zW7 {K:PySem.W.Frag}{G:Hp}{x:Str}:gX K (Its x) G (nN x):=by
 intro i G2 H2 s1 s2
 have hl:(nN x).length=x.cps.size:=by simp[nN]
 refine⟨fun d hd=>?_,fun hi=>by rw[hl] at hi;exact hi⟩
 have hi:i < x.cps.size:=by rw[←hl];exact(List.getElem?_eq_some_iff.mp hd).1
 refine⟨hi,fun y H3 q=>?_⟩
 obtain⟨rfl,c,hc,rfl⟩:=q
 unfold nN at hd
 rw[List.getElem?_map,Array.getElem?_toList,hc] at hd
 cases hd
 exact⟨G2,.refl s2,rep_str.mpr rfl⟩
section
variable {X:Cx} {a b c e tg elt iter:Expr} {es ifs:List Expr} {fa fb fc:Ef} {ga gb gi:Lf} {ta tc:Tf} {pos p:Pos} {st:Stmt}
def zOe (tl:TE):TI:=fun σ H R=>tl σ H fun x H1=>∃z,x = .str z/\R (Its z) H1
theorem zR7 {l:Expr}{tl:TE}(hl:PE X l tl):PI X tg l (zOe tl):=by
 intro pins s σ H R I h
 refine thn (hl pins s σ H _ I h) fun v s1 ⟨x,H1,I1,r1,q1⟩=>?_
 obtain⟨z,e,q⟩:=q1
 subst e
 obtain⟨t,rfl⟩:=r1
 have fin:∀(o:Obj) (ty:String),(ty="str_ascii_iterator"∨ty="str_iterator")->(s1.heap.push o).IsStrIter s1.heap.objs.size ty z t 0->PIE X pins σ tg R (.ref s1.heap.objs.size) { s1 with heap:=s1.heap.push o }:=fun o ty hty st=>by
   refine⟨s1.heap.objs.size,[s1.heap.objs.size],_,_,H1,rfl,I1.kept (t':=s1.toks) fun b o e=>Heap.get?_push_of_some _ e,zSQ _ ty hty z t,st,fun b hb=>?_,q⟩
   have e:b=s1.heap.objs.size:=by simpa using hb
   subst e
   exact I1.fpOk (Nat.le_refl _) (I1.hok.fresh (Nat.le_refl _))
 cases ha:z.cps.all (· < 128)
 · exact wpAny_pyIter_wide ha (fin _ _ (.inr rfl) ⟨_,Heap.get?_push_size _ rfl,rfl,rfl⟩)
 · exact wpAny_pyIter_ascii ha (fin _ _ (.inl rfl) ⟨_,Heap.get?_push_size _ rfl,rfl,rfl⟩)
def iS (f:Ef):Lf:=fun ρ=>(f ρ).bind fun d=>match d with | .str x=>some (nN x) | _=>none
theorem zRR (h:PF X e fa):PFI X tg e (iS fa):=by
 refine PI.to (zR7 h) ?_
 rintro σ H R ⟨G0,H0,G,ρ,ds,good,hf,k⟩
 unfold iS at hf
 obtain⟨d,h1,hf⟩:=Option.bind_eq_some_iff.mp hf
 cases d with
 | str x =>
   cases hf
   refine⟨G0,H0,G,ρ,_,good,h1,fun v H1 G1 s1 r1=>?_⟩
   exact⟨x,rep_str.mp r1,k _ H1 G1 s1 zW7⟩
 | _=>cases hf
def gIn:D->D->Option Bool | .str i,.str j=>some (!(Builtin.Str.occurrences j i 0 j.length 1).isEmpty) | _,_=>none
theorem zOU:CmR X .In gIn:=⟨_,zVi,fun d d' k G H x y Q h s rx ry q=>by
 unfold gIn at h
 split at h
 · cases h;exact⟨_,_,rep_str.mp rx,rep_str.mp ry,q H G (.refl s)⟩
 · cases h⟩
def eB3 (g g':D->D->Option Bool)(fa fb fc:Ef):Tf:=fun ρ=>(fa ρ).bind fun x=>(fb ρ).bind fun y=>(g x y).bind fun k=>if k=true then(fc ρ).bind fun z=>g' y z else some false
theorem zSk {op op':CmpOp}{g g':D->D->Option Bool}(hc1:CmR X op g)(hc2:CmR X op' g')(ha:PF X a fa)(hb:PF X b fb)(hc:PF X c fc)(hm:lastMarks [op,op'] [b,c]=false:=by with_unfolding_all rfl):PF X (.Compare a [op,op'] [b,c] pos) (xE (eB3 g g' fa fb fc)):=by
 obtain⟨r,ho,hr⟩:=hc1
 obtain⟨r',ho',hr'⟩:=hc2
 refine PE.to (zS7 ho ho' ha hb hc hm) ?_
 rintro σ H Q ⟨G0,H0,G,ρ,d,good,hf,k⟩
 obtain⟨b',hf2,rfl⟩:=cM hf
 unfold eB3 at hf2
 obtain⟨x,h1,hf2⟩:=Option.bind_eq_some_iff.mp hf2
 obtain⟨y,h2,hf2⟩:=Option.bind_eq_some_iff.mp hf2
 obtain⟨kk,h3,hf2⟩:=Option.bind_eq_some_iff.mp hf2
 refine⟨G0,H0,G,ρ,_,good,h1,fun u H1 G1 s1 r1=>⟨G0,H0,G1,ρ,_,good.step s1,h2,fun v H2 G2 s2 r2=>?_⟩⟩
 refine hr x y kk G2 H2 u v _ h3 s2.sub (r1.mono s2.gg) r2 fun H3 G3 s3=>⟨kk,rfl,?_⟩
 split at hf2
 · rename_i hk
   rw[if_pos hk]
   obtain⟨z,h4,hf3⟩:=Option.bind_eq_some_iff.mp hf2
   refine⟨G0,H0,G3,ρ,_,((good.step s1).step s2).step s3,h4,fun w' H4 G4 s4 r4=>?_⟩
   exact hr' y z b' G4 H4 v w' Q hf3 s4.sub ((r2.mono s3.gg).mono s4.gg) r4 fun H5 G5 s5=>k _ _ G5 ((((s1.trans s2).trans s3).trans s4).trans s5) (rep_bl.mpr rfl)
 · rename_i hk
   rw[if_neg hk];cases hf2
   exact k _ _ G3 ((s1.trans s2).trans s3) (rep_bl.mpr rfl)
def zPO:D->D->Option D
 | .int i,.int j=>some (.int (i+j))
 | .str i,.str j=>if i.length+j.length<=lim then some (.str (i++j)) else none
 | _,_=>none
def yM (fa fb:Ef):Ef:=fun ρ=>(fa ρ).bind fun x=>(fb ρ).bind fun y=>zPO x y
theorem tZ (ha:PF X a fa)(hb:PF X b fb):PF X (.BinOp a .Add b pos) (yM fa fb):=by
 refine PE.to (zZQ (op_add.or zWM) ha hb) ?_
 rintro σ H Q ⟨G0,H0,G,ρ,d,good,hf,k⟩
 unfold yM at hf
 obtain⟨x,h1,hf⟩:=Option.bind_eq_some_iff.mp hf
 obtain⟨y,h2,hf⟩:=Option.bind_eq_some_iff.mp hf
 refine⟨G0,H0,G,ρ,_,good,h1,fun u H1 G1 s1 r1=>⟨G0,H0,G1,ρ,_,good.step s1,h2,fun v H2 G2 s2 r2=>?_⟩⟩
 have r1:=r1.mono s2.gg
 unfold zPO at hf
 split at hf
 · cases hf;exact .inl ⟨_,_,rep_int.mp r1,rep_int.mp r2,k _ _ G2 (s1.trans s2) (rep_int.mpr rfl)⟩
 · split at hf
   · rename_i hz;cases hf;exact .inr ⟨_,_,rep_str.mp r1,rep_str.mp r2,Nat.le_of_lt (wD hz),k _ _ G2 (s1.trans s2) (rep_str.mpr rfl)⟩
   · cases hf
 · cases hf
def zQO:V->List V->Hp->VK->Prop:=fun x vs H Q=>∃a b,x = .str a/\vs=[.str b]/\Q (.int (Txt.find a b)) H
theorem zYY:MtR X "str.find" zQO:=by
 intro pins s σ H x xs v us Q I rx rv h
 obtain⟨a,b,rfl,rfl,q⟩:=h
 obtain⟨t,rfl⟩:=rx
 obtain⟨u,rfl,t',rfl⟩:=rv.one
 exact SC.find ⟨.int _,H,I.tok _,⟨_,rfl⟩,q⟩
def fN (fa fb:Ef):Ef:=fun ρ=>(fa ρ).bind fun x=>(fb ρ).bind fun y=>match x,y with | .str a,.str b=>some (.int (Txt.find a b)) | _,_=>none
theorem zY8 (ht:PE X c (tBM X.K "str" zQO (tF X.K fa) (cZ (tF X.K fb) zWh))):PF X c (fN fa fb):=by
 refine PE.to ht ?_
 rintro σ H Q ⟨G0,H0,G,ρ,d,good,hf,k⟩
 unfold fN at hf
 obtain⟨x,h1,hf⟩:=Option.bind_eq_some_iff.mp hf
 obtain⟨y,h2,hf⟩:=Option.bind_eq_some_iff.mp hf
 split at hf
 · cases hf
   refine⟨G0,H0,G,ρ,_,good,h1,fun u H1 G1 s1 r1=>?_⟩
   have r1:=rep_str.mp r1
   subst r1
   refine⟨rfl,G0,H0,G1,ρ,_,good.step s1,h2,fun v H2 G2 s2 r2=>?_⟩
   have r2:=rep_str.mp r2
   subst r2
   exact⟨_,_,rfl,rfl,k _ _ G2 (s1.trans s2) (rep_int.mpr rfl)⟩
 · cases hf
end
end L2
namespace L2
open PySem PySem.Spec PyProof.Rows
section
variable {X:Cx} {a b c e tg elt iter:Expr} {es ifs:List Expr} {fa fb fc:Ef} {ga gb gi:Lf} {ta tc:Tf} {pos p:Pos} {st:Stmt}
def wH (f:Ef):Ef:=fun ρ=>(f ρ).bind fun d=>match d with | .int i=>if i.natAbs.log2 < 1920 then some (.str (Str.ofString (toString i))) else none | _=>none
theorem bM (hg:Gl X "str")(hm:X.mg "str"=none)(h:PF X a fa)(hs:starEach [a] X.env=[(false,eval a X.env)]:=by rfl):PF X (.Call (.Name "str" p) [a] [] pos) (wH fa):=by
 refine PE.to (rG zYZ hg hm (by rfl) (yW h yI (by rw[hs];rfl)) (by decide) (by decide) (by rw[hs];rfl) (by rfl)) ?_
 rintro σ H Q ⟨G0,H0,G,ρ,d,good,hf,k⟩
 unfold wH at hf
 obtain⟨x,h1,hf⟩:=Option.bind_eq_some_iff.mp hf
 refine⟨G0,H0,G,ρ,_,good,h1,fun v H1 G1 s1 r1=>?_⟩
 cases x with
 | int i =>
   dsimp only at hf
   split at hf
   · rename_i hz
     cases hf
     exact⟨i,by rw[rep_int.mp r1],hz,k _ _ G1 s1 (rep_str.mpr rfl)⟩
   · cases hf
 | _=>cases hf
theorem zVh:CallR X (.type "int") (fun xs H Q=>∃x n,xs=[.str x]/\x.length<=640/\PySem.intText? x=some n/\Q (.int n) H):=by
 intro pins s σ H xs us Q I r h
 obtain⟨x,n,rfl,hl,hn,q⟩:=h
 obtain⟨u,rfl,t,rfl⟩:=pZ r
 exact PySem.W.KIN.call_text hn hl ⟨.int n,H,I.tok _,⟨_,rfl⟩,q⟩
def zOF:D->Option D
 | .int i=>some (.int i)
 | .bl k=>some (.int (if k then 1 else 0))
 | .str x=>if x.length<=640 then(PySem.intText? x).map .int else none
 | _=>none
def nH (f:Ef):Ef:=fun ρ=>(f ρ).bind zOF
theorem zXH (hg:Gl X "int")(hm:X.mg "int"=none)(h:PF X a fa)(hs:starEach [a] X.env=[(false,eval a X.env)]:=by rfl):PF X (.Call (.Name "int" p) [a] [] pos) (nH fa):=by
 refine PE.to (rG (call_int1.or zVh) hg hm (by rfl) (yW h yI (by rw[hs];rfl)) (by decide) (by decide) (by rw[hs];rfl) (by rfl)) ?_
 rintro σ H Q ⟨G0,H0,G,ρ,d,good,hf,k⟩
 unfold nH at hf
 obtain⟨x,h1,hf⟩:=Option.bind_eq_some_iff.mp hf
 refine⟨G0,H0,G,ρ,_,good,h1,fun v H1 G1 s1 r1=>?_⟩
 unfold zOF at hf
 split at hf
 · cases hf;exact .inl (.inl ⟨_,by rw[rep_int.mp r1],k _ _ G1 s1 (rep_int.mpr rfl)⟩)
 · cases hf;exact .inl (.inr ⟨_,by rw[rep_bl.mp r1],k _ _ G1 s1 (rep_int.mpr rfl)⟩)
 · split at hf
   · rename_i hz
     obtain⟨n,h2,rfl⟩:=Option.map_eq_some_iff.mp hf
     exact .inr ⟨_,n,by rw[rep_str.mp r1],hz,h2,k _ _ G1 s1 (rep_int.mpr rfl)⟩
   · cases hf
 · cases hf
theorem zRA:OpR X (binaryOp .Add) (fun x y H Q=>∃l b xs zs,x = .ref l/\y = .ref b/\SqL X.K H l xs/\SqL X.K H b zs/\xs.length+zs.length<=sizeLine/\∀p,H p=none->Q (.ref p) (upd H p (.lst (xs++zs)))):=by
 intro pins s σ H x y v u Q I rx ry h
 obtain⟨l,b,xs,zs,rfl,rfl,hH,hB,hz,q⟩:=h
 cases rx
 cases ry
 obtain⟨its,r,pl,_⟩:=I.list hH
 obtain⟨its2,r2,pl2,_⟩:=I.list hB
 obtain⟨⟨cls,dd,data,sl⟩,ho,hc,n,hd⟩:=pl.isList
 obtain⟨⟨cls2,dd2,data2,sl2⟩,ho2,hc2,n2,hd2⟩:=pl2.isList
 simp only at hc hd hc2 hd2
 subst hc hd hc2 hd2
 have hl:=r.length
 have hl2:=r2.length
 have e:its.toArray++its2.toArray=(its++its2).toArray:=by simp
 refine concat_meets ⟨_,ho,rfl⟩ ⟨_,ho2,rfl⟩ noFill_list_add seq_list_add PySem.F.slot_list_add PySem.F.entry_list_add (PySem.F.args_list_add_2 _ _) (list_addW l b its.toArray its2.toArray n n2 dd dd2 sl sl2 (by rw[List.size_toArray,List.size_toArray];omega)) ⟨ho,ho2,?_⟩
 rw[e]
 exact⟨.ref _,_,I.lnew (t':=s.toks) (r.append r2) (by rw[List.length_append];omega),rfl,q _ I.fresh⟩
theorem iG (ha:zXh X a ga)(hb:zXh X b gb):PFr X (.BinOp a .Add b pos) (rJ ga gb):=by
 refine PE.toR (zZQ zRA ha hb) ?_
 rintro σ H Q ⟨G0,H0,G,ρ,d,good,hf,k⟩
 unfold rJ at hf
 obtain⟨xs,h1,hf⟩:=Option.bind_eq_some_iff.mp hf
 obtain⟨ys,h2,hf⟩:=Option.bind_eq_some_iff.mp hf
 obtain⟨rfl,h3⟩:=iF hf
 refine⟨G0,H0,G,ρ,_,good,h1,fun p vs H1 G1 s1 hq rs=>⟨G0,H0,G1,ρ,_,good.step s1,h2,fun q us H2 G2 s2 hq2 rs2=>?_⟩⟩
 refine⟨p,q,vs,us,rfl,rfl,(s1.sub.trans s2.hh).seq hq,s2.sub.seq hq2,?_,fun l hl=>?_⟩
 · rw[←rs.length,←rs2.length,←List.length_append];exact Nat.le_of_lt (wD h3)
 · have s3:=Step.own (o:=.lst (vs++us)) s2.sub hl
   exact k l _ _ G2 ((s1.trans s2).trans s3) ((s1.trans s2).hh.free hl) zD (s2.sub.free hl) ((rs.mono s2.gg).append rs2)
def zZu:List D->Option (List Str)
 | []=>some []
 | .str x::r=>(zZu r).map fun xs=>x::xs
 | _=>none
theorem zZz {K:PySem.W.Frag}{G:Hp}:∀ {ds:List D} {ys:List Str} {vs:List V},zZu ds=some ys->Reps K G ds vs->vs=ys.map V.str
 | [],_,_,h,r=>by cases h;rw[reps_nil] at r;rw[r];rfl
 | d::t,_,_,h,r=>by
   unfold zZu at h
   split at h
   · rename_i h';cases h'
   · rename_i k t' h'
     cases h'
     obtain⟨v,vr,rfl,r1,r2⟩:=reps_cons.mp r
     obtain⟨ks,h1,rfl⟩:=Option.map_eq_some_iff.mp h
     rw[zZz h1 r2,rep_str.mp r1];rfl
   · cases h
theorem zWE {ns:List Str}:∀ {us:List Value},Vals (ns.map V.str) us->StrsAre us ns:=by
 induction ns with
 | nil=>intro us r;rw[List.map_nil] at r;cases r;exact .nil
 | cons n ns ih =>
   intro us r
   rw[List.map_cons] at r
   cases r with
   | cons r1 r2 =>
     obtain⟨t,e⟩:=r1
     subst e
     exact .cons n t (ih r2)
def zQG (K:PySem.W.Frag):V->List V->Hp->VK->Prop:=fun x vs H Q=>∃z p ys,x = .str z/\vs=[.ref p]/\SqL K H p (ys.map V.str)/\(ys.map (·.length)).sum+ys.length*z.length<=16777216/\Q (.str (Txt.join z ys)) H
theorem rS:MtR X "str.join" (zQG X.K):=by
 intro pins s σ H x xs v us Q I rx rv h
 obtain⟨z,p,ys,rfl,rfl,hq,hz,q⟩:=h
 obtain⟨t,rfl⟩:=rx
 obtain⟨u,rfl,ru⟩:=rv.one
 cases ru
 obtain⟨its,r,pl,_⟩:=I.list hq
 exact join_list pl.isList (by simpa using zWE r) hz fun t' k=>⟨.str _,H,I.tok k,⟨t',rfl⟩,q⟩
def wK (fa:Ef)(ga:Lf):Ef:=fun ρ=>(fa ρ).bind fun x=>(ga ρ).bind fun ds=>match x with | .str z=>(zZu ds).bind fun ys=>if (ys.map (·.length)).sum+ys.length*z.length<=100000 then some (.str (Txt.join z ys)) else none | _=>none
theorem rO (ht:PE X c (tBM X.K "str" (zQG X.K) (tF X.K fa) (cZ (zRJ X.K ga) zWh))):PF X c (wK fa ga):=by
 refine PE.to ht ?_
 rintro σ H Q ⟨G0,H0,G,ρ,d,good,hf,k⟩
 unfold wK at hf
 obtain⟨x,h1,hf⟩:=Option.bind_eq_some_iff.mp hf
 obtain⟨ds,h2,hf⟩:=Option.bind_eq_some_iff.mp hf
 cases x with
 | str z =>
   dsimp only at hf
   obtain⟨ys,h3,hf⟩:=Option.bind_eq_some_iff.mp hf
   split at hf
   · rename_i hz
     cases hf
     refine⟨G0,H0,G,ρ,_,good,h1,fun u H1 G1 s1 r1=>?_⟩
     have r1:=rep_str.mp r1
     subst r1
     refine⟨rfl,G0,H0,G1,ρ,_,good.step s1,h2,fun q vs H2 G2 s2 hq rs=>?_⟩
     have e:=zZz h3 rs
     subst e
     exact⟨z,q,ys,rfl,rfl,s2.sub.seq hq,Nat.le_trans hz (by decide),k _ _ G2 (s1.trans s2) (rep_str.mpr rfl)⟩
   · cases hf
 | _=>cases hf
end
structure FunD (K:PySem.W.Frag)(x qual:Str)(st:Stmt)(f:Addr)(fd:FuncData):Prop where
 ex:∃(oc:Value) (od:Option Addr) (dV kV doc pm:Value) (an:Option Addr) (cdv ct:Value) (osl:Array (Option Value)),
   fd=PySem.W.fnOf x qual (zO st) (zQ st) (zX st) dV kV doc pm an cdv ct/\K.lookup f=some ⟨oc,od,.func fd,osl⟩/\PySem.W.codeIn K cdv qual=true
 kp:PySem.W.keepIn K (.ref f)=true
section
variable {P:Program} {w:World} {K:PySem.W.Frag} {mg:Str->Option Value} {base:Heap} {x qual:Str} {st:Stmt} {f:Addr} {fd:FuncData} {N ps:List Str} {k:Nat}
end
section
variable {X:Cx} {e:Expr} {es:List Expr} {ga:Lf} {pos p:Pos}
end
end L2
namespace L2
open PySem PySem.Spec PyProof.Rows
theorem cV {K:PySem.W.Frag}{G:Hp}{f:Str}{d:D}:∀ {ns:List Str} {ds:List D} {vs:List V},ns.length=ds.length->Reps K G ds vs->(ns.zip ds).lookup f=some d->∃u,(ns.zip vs).lookup f=some u/\Rep K G d u
 | [],_,_,_,_,h=>by simp at h
 | n::ns,[],_,hl,_,_=>by simp at hl
 | n::ns,e::ds,_,hl,r,h=>by
   obtain⟨v,vr,rfl,r1,r2⟩:=reps_cons.mp r
   rw[List.zip_cons_cons,List.lookup_cons] at h ⊢
   cases hq:f==n with
   | true=>rw[hq] at h;cases h;exact⟨v,rfl,r1⟩
   | false=>rw[hq] at h;exact cV (by simpa using hl) r2 h
section
variable {X:Cx} {a b c e tg elt iter:Expr} {es ifs:List Expr} {fa fb fc:Ef} {ga gb gi:Lf} {ta tc:Tf} {pos p:Pos} {st:Stmt}
def yO (c f:Str)(fa:Ef):Ef:=fun ρ=>(fa ρ).bind fun d=>match d with | .obj c' ns ds=>if c'=c then(ns.zip ds).lookup f else none | _=>none
theorem xF {C:Addr}{c f:Str}(hC:ClsAt X.K c C)(hcl:Cls X.K C)(hn:NoAttr X.K C f)(ha:PF X a fa)(hb:attributeBase a f X.env (eval a X.env)=eval a X.env:=by rfl):PF X (.Attribute a f pos) (yO c f fa):=by
 refine PE.to (zQp ha hb) ?_
 rintro σ H Q ⟨G0,H0,G,ρ,d,good,hf,k⟩
 unfold yO at hf
 obtain⟨x,h1,hf2⟩:=Option.bind_eq_some_iff.mp hf
 cases x with
 | obj c' ns ds =>
   dsimp only at hf2
   by_cases hc:c'=c
   · rw[if_pos hc] at hf2
     subst hc
     refine⟨G0,H0,G,ρ,_,good,h1,fun v H1 G1 s1 r1=>?_⟩
     obtain⟨C',q,dx,vs,e0,rfl,e1,e2,e3⟩:=rep_obj.mp r1
     have ec:=hC.one e0
     subst ec
     obtain⟨u,e4,e5⟩:=cV e2 e3 hf2
     exact⟨q,_,dx,ns.zip vs,u,rfl,s1.sub _ _ e1,hcl,hn,e4,k _ _ G1 s1 e5⟩
   · rw[if_neg hc] at hf2;cases hf2
 | _=>cases hf2
theorem iB {f:Str}{y:V}:∀ {ns:List Str} {vs:List V},ns.length=vs.length->f∉ns->mX f y (ns.zip vs)=(ns++[f]).zip (vs++[y])
 | [],[],_,_=>rfl
 | [],_::_,h,_=>by simp at h
 | _::_,[],h,_=>by simp at h
 | n::ns,v::vs,h,hf=>by
   show(if n=f then _ else(n,v)::mX f y (ns.zip vs))=_
   rw[if_neg (fun z=>hf (by rw[z];exact List.mem_cons_self)),iB (by simpa using h) (fun z=>hf (List.mem_cons_of_mem _ z))]
   rfl
def zRy (K:PySem.W.Frag)(C:Addr)(ns:List Str)(g:Lf):TS:=fun DD σ H=>∃(G0 H0 G:Hp) (ρ:List B) (p dx:Addr) (pre:List Str) (us:List V) (xs ds:List D),
 Good K G0 H0 G H σ ρ/\bT ρ/\σ[0]?=some (some (.ref p))/\H p=some (.ins C dx (pre.zip us))/\G p=none/\H0 p=none/\pre.length=us.length/\(pre++ns).Nodup/\(pre++ns).length<=900/\Reps K G xs us/\g ρ=some ds /\
 ∀H' G' vs,Step G0 H0 G' H'->H' p=some (.ins C dx ((pre++ns).zip vs))->G' p=none->Reps K G' (xs++ds) vs->DD.nx σ H'
theorem zV9 {C:Addr}:PSs X [] (zRy X.K C [] zT):=by
 intro pins s σ H D I h
 refine zYK pins s σ H D I ?_
 obtain⟨G0,H0,G,ρ,p,dx,pre,us,xs,ds,good,now,hs,hp,gp,h0,hl,nd,hz,rs,hg,k⟩:=h
 cases hg
 rw[List.append_nil] at k
 exact k H G us good.st (by rw[List.append_nil] at *;exact hp) gp (by rw[List.append_nil];exact rs)
theorem qD {C:Addr}{f x:Str}{ns:List Str}{g:Lf}{rest:List Stmt}{pos' p1:Pos}(hcl:Cls X.K C)(hn:NoAttr X.K C f)(hself:X.N[0]?=some x)(hvis:Vis X.env.scope x)(he:PF X e fa)(hr:PSs X rest (zRy X.K C ns g))(hd:(x==("__debug__":Str))=false:=by decide)(hcd:(x==("__classdict__":Str))=false:=by decide)
   (hs:swapsWith e (some (.Attribute (.Name x p1) f pos')) pos.line X.env=pure false:=by rfl):PSs X (.Assign [.Attribute (.Name x p1) f pos'] e pos::rest) (zRy X.K C (f::ns) (zZ fa g)):=by
 intro pins s σ H D I h
 refine hV (zWc (qV hself hvis hd hcd) he hs) hr pins s σ H D I ?_
 obtain⟨G0,H0,G,ρ,p,dx,pre,us,xs,ds,good,now,hself,hp,gp,h0,hl,nd,hz,rs,hg,k⟩:=h
 obtain⟨d,dr,h1,h2,rfl⟩:=gU hg
 have hlp:pre.length < 1000:=by rw[List.length_append] at hz;omega
 have hnp:f∉pre:=fun z=>(List.nodup_append.mp nd).2.2 f z f List.mem_cons_self rfl
 have e1:pre++f::ns=(pre++[f])++ns:=by simp
 refine⟨G0,H0,G,ρ,d,good,h1,fun v H1 G1 s1 r1=>⟨.ref p,hself,p,C,dx,pre.zip us,rfl,s1.hh _ _ hp,hcl,hn,?_,?_⟩⟩
 · rw[List.length_zip];omega
 · have hne:H p≠none:=by rw[hp];exact fun z=>nomatch z
   have gp1:G1 p=none:=(s1.new p hne).trans gp
   refine⟨G0,H0,G1,ρ,p,dx,pre++[f],us++[v],xs++[d],dr,(good.step s1).wrX now gp1 h0,now,hself,?_,gp1,h0,by rw[List.length_append,List.length_append,hl];rfl,by rw[←e1];exact nd,by rw[←e1];exact hz,(rs.mono s1.gg).snoc r1,h2,fun H' G' vs st q1 q2 q3=>?_⟩
   · rw[zD,iB hl hnp]
   · refine k H' G' vs st (by rw[e1];exact q1) q2 ?_
     rw[show xs++d::dr=(xs++[d])++dr by simp]
     exact q3
end
def spI (K:PySem.W.Frag)(C:Addr)(ns:List Str)(n:Nat)(f:List D->Option (List D)):Sp:=fun vs H Q _=>∃(p dx:Addr) (rest:List V) (G H0:Hp) (ds xs:List D),vs = .ref p::rest/\H=upd (upd H0 dx (.own p)) p (.ins C dx [])/\H0 p=none/\H0 dx=none/\dx≠p/\Same G H0/\Reps K G ds rest/\ds.length=n/\f ds=some xs /\
 ∀H' G' us,Step G H0 G' H'->H' p=some (.ins C dx (ns.zip us))->G' p=none->Reps K G' xs us->Q .non H'
theorem gE {K:PySem.W.Frag}{G H0 H:Hp}(m:Nat):∀ {ds:List D} {vs:List V},Reps K G ds vs->Paired (RB K H0 G H) (vs.map some++List.replicate m none) (ds.map .fz++List.replicate m .no)
 | [],_,h=>by
   rw[reps_nil] at h;subst h
   show Paired _ (List.replicate m none) (List.replicate m B.no)
   induction m with
   | zero=>exact .nil
   | succ n ih=>rw[List.replicate_succ,List.replicate_succ];exact .cons .no ih
 | d::r,_,h=>by
   obtain⟨v,vr,rfl,h1,h2⟩:=reps_cons.mp h
   exact .cons (.fz h1) (gE m h2)
theorem eD (m:Nat)(ds:List D):bT (.no::(ds.map B.fz++List.replicate m B.no)):=by
 constructor
 all_goals
   intro j es h
   cases j with
   | zero=>cases h
   | succ j =>
     rw[List.getElem?_cons_succ] at h
     by_cases hi:j < ds.length
     · rw[List.getElem?_append_left (by simpa using hi),List.getElem?_map] at h
       obtain⟨k,_,h⟩:=Option.map_eq_some_iff.mp h
       cases h
     · rw[List.getElem?_append_right (by simpa using hi),List.getElem?_replicate] at h
       split at h<;>cases h
def qS (N:Nat)(ds:List D):List B:=.no::(ds.map .fz++List.replicate (N - (ds.length+1)) .no)
section
variable {P:Program} {w:World} {K:PySem.W.Frag} {mg:Str->Option Value} {base:Heap} {x qual:Str} {st:Stmt} {f C:Addr} {fd:FuncData} {N ps ns:List Str} {k:Nat} {sf:Str}
theorem zVw {g:Lf}(F:Fun K x qual st f fd)(S:FnScope N (sf::ps) (zX st))(hnd:ns.Nodup)(hlen:ns.length<=900)
   (hb:∀(cdv:Value) (A:Around) (outer:List Env) (s:Shared) (H:Hp) (E:XK),Room k (A.deeper (envOfC qual (zX st) s.heap.objs.size f cdv))->PSs (aH CX0 P w K mg base N qual (zX st) f cdv A outer s H E).nox (zQ st) (zRy K C ns g)) :
   FnOk P w K mg base CX0 (k+1) f fd (sf::ps) (spI K C ns ps.length fun ds=>g (qS N.length ds)):=by
 refine F.ok S (fun vs H Q E h=>?_) (fun cdv A outer s H vs Q E hr h=>⟨_,hb cdv A outer s H E hr,?_⟩)
 · obtain⟨p,dx,rest,G,H0,ds,xs,rfl,_,_,_,_,_,rs,hl,_⟩:=h
   rw[List.length_cons,List.length_cons,←rs.length,hl]
 · obtain⟨p,dx,rest,G,H0,ds,xs,rfl,rfl,h1,h2,h3,sub,rs,hl,hf,k⟩:=h
   have hne:p≠dx:=h3.symm
   have hp1:(upd H0 dx (.own p)) p=none:=by rw[yX hne];exact h1
   have st1:Step G H0 G (upd H0 dx (.own p)):=Step.own sub h2
   have st2:Step G H0 G (upd (upd H0 dx (.own p)) p (.ins C dx [])):=st1.trans (Step.own st1.sub hp1)
   have good:Good K G H0 G (upd (upd H0 dx (.own p)) p (.ins C dx [])) (pT N (.ref p::rest)) (qS N.length ds):=by
     refine⟨st2,?_,fun i j a es es' q1=>absurd q1 ((eD _ ds).1 i es)⟩
     unfold pT qS
     rw[List.map_cons,List.length_cons,List.cons_append,←rs.length]
     exact .cons .no (gE _ rs)
   refine⟨G,H0,G,_,p,dx,[],[],[],xs,good,eD _ ds,rfl,zD,sub.free h1,h1,rfl,hnd,hlen,reps_nil.mpr rfl,hf,fun H' G' us s' q1 q2 q3=>k H' G' us s' q1 q2 q3⟩
end
section
variable {X:Cx} {a b c e tg elt iter:Expr} {es ifs:List Expr} {fa fb fc:Ef} {ga gb gi:Lf} {ta tc:Tf} {pos p:Pos} {st:Stmt}
def lH (c:Str)(ns:List Str)(n:Nat)(f:List D->Option (List D))(g:Lf):Ef:=fun ρ=>(g ρ).bind fun ds=>if ds.length=n then(f ds).bind fun xs=>if ns.length=xs.length then some (.obj c ns xs) else none else none
theorem zYx {k n:Nat}{C fI:Addr}{fd:FuncData}{ps ns:List Str}{c:Str}{f:List D->Option (List D)}(hC:ClsAt X.K c C)(M:Mk X.K C fI)(F:FnOk X.prog X.w X.K X.mg X.base CX0 k fI fd ps (spI X.K C ns n f))(hr:Room (k+1) X.A)(hm:X.mg c=some (.ref C))(hb:Binds X.K fd ps [])(hg:Gl X c)
   (ha:PFA X (e::es) ga) (hdb:(c==("__debug__":Str))=false:=by decide) (he:starEach (e::es) X.env=(false,eval e X.env)::starEach es X.env:=by rfl) (hpl:(backTo pos (starEach es X.env)).any (·.1)=false:=by rfl) :
   PF X (.Call (.Name c p) (e::es) [] pos) (lH c ns n f ga):=by
 refine PE.to (zVQ (E:=E0) M F hr hg hm hb .nil zVl ha hdb he hpl) ?_
 rintro σ H Q ⟨G0,H0,G,ρ,d,good,hf,k⟩
 unfold lH at hf
 obtain⟨ds,h1,hf⟩:=Option.bind_eq_some_iff.mp hf
 split at hf
 · rename_i hl
   obtain⟨xs,h2,hf⟩:=Option.bind_eq_some_iff.mp hf
   split at hf
   · rename_i hn
     cases hf
     refine⟨G0,H0,G,ρ,_,good,h1,fun vs H1 G1 s1 r1 x dx hx hdx hne=>?_⟩
     refine⟨x,dx,vs++[],G1,H1,ds,xs,rfl,rfl,hx,hdx,hne,s1.sub,by rw[List.append_nil];exact r1,hl,h2,fun H' G' us s' q1 q2 q3=>⟨rfl,?_⟩⟩
     exact k _ _ _ (s1.trans (s'.frz hx q1 q2)) (rep_obj.mpr ⟨C,x,dx,us,hC,rfl,zD,hn,q3.mono (Same.new q2)⟩)
   · cases hf
 · cases hf
def qE:D->D->Option Bool
 | d,.non=>some (qN d)
 | .bl x,.bl y=>some (x==y)
 | .non,.bl _=>some false
 | .int _,.bl _=>some false
 | .str _,.bl _=>some false
 | .tup _,.bl _=>some false
 | .lst _,.bl _=>some false
 | .obj _ _ _,.bl _=>some false
 | .exc _ _ _,.bl _=>some false
 | _,_=>none
theorem zPS:OpR X (compareOp .Is) (fun x y H Q=>∃k,y = .bl k/\Q (.bl (decide (x = .bl k))) H):=by
 intro pins s σ H x y v u Q I rx ry h
 obtain⟨k,rfl,q⟩:=h
 cases ry
 cases x with
 | bl z=>cases rx;refine is_bool (yF I q ?_);rw[zYB]
 | non=>cases rx;refine wpAny_is_other (by rfl) (by intro z;cases z) (yF I q (by simp))
 | int i=>obtain⟨t,rfl⟩:=rx;refine wpAny_is_other (by rfl) (by intro z;cases z) (yF I q (by simp))
 | str i=>obtain⟨t,rfl⟩:=rx;refine wpAny_is_other (by rfl) (by intro z;cases z) (yF I q (by simp))
 | byt i=>obtain⟨t,rfl⟩:=rx;refine wpAny_is_other (by rfl) (by intro z;cases z) (yF I q (by simp))
 | flt i=>obtain⟨t,rfl⟩:=rx;refine wpAny_is_other (by rfl) (by intro z;cases z) (yF I q (by simp))
 | ref i=>cases rx;refine wpAny_is_other (by rfl) (by intro z;cases z) (yF I q (by simp))
 | ty i=>cases rx;refine wpAny_is_other (by rfl) (by intro z;cases z) (yF I q (by simp))
theorem mW:CmR X .Is qE:=⟨_,op_isN.or zPS,fun d d' k G H x y Q h s rx ry q=>by
 have fin:∀(z:Bool) (v:V),d' = .bl z->x=v->k=decide (v = .bl z)->(fun x y H Q=>y=V.non/\Q (.bl (decide (x = .non))) H) x y H Q∨(∃k,y = .bl k/\Q (.bl (decide (x = .bl k))) H):=fun z v e1 e2 e3=>by
   subst e1;subst e2
   exact .inr ⟨z,rep_bl.mp ry,by rw[←e3];exact q H G (.refl s)⟩
 cases d' with
 | non =>
   have hk:qN d=k:=by cases d<;>(cases h;rfl)
   refine .inl ⟨rep_non.mp ry,?_⟩
   rw[zZl rx,hk];exact q H G (.refl s)
 | bl z =>
   cases d with
   | bl w=>cases h;exact fin z _ rfl (rep_bl.mp rx) (by rw[zYB])
   | non=>cases h;exact fin z _ rfl (rep_non.mp rx) (by simp)
   | int i=>cases h;exact fin z _ rfl (rep_int.mp rx) (by simp)
   | str i=>cases h;exact fin z _ rfl (rep_str.mp rx) (by simp)
   | tup ds=>cases h;obtain⟨p,_,e,_⟩:=rep_tup.mp rx;exact fin z _ rfl e (by simp)
   | lst ds=>cases h;obtain⟨p,_,e,_⟩:=rep_lst.mp rx;exact fin z _ rfl e (by simp)
   | obj _ _ ds=>cases h;obtain⟨_,p,_,_,_,e,_⟩:=rep_obj.mp rx;exact fin z _ rfl e (by simp)
   | exc _ _ ds=>cases h;obtain⟨_,p,_,_,_,e,_⟩:=rep_exc.mp rx;exact fin z _ rfl e (by simp)
 | _=>cases d<;>cases h⟩
def zRn (g:Lf)(f:Ef):Lf:=fun ρ=>(g ρ).bind fun ds=>(f ρ).bind fun n=>match n with | .int k=>if decide (0<=k)&&decide (k<=1000)&&decide (ds.length<=90) then some (List.replicate k.toNat ds).flatten else none | _=>none
theorem zYn {K:PySem.W.Frag}{G:Hp}{ds:List D}{vs:List V}(h:Reps K G ds vs):∀k:Nat,Reps K G (List.replicate k ds).flatten (List.replicate k vs).flatten
 | 0=>reps_nil.mpr rfl
 | k+1=>by
   rw[List.replicate_succ,List.replicate_succ,List.flatten_cons,List.flatten_cons]
   exact h.append (zYn h k)
theorem zPU (ha:PFr X a ga)(hb:PF X b fb):PFr X (.BinOp a .Mult b pos) (zRn ga fb):=by
 refine PE.toR (zZQ zQ7 ha hb) ?_
 rintro σ H Q ⟨G0,H0,G,ρ,d,good,hf,k⟩
 unfold zRn at hf
 obtain⟨xs,h1,hf⟩:=Option.bind_eq_some_iff.mp hf
 obtain⟨n,h2,hf⟩:=Option.bind_eq_some_iff.mp hf
 cases n with
 | int m =>
   dsimp only at hf
   split at hf
   · rename_i hc
     cases hf
     simp only[Bool.and_eq_true,decide_eq_true_eq] at hc
     refine⟨G0,H0,G,ρ,_,good,h1,fun p vs H1 G1 s1 hn hp gp rs=>⟨G0,H0,G1,ρ,_,good.step s1,h2,fun q H2 G2 s2 r2=>?_⟩⟩
     have hne:H1 p≠none:=by rw[hp];exact fun z=>nomatch z
     refine⟨p,m,vs,rfl,rep_int.mp r2,s2.hh _ _ hp,by omega,by omega,?_,fun l hl=>?_⟩
     · rw[←rs.length]
       have:xs.length*m.toNat<=90*1000:=Nat.mul_le_mul hc.2 (by omega)
       exact Nat.le_trans this (by decide)
     · have s3:=Step.own (o:=.lst (List.replicate m.toNat vs).flatten) s2.sub hl
       exact k l _ _ G2 ((s1.trans s2).trans s3) ((s1.trans s2).hh.free hl) zD (s2.sub.free hl) (zYn (rs.mono s2.gg) _)
   · cases hf
 | _=>cases hf
def jG (i:Nat):Tf:=fun ρ=>match ρ[i]? with | some (.ow ds)=>some (!ds.isEmpty) | _=>none
theorem zTC (hu:X.A.units < cLine):OpR X (compareOp .NotEq) (fun x y H Q=>∃l m xs,x = .ref l/\y = .ref m/\SqL X.K H l xs/\SqL X.K H m []/\Q (.bl (!xs.isEmpty)) H):=by
 intro pins s σ H x y v u Q I rx ry h
 obtain⟨l,m,xs,rfl,rfl,hl,hm,q⟩:=h
 cases rx
 cases ry
 obtain⟨its,w1,t1,_⟩:=I.list hl
 obtain⟨jts,w2,t2,_⟩:=I.list hm
 cases w2
 cases xs with
 | nil =>
   cases w1
   have R:=SeqAt.RcNeAt.lists (A:=X.A) (s:=s) (e:=fun _=>true) t1.isList t2.isList rfl hu (fun j h1=>absurd h1 (by simp))
   exact R X.prog X.w X.xe _ ⟨.bl false,H,I,rfl,q⟩
 | cons x r =>
   cases w1 with
   | cons r1 r2 =>
     have R:=SeqAt.RcNeAt.lists_lengths (A:=X.A) (s:=s) t1.isList t2.isList (by simp) hu
     exact R X.prog X.w X.xe _ ⟨.bl true,H,I,rfl,q⟩
theorem zTG {k:Nat}(i:Nat)(hr:Room k X.A){x:Str}{p1 p2:Pos}(hN:X.N[i]?=some x:=by rfl)(hv:Vis X.env.scope x:=by first | exact Or.inl rfl | exact Or.inr (Or.inl rfl) | exact Or.inr (Or.inr rfl))(hd:(x==("__debug__":Str))=false:=by decide)(hcd:(x==("__classdict__":Str))=false:=by decide) :
   PFT X (.Compare (.Name x p1) [.NotEq] [.List [] p2] pos) (jG i):=by
 refine PT.to (dW (zTC hr.units0) (qV hN hv hd hcd) (zSj yI) (dO _)) ?_
 rintro σ H Q ⟨G0,H0,G,ρ,b,good,hf,k⟩
 unfold jG at hf
 split at hf
 · rename_i ds hi
   cases hf
   obtain⟨q,vs,e1,e2,e3,e4,e5⟩:=good.addr hi
   refine⟨.ref q,e1,Nat.zero_le _,fun z hz=>⟨q,z,vs,rfl,rfl,.of (by rw[yX (yC e2 hz)];exact e2),.of zD,_,rfl,?_⟩⟩
   have e:(!vs.isEmpty) = !ds.isEmpty:=by
     have hl:=e5.length
     cases vs with
     | nil=>cases ds with
       | nil=>rfl
       | cons _ _=>simp at hl
     | cons _ _=>cases ds with
       | nil=>simp at hl
       | cons _ _=>rfl
   rw[e]
   exact k _ G (Step.own good.sub hz)
 · cases hf
end
section
variable {l:Addr} {its:Array Value} {n:Nat} {dd:Option Addr} {sl:Array (Option Value)} {y:Value} {q:Nat->Bool} {top:Int} {j:Nat}
theorem zV6 (hj:j < its.size)(ht:(j:Int) < top)(hq:q j=true):∀(k i:Nat),j - i=k->i<=j->(∀m,i<=m->m < j->q m=false)->Meets (Builtin.«list.index.loop» ⟨[.ref l,y,rawInt i,rawInt top],[]⟩)
   (fun A R s=>s.heap.get? l=some { cls:=.type "list",dict:=dd,data:=.seq its n,slots:=sl }/\(∀m (h:m < its.size),SeqAt.EqAt A.in1 s its[m] y (q m))/\R (.ok (.ret (.int j s.toks))) { s with toks:=s.toks+1 })
 | 0,i,hk,hi,_=>by
   have e:i=j:=by omega
   subst e
   intro P w A R s hyp
   obtain⟨hp,g,d,tk,os⟩:=s
   obtain⟨at_,eqs,fin⟩:=hyp
   wp_walk using wpAny_loadPart' at_
   rw[show(if (i:Int) < top then its[((i:Nat):Int).toNat]? else none)=some its[i] by simp[ht,hj]]
   refine wpAny_bind (eqs i hj P w _ _ ?_)
   rw[hq]
   wp_walk
   exact fin
 | k+1,i,hk,hi,hno=>by
   intro P w A R s hyp
   obtain⟨hp,g,d,tk,os⟩:=s
   obtain⟨at_,eqs,fin⟩:=hyp
   have lt:i < its.size:=by omega
   have lt2:(i:Int) < top:=by omega
   wp_walk using wpAny_loadPart' at_
   rw[show(if (i:Int) < top then its[((i:Nat):Int).toNat]? else none)=some its[i] by simp[lt2,lt]]
   refine wpAny_bind (eqs i lt P w _ _ ?_)
   rw[hno i (Nat.le_refl _) (by omega)]
   wp_walk
   rw[show((i:Int)+1)=((i+1:Nat):Int) by push_cast;rfl]
   exact⟨plainId_quiet MeetsSeq.plain_index_loop _,codeAny_builtin MeetsSeq.entry_index_loop (by
     rw[Around.under_plainId MeetsSeq.plain_index_loop _]
     exact zV6 hj ht hq k (i+1) (by omega) (by omega) (fun m h1 h2=>hno m (by omega) h2) P w A R _ ⟨at_,eqs,fin⟩)⟩
theorem zTn (hj:j < its.size)(hs:(j:Int) < 2^63 - 1)(hq:q j=true)(hno:∀m,m < j->q m=false):Meets (Builtin.«list.index» ⟨[.ref l,y],[]⟩)
   (fun A R s=>s.heap.get? l=some { cls:=.type "list",dict:=dd,data:=.seq its n,slots:=sl }/\(∀m (h:m < its.size),SeqAt.EqAt A.in1 s its[m] y (q m))/\R (.ok (.ret (.int j s.toks))) { s with toks:=s.toks+1 }):=by
 intro P w A R s hyp
 obtain⟨hp,g,d,tk,os⟩:=s
 obtain⟨at_,eqs,fin⟩:=hyp
 wp_walk using wpAny_loadPart' at_
 rw[show((fun i:Int=>if i < 0 then max 0 (i+(its.size:Int)) else i) ((none:Option Int).getD 0))=((0:Nat):Int) by simp,
   show((fun i:Int=>if i < 0 then max 0 (i+(its.size:Int)) else i) ((none:Option Int).getD (2^63 - 1)))=2^63 - 1 by simp]
 exact⟨plainId_quiet MeetsSeq.plain_index_loop _,codeAny_builtin MeetsSeq.entry_index_loop (by
   rw[Around.under_plainId MeetsSeq.plain_index_loop _]
   exact zV6 hj hs hq _ 0 rfl (Nat.zero_le _) (fun m _ h2=>hno m h2) P w A R _ ⟨at_,eqs,fin⟩)⟩
end
def ixD (d:D):List D->Option Nat
 | []=>none
 | x::r=>(eqD 8 x d).bind fun b=>if b=true then(if (r.all fun z=>(eqD 8 z d).isSome) then some 0 else none) else(ixD d r).map (· + 1)
theorem zYr {d:D}:∀ {ds:List D} {j:Nat},ixD d ds=some j->j < ds.length/\(∀(m:Nat) (x:D),ds[m]?=some x->∃b,eqD 8 x d=some b/\(m < j->b=false)/\(m=j->b=true))
 | [],_,h=>by cases h
 | x::r,j,h=>by
   unfold ixD at h
   obtain⟨b,h1,h⟩:=Option.bind_eq_some_iff.mp h
   split at h
   · rename_i hb
     split at h
     · rename_i ha
       cases h
       refine⟨by simp,fun m z hz=>?_⟩
       cases m with
       | zero=>cases hz;exact⟨b,h1,fun q=>absurd q (Nat.lt_irrefl _),fun _=>hb⟩
       | succ m =>
         rw[List.getElem?_cons_succ] at hz
         have:=List.all_eq_true.mp ha z (List.mem_of_getElem? hz)
         obtain⟨b',hb'⟩:=Option.isSome_iff_exists.mp this
         exact⟨b',hb',fun q=>by omega,fun q=>by omega⟩
     · cases h
   · rename_i hb
     obtain⟨i,h2,rfl⟩:=Option.map_eq_some_iff.mp h
     obtain⟨h3,h4⟩:=zYr h2
     refine⟨by rw[List.length_cons];omega,fun m z hz=>?_⟩
     cases m with
     | zero=>cases hz;exact⟨b,h1,fun _=>by simpa using hb,fun q=>by omega⟩
     | succ m =>
       rw[List.getElem?_cons_succ] at hz
       obtain⟨b',q1,q2,q3⟩:=h4 m z hz
       exact⟨b',q1,fun q=>q2 (by omega),fun q=>q3 (by omega)⟩
section
variable {X:Cx} {a b c e tg elt iter:Expr} {es ifs:List Expr} {fa fb fc:Ef} {ga gb gi:Lf} {ta tc:Tf} {pos p:Pos} {st:Stmt}
def zTS (X:Cx):V->List V->Hp->VK->Prop:=fun x vs H Q=>∃l y G ds ws d j,x = .ref l/\vs=[y]/\Same G H/\SqL X.K H l ws/\Reps X.K G ds ws/\Rep X.K G d y/\ixD d ds=some j/\ds.length<=100000/\Q (.int (j:Nat)) H
theorem zSJ {k:Nat}(hr:Room k X.A):MtR X "list.index" (zTS X):=by
 intro pins s σ H x xs v us Q I rx rv h
 obtain⟨l,y,G,ds,ws,d,j,rfl,rfl,sub,hq,rs,rd,hj,hl,q⟩:=h
 cases rx
 obtain⟨u,rfl,ru⟩:=rv.one
 obtain⟨its,r,pl,_⟩:=I.list hq
 obtain⟨⟨cls,dd,data,sl⟩,ho,hc,n,hd⟩:=pl.isList
 simp only at hc hd
 subst hc hd
 obtain⟨h1,h2⟩:=zYr hj
 have l1:=rs.length
 have l2:=r.length
 have hun:=hr.units
 have bs:∀m,∃b:Bool,(m < j->b=false)/\(m=j->b=true)/\∀(h:m < its.toArray.size),SeqAt.EqAt X.A.in1 s its.toArray[m] u b:=fun m=>by
   by_cases hm:m < ds.length
   · obtain⟨b,q1,q2,q3⟩:=h2 m _ (List.getElem?_eq_getElem hm)
     refine⟨b,q2,q3,fun h=>?_⟩
     obtain⟨v1,f1,g1⟩:=rs.get (List.getElem?_eq_getElem hm)
     obtain⟨u1,f3,g3⟩:=r.get f1
     have x1:its.toArray[m]=u1:=by
       have:=(List.getElem?_eq_some_iff.mp f3).2
       simpa using this
     rw[x1]
     exact(zQ4 I sub 8 X.A.in1 _ _ v1 y u1 u _ (by show X.A.units+1+8 < cLine;omega) q1 g1 rd g3 ru).2.2
   · exact⟨decide (m=j),fun z=>decide_eq_false (by omega),fun z=>decide_eq_true z,fun h=>absurd h (by rw[List.size_toArray,←l2,←l1];exact hm)⟩
 have hjs:j < its.toArray.size:=by rw[List.size_toArray,←l2,←l1];exact h1
 refine call_meets F.slot_list_index ⟨_,ho,rfl⟩ F.entry_list_index (F.args_list_index_2 _ _) (zTn (l:=l) (its:=its.toArray) (n:=n) (dd:=dd) (sl:=sl) (y:=u) (q:=fun m=>(bs m).choose) (j:=j) hjs (by omega) ((bs j).choose_spec.2.1 rfl) (fun m hm=>(bs m).choose_spec.1 hm)) ⟨ho,fun m h=>(bs m).choose_spec.2.2 h,?_⟩
 exact⟨.int (j:Nat),H,I.tok _,⟨_,rfl⟩,q⟩
def zWn (g:Lf)(f:Ef):Ef:=fun ρ=>(g ρ).bind fun ds=>(f ρ).bind fun d=>if ds.length<=100000 then(ixD d ds).map fun j=>.int (j:Nat) else none
theorem zTg {k:Nat}(hr:Room k X.A)(ht:PE X c (tBM X.K "list" (zTS X) (zRJ X.K ga) (cZ (tF X.K fb) zWh))):PF X c (zWn ga fb):=by
 refine PE.to ht ?_
 rintro σ H Q ⟨G0,H0,G,ρ,d,good,hf,k⟩
 unfold zWn at hf
 obtain⟨ds,h1,hf⟩:=Option.bind_eq_some_iff.mp hf
 obtain⟨y,h2,hf⟩:=Option.bind_eq_some_iff.mp hf
 split at hf
 · rename_i hl
   obtain⟨j,h3,rfl⟩:=Option.map_eq_some_iff.mp hf
   refine⟨G0,H0,G,ρ,_,good,h1,fun q vs H1 G1 s1 hq rs=>⟨.inl ⟨rfl,vs,s1.sub.seq hq⟩,G0,H0,G1,ρ,_,good.step s1,h2,fun v H2 G2 s2 r2=>?_⟩⟩
   exact⟨q,v,G2,ds,vs,y,j,rfl,rfl,s2.sub,(s1.sub.trans s2.hh).seq hq,rs.mono s2.gg,r2,h3,hl,k _ _ G2 (s1.trans s2) (rep_int.mpr rfl)⟩
 · cases hf
end
end L2
namespace L2
open PySem PySem.Spec PyProof.Rows
section
variable {prog:Program} {w:World} {A:Around} {E:Value->Shared->Prop} {s:Shared}
theorem zUA {M:Model}{a:Addr}{Q:Option Obj->Shared->Prop}(h:Q (s.heap.get? a) s):wpAny M A (loadIfAlive a) Q E s :=
 fun Γ p _=>by show Sem.wp M Γ (.loadIfAlive a .pure) _ _ p s;rw[Sem.wp_loadIfAlive];exact h
abbrev aW (h:Heap)(z TI TO T:Addr)(b:Bool):Prop:=h.get? z=some { cls:=.type "zip",dict:=none,data:=.fields #[rawInt T,.bool b,.bool false,.ref TI,.ref TO],slots:=#[] }
theorem zZ0 {z TI TO T:Addr}{b:Bool}{o:Obj}{Q:Bool->Shared->Prop}(hz:aW s.heap z TI TO T b)(hT:s.heap.get? T=some o)(hQ:∀h',aW h' z TI TO T true->(∀c u,c≠z->s.heap.get? c=some u->h'.get? c=some u)->h'.objs.size=s.heap.objs.size->Q false { s with heap:=h' }) :
   wpAny (model prog w) A (Builtin.SmallTypes.ownedTupleIsFree (.ref z)) Q E s:=by
 unfold Builtin.SmallTypes.ownedTupleIsFree
 refine wpAny_bind (wpAny_field hz rfl (x:=rawInt T) rfl ?_)
 change wpAny _ _ (loadIfAlive (Int.toNat (T:Int)) >>= _) _ _ _
 refine wpAny_bind (zUA ?_)
 rw[Int.toNat_natCast,hT]
 change wpAny _ _ (field (.ref z) 1 >>= _) _ _ _
 refine wpAny_bind (wpAny_field hz rfl (x:=.bool b) rfl ?_)
 cases b with
 | false =>
   change wpAny _ _ (setField (.ref z) 1 (.bool true) >>= fun _=>pure false) _ _ _
   refine wpAny_bind (wpAny_setField_rec hz (by simp) fun h' q1 q2=>wpAny_pure (hQ h' q1 (fun c u hc e=>q2.extBut _ _ hc e) q2.1))
 | true =>
   change wpAny _ _ (pure false) _ _ _
   exact wpAny_pure (hQ s.heap hz (fun _ _ _ e=>e) rfl)
theorem zUk {z TI TO i1 i2 l1 l2 T:Addr}{b:Bool}{o:Obj}{k:Nat}{xs ys:Array Value}{x y:Value}{Q:Value->Shared->Prop}(D:ZipApart z TI TO i1 i2 l1 l2)
   (hz:aW s.heap z TI TO T b) (hT:s.heap.get? T=some o) (hTI:IsPair s.heap TI (.ref i1) (.ref i2))
   (h1:s.heap.IsListIter i1 l1 k) (h2:s.heap.IsListIter i2 l2 k) (hl1:s.heap.IsList l1 xs) (hl2:s.heap.IsList l2 ys) (hx:xs[k]?=some x) (hy:ys[k]?=some y)
   (hQ:∀h',aW h' z TI TO T true->h'.IsListIter i1 l1 (k+1)->h'.IsListIter i2 l2 (k+1)->IsPair h' s.heap.objs.size x y ->
     (∀c o,c≠z->c≠i1->c≠i2->s.heap.get? c=some o->h'.get? c=some o)->Q (.ref s.heap.objs.size) { s with heap:=h' }) :
   wpAny (model prog w) A (Builtin.«zip.__next__» ⟨[.ref z],[]⟩) (fun fin s'=>∃v,fin = .done (.ret v)/\Q v s') E s:=by
 change wpAny _ _ (field (.ref z) 2 >>= _) _ _ _
 refine wpAny_bind (wpAny_field hz rfl (x:=.bool false) rfl ?_)
 change wpAny _ _ (field (.ref z) 3 >>= _) _ _ _
 refine wpAny_bind (wpAny_field hz rfl (x:=.ref TI) rfl (wpAny_bind (wpAny_seqItems hTI rfl ?_)))
 change wpAny _ _ (Builtin.SmallTypes.ownedTupleIsFree (.ref z) >>= _) _ _ _
 refine wpAny_bind (zZ0 hz hT fun g1 z1 k1 e1=>?_)
 simp only[Bool.false_eq_true,if_false]
 refine wpAny_bind ?_
 simp only[←Array.forIn_toList,List.forIn_cons,List.forIn_nil]
 refine wpAny_bind (wpAny_bind (wpAny_holding ?_))
 change wpAny _ _ (Builtin.SmallTypes.nextOf (.ref i1) >>= _) _ _ _
 refine wpAny_bind (wpAny_nextOf_list_item (h1.at fun o e=>k1 _ o D.i1z e) (hl1.at fun o e=>k1 _ o D.l1z e) hx fun g2 u1 t2=>wpAny_pure (wpAny_pure (wpAny_bind (wpAny_bind (wpAny_holding ?_)))))
 change wpAny _ _ (Builtin.SmallTypes.nextOf (.ref i2) >>= _) _ _ _
 refine wpAny_bind (wpAny_nextOf_list_item ((h2.at fun o e=>k1 _ o D.i2z e).extBut t2.extBut D.i12.symm) ((hl2.at fun o e=>k1 _ o D.l2z e).extBut t2.extBut D.l2i1) hy fun g3 u2 t3=>wpAny_pure (wpAny_pure (wpAny_pure ?_)))
 have esz:g3.objs.size=s.heap.objs.size:=by rw[t3.1,t2.1,e1]
 refine wpAny_bind (wpAny_newTuple ?_ (by show 2<=sizeLine;exact Nat.le_of_lt (wD (by decide))))
 refine wpAny_pure ⟨_,rfl,?_⟩
 have z3:aW g3 z TI TO T true:=t3.extBut _ _ D.i2z.symm (t2.extBut _ _ D.i1z.symm z1)
 have w1:=u1.extBut t3.extBut D.i12
 change Q (.ref g3.objs.size) { s with heap:=g3.push { cls:=.type "tuple",data:=.seq #[x,y] } }
 have n3:IsPair (g3.push { cls:=.type "tuple",data:=.seq #[x,y] }) g3.objs.size x y:=Heap.get?_push_size _ rfl
 rw[esz] at n3 ⊢
 exact hQ _ (Heap.get?_push_of_some _ z3) (w1.at fun o e=>Heap.get?_push_of_some _ e) (u2.at fun o e=>Heap.get?_push_of_some _ e) n3
   fun c o c1 c2 c3 e=>Heap.get?_push_of_some _ (t3.extBut _ _ c3 (t2.extBut _ _ c2 (k1 _ _ c1 e)))
theorem zSK {z TI TO i1 i2 l1 l2 T:Addr}{b:Bool}{o:Obj}{k:Nat}{xs ys:Array Value}{Q:Fin->Shared->Prop}(hh:A.handled=none)(D:ZipApart z TI TO i1 i2 l1 l2)
   (hz:aW s.heap z TI TO T b) (hT:s.heap.get? T=some o) (hTI:IsPair s.heap TI (.ref i1) (.ref i2))
   (h1:s.heap.IsListIter i1 l1 k) (h2:s.heap.IsListIter i2 l2 k) (hl1:s.heap.IsList l1 xs) (hl2:s.heap.IsList l2 ys) (hend:xs[k]?=none∨ys[k]?=none)
   (hE:∀h' e,(∀c o,c≠z->c≠i1->c≠i2->s.heap.get? c=some o->h'.get? c=some o)->(∃o,h'.get? e=some o/\o.cls = .type "StopIteration")->E (.ref e) { s with heap:=h' }) :
   wpAny (model prog w) A (Builtin.«zip.__next__» ⟨[.ref z],[]⟩) Q E s:=by
 change wpAny _ _ (field (.ref z) 2 >>= _) _ _ _
 refine wpAny_bind (wpAny_field hz rfl (x:=.bool false) rfl ?_)
 change wpAny _ _ (field (.ref z) 3 >>= _) _ _ _
 refine wpAny_bind (wpAny_field hz rfl (x:=.ref TI) rfl (wpAny_bind (wpAny_seqItems hTI rfl ?_)))
 change wpAny _ _ (Builtin.SmallTypes.ownedTupleIsFree (.ref z) >>= _) _ _ _
 refine wpAny_bind (zZ0 hz hT fun g1 z1 k1 e1=>?_)
 simp only[Bool.false_eq_true,if_false]
 refine wpAny_bind ?_
 simp only[←Array.forIn_toList,List.forIn_cons,List.forIn_nil]
 refine wpAny_bind (wpAny_bind (wpAny_holding ?_))
 change wpAny _ _ (Builtin.SmallTypes.nextOf (.ref i1) >>= _) _ _ _
 cases hx:xs[k]? with
 | none=>exact wpAny_bind (wpAny_nextOf_list_end hh (h1.at fun o e=>k1 _ o D.i1z e) (hl1.at fun o e=>k1 _ o D.l1z e) hx fun g2 e t2 he=>hE g2 e (fun c o c1 c2 _ q=>t2 _ _ c2 (k1 _ _ c1 q)) he)
 | some x =>
   have hy:ys[k]?=none:=by rcases hend with q | q;rw[hx] at q;cases q;exact q
   refine wpAny_bind (wpAny_nextOf_list_item (h1.at fun o e=>k1 _ o D.i1z e) (hl1.at fun o e=>k1 _ o D.l1z e) hx fun g2 u1 t2=>wpAny_pure (wpAny_pure (wpAny_bind (wpAny_bind (wpAny_holding ?_)))))
   change wpAny _ _ (Builtin.SmallTypes.nextOf (.ref i2) >>= _) _ _ _
   exact wpAny_bind (wpAny_nextOf_list_end hh ((h2.at fun o e=>k1 _ o D.i2z e).extBut t2.extBut D.i12.symm) ((hl2.at fun o e=>k1 _ o D.l2z e).extBut t2.extBut D.l2i1) hy fun g3 e t3 he=>hE g3 e (fun c o c1 c2 c3 q=>t3 _ _ c3 (t2.extBut _ _ c2 (k1 _ _ c1 q))) he)
theorem cL {z TI TO i1 i2 l1 l2 T:Addr}{b:Bool}{o:Obj}{k:Nat}{xs ys:Array Value}{x y:Value}{Q:Option Value->Shared->Prop}(D:ZipApart z TI TO i1 i2 l1 l2)
   (hz:aW s.heap z TI TO T b) (hT:s.heap.get? T=some o) (hTI:IsPair s.heap TI (.ref i1) (.ref i2))
   (h1:s.heap.IsListIter i1 l1 k) (h2:s.heap.IsListIter i2 l2 k) (hl1:s.heap.IsList l1 xs) (hl2:s.heap.IsList l2 ys) (hx:xs[k]?=some x) (hy:ys[k]?=some y)
   (hQ:∀h',aW h' z TI TO T true->h'.IsListIter i1 l1 (k+1)->h'.IsListIter i2 l2 (k+1)->IsPair h' s.heap.objs.size x y ->
     (∀c o,c≠z->c≠i1->c≠i2->s.heap.get? c=some o->h'.get? c=some o)->Q (some (.ref s.heap.objs.size)) { s with heap:=h' }):wpAny (model prog w) A (pyNext (.ref z)) Q E s:=by
 have hT':s.TypeIs (.ref z) "zip":=⟨_,hz,rfl⟩
 unfold pyNext
 exact wpAny_bind (wpAny_attempt (wpAny_callSpecial?_slot (name:=Str.ofString "__next__") hT' F.slot_zip_next (wpAny_call_entry F.slot_zip_next hT' F.entry_zip_next (zUk D hz hT hTI h1 h2 hl1 hl2 hx hy fun h' a1 a2 a3 a4 a5=>wpAny_pure (hQ h' a1 a2 a3 a4 a5)) (F.args_zip_next_1 _))))
theorem aK {z TI TO i1 i2 l1 l2 T:Addr}{b:Bool}{o:Obj}{k:Nat}{xs ys:Array Value}{Q:Option Value->Shared->Prop}(hh:A.handled=none)(D:ZipApart z TI TO i1 i2 l1 l2)
   (hz:aW s.heap z TI TO T b) (hT:s.heap.get? T=some o) (hTI:IsPair s.heap TI (.ref i1) (.ref i2))
   (h1:s.heap.IsListIter i1 l1 k) (h2:s.heap.IsListIter i2 l2 k) (hl1:s.heap.IsList l1 xs) (hl2:s.heap.IsList l2 ys) (hend:xs[k]?=none∨ys[k]?=none)
   (hQ:∀h',(∀c o,c≠z->c≠i1->c≠i2->s.heap.get? c=some o->h'.get? c=some o)->Q none { s with heap:=h' }):wpAny (model prog w) A (pyNext (.ref z)) Q E s:=by
 have hT':s.TypeIs (.ref z) "zip":=⟨_,hz,rfl⟩
 unfold pyNext
 refine wpAny_bind (wpAny_attempt (wpAny_callSpecial?_slot (name:=Str.ofString "__next__") hT' F.slot_zip_next (wpAny_call_entry F.slot_zip_next hT' F.entry_zip_next (zSK hh D hz hT hTI h1 h2 hl1 hl2 hend fun h' e hk he=>?_) (F.args_zip_next_1 _))))
 obtain⟨o,q1,q2⟩:=he
 exact wpAny_bind (wpAny_isInstance (T:="StopIteration") (b:=true) ⟨o,q1,q2⟩ isSubtype_stop (wpAny_pure (hQ _ hk)))
end
def ZSt (h:Heap)(n a b S:Addr)(i:Nat):Prop :=
 ((IsZip h (n+4) (n+2) (n+3) .none/\∃p q,IsPair h (n+3) p q)∨∃T f o,aW h (n+4) (n+2) (n+3) T f/\T∉[n+4,n+2,n+3,n,n+1]/\T≠S/\h.get? T=some o)/\IsPair h (n+2) (.ref n) (.ref (n+1))/\h.IsListIter n a i/\h.IsListIter (n+1) b i
theorem ZSt.keep {h h':Heap}{n a b S:Addr}{i:Nat}(z:ZSt h n a b S i)(k:∀c u,c≠S->h.get? c=some u->h'.get? c=some u)(hS:S∉[n+4,n+2,n+3,n,n+1])(hS3:(n+3)≠S):ZSt h' n a b S i:=by
 have ne:∀c∈[n+4,n+2,n+3,n,n+1],c≠S:=fun c hc z=>hS (z ▸ hc)
 obtain⟨z1,z2,z3,z4⟩:=z
 refine⟨?_,k _ _ (ne _ (by simp)) z2,z3.at fun o e=>k _ o (ne _ (by simp)) e,z4.at fun o e=>k _ o (ne _ (by simp)) e⟩
 rcases z1 with⟨q1,p,q,q2⟩ | ⟨T,f,o,q1,q2,q3,q4⟩
 · exact .inl ⟨k _ _ (ne _ (by simp)) q1,p,q,k _ _ hS3 q2⟩
 · exact .inr ⟨T,f,o,k _ _ (ne _ (by simp)) q1,q2,q3,k _ _ q3 q4⟩
theorem zTJ {X:Cx}{pins:List (Addr×Obj)}{σ:St}{H:Hp}{s:Shared}(I:Inv X pins σ H s){c d:Addr}{v:List V}(hf:oV X pins H c)(hd:SqL X.K H d v):d≠c:=fun z=>by
 have e:=hf.1
 rcases hd with(hd | ⟨ob,hd⟩) | hd
 · rw[z,e] at hd;cases hd
 · rw[z,e] at hd;cases hd
 · obtain⟨ob,_,_,hk,_⟩:=hd
   have e3:=I.ok.mod.kin d ob hk
   obtain⟨_,q1,_,q3,_⟩:=hf
   rcases q3 with q3 | q3
   · exact I.ok.noex d ob e3 (z ▸ q3)
   · exact absurd (Nat.lt_of_lt_of_le (Heap.lt_size (I.ok.bs d ob e3).1) (z ▸ q3)) (Nat.lt_irrefl _)
theorem zTR {X:Cx}{pins:List (Addr×Obj)}{σ:St}{A:Around}(hh:A.handled=none){n a b S:Addr}{G0 H0:Hp}{ds es:List D}{us ws:List V}{res:Value}{R:Result->Shared->Prop}
   (ha:SqL X.K G0 a us) (ra:Reps X.K G0 ds us) (hb:SqL X.K G0 b ws) (rb:Reps X.K G0 es ws) (hS:S∉[n+4,n+2,n+3,n,n+1]) (hlen:(tJ ds es).length<=1000) :
   ∀(k i:Nat) (s:Shared) (H G:Hp) (acc:Array Value) (c:Nat) (vs:List V),Inv X pins σ H s->(∀d∈S::[n+4,n+2,n+3,n,n+1],oV X pins H d)->Step G0 H0 G H->Reps X.K G ((tJ ds es).take i) vs->ZSt s.heap n a b S i ->
     s.heap.get? S=some { cls:=.type "list",dict:=none,data:=.seq acc c,slots:=#[] }->Vals vs acc.toList->i+k=(tJ ds es).length ->
     (∀s' H' G' acc' c' vs',Inv X pins σ H' s'->Step G0 H0 G' H'->Reps X.K G' (tJ ds es) vs'->Vals vs' acc'.toList->s'.heap.get? S=some { cls:=.type "list",dict:=none,data:=.seq acc' c',slots:=#[] }->R (.ok (.ret res)) s') ->
     codeAny (model X.prog X.w) A (.builtin "list.extend.loop" ⟨[.ref S,.ref (n+4),res],[]⟩) R s:=by
 intro k
 have neS:∀c∈[n+4,n+2,n+3,n,n+1],c≠S:=fun c hc z=>hS (z ▸ hc)
 induction k with
 | zero =>
   intro i s H G acc c vs I hf st rv z hs hv hi hR
   refine codeAny_builtin F.entry_extend_loop ?_
   rw[Around.under_plainId F.plain_extend_loop _]
   show wpAny _ A.in1 (pyNext (.ref (n+4)) >>= _) _ _ s
   have hqa:=st.sub.seq (st.gg.seq ha)
   have hqb:=st.sub.seq (st.gg.seq hb)
   obtain⟨its,rva,pa,_⟩:=I.list hqa
   obtain⟨jts,rvb,pb,_⟩:=I.list hqb
   have hl:=cD ds es
   have la:=ra.length
   have lb:=rb.length
   have lva:=rva.length
   have lvb:=rvb.length
   have hend:its.toArray[i]?=none∨jts.toArray[i]?=none:=by
     rcases Nat.lt_or_ge i its.length with q | q
     · exact .inr (by simp;omega)
     · exact .inl (by simp;omega)
   have ap:∀c∈[n+4,n+2,n+3,n,n+1],∀v d,SqL X.K H d v->d≠c:=fun c hc v d q=>zTJ I (hf c (List.mem_cons_of_mem _ hc)) q
   have D:ZipApart (n+4) (n+2) (n+3) n (n+1) a b:=⟨zne 2 4 (by decide),zne 3 4 (by decide),zne 0 4 (by decide),zne 1 4 (by decide),zne 2 3 (by decide),zne 2 0 (by decide),zne 2 1 (by decide),zne 3 0 (by decide),zne 3 1 (by decide),zne 0 1 (by decide),ap _ (by simp) us a hqa,ap _ (by simp) us a hqa,ap _ (by simp) us a hqa,ap _ (by simp) us a hqa,ap _ (by simp) ws b hqb,ap _ (by simp) ws b hqb,ap _ (by simp) ws b hqb,ap _ (by simp) ws b hqb⟩
   have fin:∀h':Heap,(∀c o,c∉[n+4,n+2,n+3,n,n+1]->s.heap.get? c=some o->h'.get? c=some o)->R (.ok (.ret res)) { s with heap:=h' }:=fun h' kk=>by
     have I2:Inv X pins σ H { s with heap:=h' }:=I.turnedL (t':=s.toks) kk fun d hd=>hf d (List.mem_cons_of_mem _ hd)
     rw[show(tJ ds es).take i=tJ ds es from List.take_of_length_le (by omega)] at rv
     exact hR _ H G acc c vs I2 st rv hv (kk _ _ hS hs)
   obtain⟨z1,z2,z3,z4⟩:=z
   refine wpAny_bind ?_
   rcases z1 with⟨q1,p,q,q2⟩ | ⟨T,f,o,q1,q2,q3,q4⟩
   · exact wpAny_pyNext_zip_end hh D q1 z2 q2 z3 z4 pa.isList pb.isList hend fun h' hk=>wpAny_pure (fin h' fun c o hc e=>hk c o (fun z=>hc (by simp[z])) (fun z=>hc (by simp[z])) (fun z=>hc (by simp[z])) (fun z=>hc (by simp[z])) e)
   · exact aK hh D q1 q4 z2 z3 z4 pa.isList pb.isList hend fun h' hk=>wpAny_pure (fin h' fun c o hc e=>hk c o (fun z=>hc (by simp[z])) (fun z=>hc (by simp[z])) (fun z=>hc (by simp[z])) e)
 | succ k ih =>
   intro i s H G acc c vs I hf st rv z hs hv hi hR
   refine codeAny_builtin F.entry_extend_loop ?_
   rw[Around.under_plainId F.plain_extend_loop _]
   show wpAny _ A.in1 (pyNext (.ref (n+4)) >>= _) _ _ s
   have hqa:=st.sub.seq (st.gg.seq ha)
   have hqb:=st.sub.seq (st.gg.seq hb)
   obtain⟨its,rva,pa,_⟩:=I.list hqa
   obtain⟨jts,rvb,pb,_⟩:=I.list hqb
   have ap:∀c∈[n+4,n+2,n+3,n,n+1],∀v d,SqL X.K H d v->d≠c:=fun c hc v d q=>zTJ I (hf c (List.mem_cons_of_mem _ hc)) q
   have D:ZipApart (n+4) (n+2) (n+3) n (n+1) a b:=⟨zne 2 4 (by decide),zne 3 4 (by decide),zne 0 4 (by decide),zne 1 4 (by decide),zne 2 3 (by decide),zne 2 0 (by decide),zne 2 1 (by decide),zne 3 0 (by decide),zne 3 1 (by decide),zne 0 1 (by decide),ap _ (by simp) us a hqa,ap _ (by simp) us a hqa,ap _ (by simp) us a hqa,ap _ (by simp) us a hqa,ap _ (by simp) ws b hqb,ap _ (by simp) ws b hqb,ap _ (by simp) ws b hqb,ap _ (by simp) ws b hqb⟩
   have hlt:i < (tJ ds es).length:=by omega
   obtain⟨x,y,e1,e2,e3⟩:=bI (List.getElem?_eq_getElem hlt)
   obtain⟨v,f1,r1⟩:=ra.get e1
   obtain⟨u,f2,r2⟩:=rb.get e2
   obtain⟨v',g1,q1⟩:=rva.get f1
   obtain⟨u',g2,q2⟩:=rvb.get f2
   have lac:acc.size=i:=by
     have h1:=hv.length;have h2:=rv.length;rw[List.length_take] at h2;have h3:acc.toList.length=acc.size:=Array.length_toList;omega
   have fin:∀h':Heap,IsPair h' s.heap.objs.size v' u'->ZSt h' n a b S (i+1)->(∀c o,c∉[n+4,n+2,n+3,n,n+1]->s.heap.get? c=some o->h'.get? c=some o)->∀c',(h'.update S (Obj.mapSeq (·.push (.ref s.heap.objs.size)))).get? S=some { cls:=.type "list",dict:=none,data:=.seq (acc.push (.ref s.heap.objs.size)) c',slots:=#[] } ->
       codeAny (model X.prog X.w) A (.builtin "list.extend.loop" ⟨[.ref S,.ref (n+4),res],[]⟩) R { s with heap:=h'.update S (Obj.mapSeq (·.push (.ref s.heap.objs.size))) }:=fun h' p zz kk c' eS=>by
     have I1:Inv X pins σ (upd H s.heap.objs.size (.tup [v,u])) { s with heap:=h' }:=I.turnedNew (t':=s.toks) kk (fun d hd=>hf d (List.mem_cons_of_mem _ hd)) (Nat.le_refl _) ⟨by show 2<=sizeLine;exact Nat.le_of_lt (wD (by decide)),[v',u'],.cons q1 (.cons q2 .nil),⟨_,p,rfl,_,rfl⟩⟩
     have lt:∀d∈S::[n+4,n+2,n+3,n,n+1],d < s.heap.objs.size:=fun d hd=>by
       obtain⟨z1,z2,⟨o3,z3,_⟩,⟨o4,z4,_⟩⟩:=z
       simp only[List.mem_cons,List.not_mem_nil,or_false] at hd
       rcases hd with q | q | q | q | q | q
       · rw[q];exact Heap.lt_size hs
       · rw[q]
         rcases z1 with⟨q1,_⟩ | ⟨T,f,o,q1,_⟩
         · exact Heap.lt_size q1
         · exact Heap.lt_size q1
       · rw[q];exact Heap.lt_size z2
       · rw[q];exact Nat.lt_of_succ_lt (show n+4 < _ from by
           rcases z1 with⟨q1,_⟩ | ⟨T,f,o,q1,_⟩
           · exact Heap.lt_size q1
           · exact Heap.lt_size q1)
       · rw[q];exact Heap.lt_size z3
       · rw[q];exact Heap.lt_size z4
     have hf1:∀d∈S::[n+4,n+2,n+3,n,n+1],oV X pins (upd H s.heap.objs.size (.tup [v,u])) d:=fun d hd=>⟨by rw[yX (Nat.ne_of_lt (lt d hd))];exact(hf d hd).1,(hf d hd).2⟩
     have oth:∀c o,c≠S->h'.get? c=some o->(h'.update S (Obj.mapSeq (·.push (.ref s.heap.objs.size)))).get? c=some o:=fun c o hc e=>(Heap.get?_update_other _ _ (Ne.symm hc)).trans e
     have I2:Inv X pins σ (upd H s.heap.objs.size (.tup [v,u])) { s with heap:=h'.update S (Obj.mapSeq (·.push (.ref s.heap.objs.size))) }:=Inv.turnedL (s:={ s with heap:=h' }) (h':=h'.update S (Obj.mapSeq (·.push (.ref s.heap.objs.size)))) (t':=s.toks) (fp:=[S]) I1 (fun c o hc e=>oth c o (fun z=>hc (by simp[z])) e) fun d hd=>hf1 d (by
       rw[List.mem_singleton] at hd;rw[hd];exact List.mem_cons_self)
     have st1:=Step.laid (o:=.tup [v,u]) st.sub I.fresh
     have st2:=st.trans st1
     have r3:Rep X.K (upd G s.heap.objs.size (.tup [v,u])) (.tup [x,y]) (.ref s.heap.objs.size):=rep_tup.mpr ⟨_,_,rfl,.of zD,reps_cons.mpr ⟨_,_,rfl,r1.mono st2.gg,reps_cons.mpr ⟨_,_,rfl,r2.mono st2.gg,reps_nil.mpr rfl⟩⟩⟩
     have r4:Reps X.K (upd G s.heap.objs.size (.tup [v,u])) ((tJ ds es).take (i+1)) (vs++[.ref s.heap.objs.size]):=by
       rw[List.take_succ_eq_append_getElem hlt,e3]
       exact(rv.mono st1.gg).snoc r3
     exact ih (i+1) _ _ _ _ _ _ I2 hf1 st2 r4 (zz.keep oth hS (neS _ (by simp))) eS (by rw[Array.toList_push];exact hv.snoc rfl) (by omega) hR
   have lsz:acc.size<=1000:=by omega
   have hsl:1001<=sizeLine:=Nat.le_of_lt (wD (by decide))
   obtain⟨z1,z2,z3,z4⟩:=z
   refine wpAny_bind ?_
   have nT:∀d∈S::[n+4,n+2,n+3,n,n+1],∀u,s.heap.get? d=some u->d≠s.heap.objs.size:=fun d _ u e=>Nat.ne_of_lt (Heap.lt_size e)
   rcases z1 with⟨q1,p,q,q2⟩ | ⟨T,f,o,q1,q2,q3,q4⟩
   · refine wpAny_pyNext_zip_item D q1 z2 q2 z3 z4 pa.isList pb.isList (by simpa using g1) (by simpa using g2) fun h' a1 a2 a3 a4 a5 a6 hk=>?_
     have kk:∀c o,c∉[n+4,n+2,n+3,n,n+1]->s.heap.get? c=some o->h'.get? c=some o:=fun c o hc e=>hk c o (fun z=>hc (by simp[z])) (fun z=>hc (by simp[z])) (fun z=>hc (by simp[z])) (fun z=>hc (by simp[z])) e
     have hS':=kk _ _ hS hs
     have zz:ZSt h' n a b S (i+1):=by
       refine⟨.inr ⟨s.heap.objs.size,false,_,a1,fun hm=>?_,fun z=>?_,a5⟩,hk _ _ D.TIz D.TITO D.TIi1 D.TIi2 z2,a3,a4⟩
       · obtain⟨o3,e3,_⟩:=z3
         obtain⟨o4,e4,_⟩:=z4
         simp only[List.mem_cons,List.not_mem_nil,or_false] at hm
         rcases hm with z | z | z | z | z
         · exact absurd (z ▸ Heap.lt_size q1) (Nat.lt_irrefl _)
         · exact absurd (z ▸ Heap.lt_size z2) (Nat.lt_irrefl _)
         · exact absurd (z ▸ Heap.lt_size q2) (Nat.lt_irrefl _)
         · exact absurd (z ▸ Heap.lt_size e3) (Nat.lt_irrefl _)
         · exact absurd (z ▸ Heap.lt_size e4) (Nat.lt_irrefl _)
       · exact absurd (z ▸ Heap.lt_size hs) (Nat.lt_irrefl _)
     show wpAny _ A.in1 (updateSeq S (·.push (.ref s.heap.objs.size)) >>= _) _ _ _
     refine wpAny_bind (wpAny_updateSeq hS' rfl (wpAny_pure ⟨plainId_quiet F.plain_extend_loop _,fin h' a5 zz kk _ (Heap.get?_update_self _ hS' rfl)⟩) ?_ ?_)
     · show acc.size<=sizeLine;omega
     · show(acc.push _).size<=sizeLine+1;rw[Array.size_push];omega
   · refine cL D q1 q4 z2 z3 z4 pa.isList pb.isList (by simpa using g1) (by simpa using g2) fun h' a1 a2 a3 a4 hk=>?_
     have kk:∀c o,c∉[n+4,n+2,n+3,n,n+1]->s.heap.get? c=some o->h'.get? c=some o:=fun c o hc e=>hk c o (fun z=>hc (by simp[z])) (fun z=>hc (by simp[z])) (fun z=>hc (by simp[z])) e
     have hS':=kk _ _ hS hs
     have zz:ZSt h' n a b S (i+1):=⟨.inr ⟨T,true,_,a1,q2,q3,kk _ _ q2 q4⟩,hk _ _ D.TIz D.TIi1 D.TIi2 z2,a2,a3⟩
     show wpAny _ A.in1 (updateSeq S (·.push (.ref s.heap.objs.size)) >>= _) _ _ _
     refine wpAny_bind (wpAny_updateSeq hS' rfl (wpAny_pure ⟨plainId_quiet F.plain_extend_loop _,fin h' a4 zz kk _ (Heap.get?_update_self _ hS' rfl)⟩) ?_ ?_)
     · show acc.size<=sizeLine;omega
     · show(acc.push _).size<=sizeLine+1;rw[Array.size_push];omega
theorem zWJ:typeLookup (.type "zip") "__len__"=pure none:=by rw[typeLookup_type,builtinLookup_eq_fast];kernel_rfl
theorem zXF:typeLookup (.type "zip") "__length_hint__"=pure none:=by rw[typeLookup_type,builtinLookup_eq_fast];kernel_rfl
theorem zXm {X:Cx}{pins:List (Addr×Obj)}{σ:St}{A:Around}{E:Value->Shared->Prop}{s:Shared}{Q:List Value->Shared->Prop}(hh:A.handled=none){n a b:Addr}{G0 H0:Hp}{ds es:List D}{us ws:List V}
   (ha:SqL X.K G0 a us) (ra:Reps X.K G0 ds us) (hb:SqL X.K G0 b ws) (rb:Reps X.K G0 es ws) (hlen:(tJ ds es).length<=1000) (I:Inv X pins σ H0 s) (hs:Same G0 H0) (hf:∀d∈[n+4,n+2,n+3,n,n+1],oV X pins H0 d)
   (z1:IsZip s.heap (n+4) (n+2) (n+3) .none) (z2:IsPair s.heap (n+2) (.ref n) (.ref (n+1))) (z3:IsPair s.heap (n+3) .none .none) (z4:s.heap.IsListIter n a 0) (z5:s.heap.IsListIter (n+1) b 0)
   (hQ:∀(s':Shared) (H' G':Hp) (acc:Array Value) (vs:List V),Inv X pins σ H' s'->Step G0 H0 G' H'->Reps X.K G' (tJ ds es) vs->Vals vs acc.toList->Q acc.toList s'):wpAny (model X.prog X.w) A (collect (.ref (n+4))) Q E s:=by
 have lt:∀d∈[n+4,n+2,n+3,n,n+1],d < s.heap.objs.size:=fun d hd=>by
   obtain⟨o4,e4,_⟩:=z4
   obtain⟨o5,e5,_⟩:=z5
   simp only[List.mem_cons,List.not_mem_nil,or_false] at hd
   rcases hd with q | q | q | q | q
   · rw[q];exact Heap.lt_size z1
   · rw[q];exact Heap.lt_size z2
   · rw[q];exact Heap.lt_size z3
   · rw[q];exact Heap.lt_size e4
   · rw[q];exact Heap.lt_size e5
 have hS:s.heap.objs.size∉[n+4,n+2,n+3,n,n+1]:=fun hm=>Nat.lt_irrefl _ (lt _ hm)
 have hSI:s.heap.objs.size≠n+4:=fun e=>hS (by rw[e];simp)
 have hT:∀h':Heap,IsZip h' (n+4) (n+2) (n+3) .none->Shared.TypeIs { s with heap:=h' } (.ref (n+4)) "zip":=fun h' q=>⟨_,q,rfl⟩
 unfold collect
 refine wpAny_bind (wpAny_runValue (codeAny_builtin F.entry_proto_collect ?_))
 rw[Around.under_plainId F.plain_proto_collect _]
 show wpAny _ A.in1 (newList [] >>= fun l=>again (.builtin "list.__iadd__" ⟨[l,.ref (n+4)],[]⟩)) _ _ s
 refine wpAny_bind (wpAny_newObj_type ?_)
 refine wpAny_pure ⟨plainId_quiet F.plain_list_iadd _,codeAny_builtin F.entry_list_iadd ?_⟩
 rw[Around.under_plainId F.plain_list_iadd _]
 show wpAny _ A.in1 (Builtin.List.listExtendWith (.ref s.heap.objs.size) (.ref (n+4)) (.ref s.heap.objs.size)) _ _ _
 have y1:IsZip (s.heap.push { cls:=.type "list",data:=.seq ([]:List Value).toArray }) (n+4) (n+2) (n+3) .none:=Heap.get?_push_of_some _ z1
 unfold Builtin.List.listExtendWith
 refine wpAny_bind (wpAny_typeOf (hT _ y1) ?_)
 have h1:Builtin.List.listSameRef (.ref s.heap.objs.size) (.ref (n+4))=false:=by simp[Builtin.List.listSameRef,hSI]
 have h2:(Value.type "zip"==Value.type "list")=false:=by decide
 have h3:(Value.type "zip"==Value.type "tuple")=false:=by decide
 simp only[h1,h2,h3,Bool.or_false,Bool.false_eq_true,if_false]
 refine wpAny_bind (wpAny_pyIter_zip y1 ?_)
 refine wpAny_bind (wpAny_holding ?_)
 unfold Builtin.List.listLengthHint
 refine wpAny_bind (wpAny_specialOf (hT _ y1) zWJ ?_)
 show wpAny _ A.in1 (specialOf (Value.ref (n+4)) (Str.ofString "__length_hint__") >>= _) _ _ _
 refine wpAny_bind (wpAny_specialOf (hT _ y1) zXF ?_)
 refine wpAny_pure ?_
 show wpAny _ A.in1 (rule "list.extend.makes-room" >>= fun _=>Builtin.List.listTouch (.ref s.heap.objs.size) >>= fun _ =>
   again (.builtin "list.extend.loop" ⟨[.ref s.heap.objs.size,.ref (n+4),.ref s.heap.objs.size],[]⟩)) _ _ _
 refine wpAny_bind (wpAny_rule ?_)
 have hS₁:(s.heap.push { cls:=.type "list",data:=.seq ([]:List Value).toArray }).get? s.heap.objs.size=some { cls:=.type "list",data:=.seq ([]:List Value).toArray }:=Heap.get?_push_size _ rfl
 refine wpAny_bind ?_
 show wpAny _ A.in1 (updateSeq s.heap.objs.size (·.push .none) >>= fun _=>updateSeq s.heap.objs.size (·.pop)) _ _ _
 refine wpAny_bind (wpAny_updateSeq hS₁ rfl ?_)
 have hS₂:=Heap.get?_update_self (Obj.mapSeq (·.push Value.none)) hS₁ rfl
 refine wpAny_updateSeq hS₂ rfl ?_
 have hS₃ := Heap.get?_update_self (Obj.mapSeq (·.pop)) hS₂ rfl
 have oth:∀b o,b≠s.heap.objs.size->s.heap.get? b=some o ->
     (((s.heap.push { cls:=.type "list",data:=.seq ([]:List Value).toArray }).update s.heap.objs.size (Obj.mapSeq (·.push Value.none))).update s.heap.objs.size (Obj.mapSeq (·.pop))).get? b=some o :=
   fun b o hb e=>(Heap.get?_update_other _ _ (Ne.symm hb)).trans ((Heap.get?_update_other _ _ (Ne.symm hb)).trans (Heap.get?_push_of_some _ e))
 have oth':∀b o,s.heap.get? b=some o->_:=fun b o e=>oth b o (Nat.ne_of_lt (Heap.lt_size e)) e
 have I3:Inv X pins σ H0 { s with heap:=((s.heap.push { cls:=.type "list",data:=.seq ([]:List Value).toArray }).update s.heap.objs.size (Obj.mapSeq (·.push Value.none))).update s.heap.objs.size (Obj.mapSeq (·.pop)) }:=I.kept (t':=s.toks) oth'
 refine wpAny_pure ⟨plainId_quiet F.plain_extend_loop _,zTR (S:=s.heap.objs.size) (A:=A) hh ha ra hb rb hS hlen _ 0 _ H0 G0 _ _ [] I3 (fun d hd=>?_) (Step.refl hs) (reps_nil.mpr rfl) ⟨.inl ⟨oth' _ _ z1,_,_,oth' _ _ z3⟩,oth' _ _ z2,z4.at fun o e=>oth' _ o e,z5.at fun o e=>oth' _ o e⟩ hS₃ .nil (Nat.zero_add _) fun s' H' G' acc' c' vs' J st rv hv hg=>?_⟩
 · rcases List.mem_cons.mp hd with q | q
   · rw[q];exact I.fpOk (Nat.le_refl _) (I.hok.fresh (Nat.le_refl _))
   · exact hf d q
 · show wpAny _ A (load s.heap.objs.size >>= _) _ _ s'
   refine wpAny_bind (wpAny_load hg ?_)
   exact wpAny_pure (hQ s' H' G' acc' vs' J st rv hv)
open AutoSeq1 (wpAny_loadPart') in
theorem zXt {X:Cx}{pins:List (Addr×Obj)}{σ:St}{A:Around}{E:Value->Shared->Prop}{s:Shared}{Q:Value->Shared->Prop}(hh:A.handled=none){n a b:Addr}{G0 H0:Hp}{ds es:List D}{us ws:List V}
   (ha:SqL X.K G0 a us) (ra:Reps X.K G0 ds us) (hb:SqL X.K G0 b ws) (rb:Reps X.K G0 es ws) (hlen:(tJ ds es).length<=1000) (I:Inv X pins σ H0 s) (hs:Same G0 H0) (hf:∀d∈[n+4,n+2,n+3,n,n+1],oV X pins H0 d)
   (z1:IsZip s.heap (n+4) (n+2) (n+3) .none) (z2:IsPair s.heap (n+2) (.ref n) (.ref (n+1))) (z3:IsPair s.heap (n+3) .none .none) (z4:s.heap.IsListIter n a 0) (z5:s.heap.IsListIter (n+1) b 0)
   (hQ:∀(s':Shared) (H' G':Hp) (acc:Array Value) (vs:List V),Inv X pins σ H' s'->Step G0 H0 G' H'->Reps X.K G' (tJ ds es) vs->Vals vs acc.toList->Q (.ref s'.heap.objs.size) { s' with heap:=s'.heap.push { cls:=.type "tuple",data:=.seq acc } }) :
   codeAny (model X.prog X.w) A (.call (.builtin "tuple.__new__") ⟨[.type "tuple",.ref (n+4)],[]⟩) (wants Q E) s:=by
 refine codeAny_of_tree ?_
 show wpAny _ A.in1 (do checkBuiltinCall "tuple.__new__" ⟨[.type "tuple",.ref (n+4)],[]⟩;again (.builtin "tuple.__new__" ⟨[.type "tuple",.ref (n+4)],[]⟩)) _ _ s
 refine wpAny_bind (wpAny_of_eq (F.newCall_tuple_1 _) (wpAny_pure ⟨plainId_quiet F.plain_tuple_new _,codeAny_builtin F.entry_tuple_new ?_⟩))
 rw[Around.under_plainId F.plain_tuple_new _]
 have hsub:=sub_tuple_self
 have hinit:=init_tuple_lookup
 have hmh:=madeHere_tuple
 have hTI:s.TypeIs (.ref (n+4)) "zip":=⟨_,z1,rfl⟩
 have hh1:A.in1.handled=none:=by simp[hh]
 wp_walk using wpAny_typeOf hTI,zXm (A:=A.in1) hh1 ha ra hb rb hlen I hs hf z1 z2 z3 z4 z5
 intro s' H' G' acc vs J st rv hv
 show wpAny _ _ (Builtin.Tuple.tupleExact acc.toList.toArray >>= fun v=>ret v) _ _ _
 unfold Builtin.Tuple.tupleExact
 have hsl:1001<=sizeLine:=Nat.le_of_lt (wD (by decide))
 have h1:=hv.length
 have h2:=rv.length
 have h3:acc.toList.length=acc.size:=Array.length_toList
 refine wpAny_bind (wpAny_newObj_type ?_ (by show acc.toList.toArray.size<=sizeLine;simp only[Array.toArray_toList];omega))
 refine wpAny_pure ?_
 have e:acc.toList.toArray=acc:=by simp
 rw[e]
 exact hQ s' H' G' acc vs J st rv hv
theorem zXX {X:Cx}{pins:List (Addr×Obj)}{σ:St}{A:Around}{E:Value->Shared->Prop}{s:Shared}{Q:Value->Shared->Prop}(hh:A.handled=none){n a b:Addr}{G0 H0:Hp}{ds es:List D}{us ws:List V}
   (ha:SqL X.K G0 a us) (ra:Reps X.K G0 ds us) (hb:SqL X.K G0 b ws) (rb:Reps X.K G0 es ws) (hlen:(tJ ds es).length<=1000) (I:Inv X pins σ H0 s) (hs:Same G0 H0) (hf:∀d∈[n+4,n+2,n+3,n,n+1],oV X pins H0 d)
   (z1:IsZip s.heap (n+4) (n+2) (n+3) .none) (z2:IsPair s.heap (n+2) (.ref n) (.ref (n+1))) (z3:IsPair s.heap (n+3) .none .none) (z4:s.heap.IsListIter n a 0) (z5:s.heap.IsListIter (n+1) b 0)
   (hQ:∀(s':Shared) (H' G':Hp) (acc:Array Value) (vs:List V),Inv X pins σ H' s'->Step G0 H0 G' H'->Reps X.K G' (tJ ds es) vs->Vals vs acc.toList->Q (.ref s'.heap.objs.size) { s' with heap:=s'.heap.push { cls:=.type "tuple",data:=.seq acc } }) :
   wpAny (model X.prog X.w) A (call (.type "tuple") [.ref (n+4)]) Q E s:=by
 refine callType_codes (Q₁:=fun obj s₁=>s₁.TypeIs obj "tuple"/\Q obj s₁) F.called_tuple (F.typeCall_tuple_1 _) F.entry_object_init
   (zXt (by simp[hh]) ha ra hb rb hlen I hs hf z1 z2 z3 z4 z5 fun s' H' G' acc vs J st rv hv=>⟨⟨_,Heap.get?_push_size _ rfl,rfl⟩,hQ s' H' G' acc vs J st rv hv⟩) fun obj s₁ h₁=>?_
 exact⟨h₁.1,F.args_object_init_2 obj _,object_init_meets F.called_tuple.init.lookup F.called_tuple.made (by decide) X.prog X.w A.in1 _ s₁ ⟨h₁.1,rfl,h₁.2⟩⟩
section
variable {X:Cx} {a b c e tg elt iter:Expr} {es ifs:List Expr} {fa fb fc:Ef} {ga gb gi:Lf} {ta tc:Tf} {pos p p2:Pos} {st:Stmt}
def zZd (f g:Ef):Ef:=fun ρ=>(f ρ).bind fun x=>(g ρ).bind fun y=>match x,y with | .lst xs,.lst ys=>if (tJ xs ys).length<=1000 then some (.tup (tJ xs ys)) else none | _,_=>none
theorem zVa {pos':Pos}(hc:X.calm=true)(hg:Gl X "tuple")(hm:X.mg "tuple"=none)(hg':Gl X "zip")(hm':X.mg "zip"=none)(ha:PF X a fa)(hb:PF X b fb)(hs:starEach [a,b] X.env=[(false,eval a X.env),(false,eval b X.env)]:=by rfl)(hs2:starEach [b] X.env=[(false,eval b X.env)]:=by rfl)
   (hs3:starEach [Expr.Call (.Name "zip" p2) [a,b] [] pos'] X.env=[(false,eval (.Call (.Name "zip" p2) [a,b] [] pos') X.env)]:=by rfl) :
   PF X (.Call (.Name "tuple" p) [.Call (.Name "zip" p2) [a,b] [] pos'] [] pos) (zZd fa fb):=by
 intro pins s σ H Q I q
 obtain⟨G0,H0,G,ρ,d,good,hf,kk⟩:=q
 unfold zZd at hf
 obtain⟨x,h1,hf⟩:=Option.bind_eq_some_iff.mp hf
 obtain⟨y,h2,hf⟩:=Option.bind_eq_some_iff.mp hf
 cases x with
 | lst xs =>
   cases y with
   | lst ys =>
     dsimp only at hf
     split at hf
     · rename_i hz
       cases hf
       have hA:=yW ha (yW hb yI (by rw[hs2];rfl)) (by rw[hs,hs2]) pos' pins s σ H (fun vs H'=>∃a b us ws G',vs=[.ref a,.ref b]/\Step G H G' H'/\SqL X.K G' a us/\Reps X.K G' xs us/\SqL X.K G' b ws/\Reps X.K G' ys ws) I
         ⟨G0,H0,G,ρ,_,good,h1,fun v H1 G1 s1 r1=>⟨G0,H0,G1,ρ,_,good.step s1,h2,fun u H2 G2 s2 r2=>by
           obtain⟨a,us,rfl,q1,q2⟩:=rep_lst.mp (r1.mono s2.gg)
           obtain⟨b,ws,rfl,q3,q4⟩:=rep_lst.mp r2
           exact⟨a,b,us,ws,G2,rfl,s1.trans s2,q1,q2,q3,q4⟩⟩⟩
       refine Call_ (qY I hg hm (by rfl) (PyProof.Rows.callWith_type1 (rest:=[]) ?_ (by rw[hs3];rfl) (by rfl)))
       rw[hs3]
       refine Calls.spliced_cons (Call_ (qY I hg' hm' (by rfl) (PyProof.Rows.callWith_type1 (thn hA fun us s1 ⟨vs,H1,I1,r1,l1,l2,ws,zs,G1,e1,st1,q1,q2,q3,q4⟩=>?_) (by rw[hs,hs2]) (by rw[hs2];rfl))))
       subst e1
       obtain⟨u,u',rfl,ru,ru'⟩:=zSx r1
       cases ru
       cases ru'
       obtain⟨its,rv,p1,_⟩:=I1.list (st1.sub.seq q1)
       obtain⟨jts,rv',p2,_⟩:=I1.list (st1.sub.seq q3)
       refine call_zip_2 p1.isList p2.isList fun h' z1 z2 z3 z4 z5 _ hk=>?_
       have I2:Inv X pins σ H1 { s1 with heap:=h' }:=I1.kept (t':=s1.toks) hk
       refine Calls.spliced_nil ?_
       refine zXX (I.ok.hd hc) q1 q2 q3 q4 hz I2 st1.sub (fun d hd=>?_) z1 z2 z3 z4 z5 fun s' H' G' acc vs J st rv hv=>?_
       · have hb':s1.heap.objs.size<=d:=by
           simp only[List.mem_cons,List.not_mem_nil,or_false] at hd
           rcases hd with z | z | z | z | z<;>(rw[z];first | exact Nat.le_refl _ | exact Nat.le_add_right _ _)
         exact I1.fpOk hb' (I1.hok.fresh hb')
       · have hl:=rv.length
         have hsl:1001<=sizeLine:=Nat.le_of_lt (wD (by decide))
         have I3:Inv X pins σ (upd H' s'.heap.objs.size (.tup vs)) { s' with heap:=s'.heap.push { cls:=.type "tuple",data:=.seq acc } } :=
           J.laid (t':=s'.toks) (fun b o e=>Heap.get?_push_of_some _ e) (Nat.le_refl _) (show ObjOk X.prog X.w _ _ _ (.tup vs) from⟨by omega,acc.toList,hv,by have:=IsTup.new s'.heap acc;simpa using this⟩)
         have fr:H' s'.heap.objs.size=none:=J.hok.fresh (Nat.le_refl _)
         have s4:=Step.laid (o:=.tup vs) st.sub fr
         exact⟨.ref s'.heap.objs.size,_,I3,rfl,kk _ _ _ ((st1.trans st).trans s4) (rep_tup.mpr ⟨_,_,rfl,.of zD,rv.mono s4.gg⟩)⟩
     · cases hf
   | _=>cases hf
 | _=>cases hf
def zXz (x:Str)(l:Int):Str:=⟨((Builtin.Str.strSliceIndices (some l) none 2 x.length).filterMap (x.cps[·]?)).toArray⟩
def zZ1 (f fl fs:Ef):Ef:=fun ρ=>(f ρ).bind fun d=>(mH fl ρ).bind fun l=>(mH fs ρ).bind fun k=>match d,l,k with | .str x,some i,some j=>if j=2/\(zXz x i).length<=lim then some (.str (zXz x i)) else none | _,_,_=>none
theorem zXZ {lo st:Expr}{fl fs:Ef}(ha:PF X a fa)(hl:PF X lo fl)(hst:PF X st fs):PF X (.Subscript a (.Slice (some lo) none (some st) p2) pos) (zZ1 fa fl fs):=by
 intro pins s σ H Q I q
 obtain⟨G0,H0,G,ρ,d,good,hf,kk⟩:=q
 unfold zZ1 at hf
 obtain⟨x,h1,hf⟩:=Option.bind_eq_some_iff.mp hf
 obtain⟨l,h2,hf⟩:=Option.bind_eq_some_iff.mp hf
 obtain⟨k,h3,hf⟩:=Option.bind_eq_some_iff.mp hf
 cases x with
 | str z=>cases l with
  | none=>cases hf
  | some i=>cases k with
   | none=>cases hf
   | some j =>
    dsimp only at hf
    split at hf
    · rename_i hj
      obtain⟨rfl,hz⟩:=hj
      cases hf
      refine Subscript_ (thn (ha pins s σ H (fun v H1=>∃G1,Step G H G1 H1/\v = .str z) I ⟨G0,H0,G,ρ,_,good,h1,fun v H1 G1 s1 r1=>⟨G1,s1,rep_str.mp r1⟩⟩) fun v s1 ⟨x,H1,I1,r1,G1,st1,e1⟩=>?_)
      subst e1
      obtain⟨t,rfl⟩:=r1
      refine wpAny_Slice (thn (zV7 hl pins s1 σ H1 (fun o H2=>∃G2,Step G H G2 H2/\o=some i) I1 ⟨G0,H0,G1,ρ,_,good.step st1,h2,fun H2 G2 s2=>⟨G2,st1.trans s2,rfl⟩⟩) fun vl s2 ⟨l',H2,I2,pl,G2,st2,e2⟩=>?_)
      subst e2
      rw[evalPart_none]
      refine wpAny_pure (thn (zV7 hst pins s2 σ H2 (fun o H3=>∃G3,Step G H G3 H3/\o=some 2) I2 ⟨G0,H0,G2,ρ,_,good.step st2,h3,fun H3 G3 s3=>⟨G3,st2.trans s3,rfl⟩⟩) fun vk s3 ⟨k',H3,I3,pk,G3,st3,e3⟩=>?_)
      subst e3
      cases pl with
      | int _ ti =>
        cases pk with
        | int _ tk =>
          have I4:Inv X pins σ H3 { s3 with heap:=s3.heap.push { cls:=.type "slice",data:=.fields #[.int i ti,.none,.int 2 tk] } }:=I3.kept (t':=s3.toks) fun b ob q=>Heap.get?_push_of_some _ q
          have fin:∀t' k,EP X pins σ Q (.str (zXz z i) t') { ({ s3 with heap:=s3.heap.push { cls:=.type "slice",data:=.fields #[.int i ti,.none,.int 2 tk] } }:Shared) with toks:=k }:=fun t' k=>⟨.str (zXz z i),H3,I4.tok k,⟨t',rfl⟩,kk _ _ _ st3 (rep_str.mpr rfl)⟩
          show wpAny (model X.prog X.w) X.A (subscriptTail a (.Slice (some lo) none (some st) p2) (.str z t) (.ref s3.heap.objs.size)) (EP X pins σ Q) X.xe _
          refine tail_any (ops:=[.ref s3.heap.objs.size,.str z t]) (T:="str") (typeIs_str _ z t) F.slot_str_getitem.lookup ?_ (by with_unfolding_all rfl)
          exact wpAny_getItem_str_slice (l:=some (i,ti)) (u:=none) (st:=some (2,tk)) ⟨_,Heap.get?_push_size _ rfl,rfl,rfl⟩ rfl (show((Made.str (zXz z i)).post _ _) from⟨Nat.le_of_lt (wD hz),fin _ _⟩)
    · cases hf
 | _=>cases hf
end
end L2
namespace L2
open PySem PySem.Spec PyProof.Rows
section
variable {X:Cx}
end
open PySem.W
section
variable {prog:Program} {w:World} {A:Around} {E:Value->Shared->Prop} {h:Heap} {g:Array GenState} {d:Drawn} {t:Nat} {os:OsState} {a C:Addr} {o:Obj} {K:Frag}
end
end L2
namespace L2
open PySem PySem.Spec PySem.W
section
variable {prog:Program} {w:World} {A:Around} {E:Value->Shared->Prop} {h:Heap} {g:Array GenState} {d:Drawn} {t:Nat} {os:OsState} {K:Frag}
variable {nm q:Str} {C N:Addr} {bs bm:List Value} {hdct:Bool} {sn:List Str} {sub:List Value} {ab:Bool} {col:Option Bool} {dd:Option Addr} {k0 k1 k2 k3 k5:Option Value}
end
end L2
namespace L2
open PySem PySem.Spec PySem.W
open Builtin Builtin.ObjectAttr
def zXE:List Value->Bool
 | []=>false
 | v::r=>(v::r)==[.type "ValueError",.type "Exception",.type "BaseException",.type "object"]||match v with | .ref _=>zXE r | _=>false
section
variable {prog:Program} {w:World} {A:Around} {E:Value->Shared->Prop} {h:Heap} {g:Array GenState} {d:Drawn} {t:Nat} {os:OsState} {K:Frag}
variable {nm q:Str} {C N x:Addr} {bs bm:List Value} {sn:List Str} {sub:List Value} {ab:Bool} {col:Option Bool} {dd:Option Addr} {k0 k1 k2 k3 k5:Option Value} {newId:String} {name:Str} {v:Value} {o:Obj}
end
section
variable {prog:Program} {w:World} {A:Around} {E:Value->Shared->Prop} {h:Heap} {g:Array GenState} {d:Drawn} {t:Nat} {os:OsState} {K:Frag} {a C dx:Addr} {o:Obj} {name:Str} {v:Value} {mA:Str->Option Value}
variable {nm q:Str} {N:Addr} {bs bm:List Value} {sn:List Str} {sub:List Value} {ab:Bool} {col:Option Bool} {dd:Option Addr} {k0 k1 k2 k3 k5:Option Value} {newId:String}
end
end L2
namespace L2
open PySem PySem.Spec PyProof.Rows
structure XKit (K:PySem.W.Frag)(C:Addr):Prop where
 cl:(PySem.W.clsIn K C).isSome=true
 ga:PySem.W.findIn K (.ref C) "__getattribute__"=some (some (.builtin "BaseException.__getattribute__"))
 gt:PySem.W.findIn K (.ref C) "__getattr__"=some none
 gc:PySem.W.findIn K (.ref C) "__class__"=some (some (.builtin "object.__class__"))
 so:PySem.W.subIn K (.ref C) (.type "object")=some true
 sb:PySem.W.subIn K (.ref C) (.type "BaseException")=some true
def zOQ (K:PySem.W.Frag)(C:Addr):Prop:=∃nm q N bs bm sn sub ab col dd k0 k1 k2 k3 k5,K.lookup C=some (excClassObj nm q C N bs bm true sn sub ab col dd k0 k1 k2 k3 k5 "ValueError.__new__")/\zXE bm=true
section
variable {X:Cx} {a b c e tg elt iter:Expr} {es ifs:List Expr} {fa fb fc:Ef} {ga gb gi:Lf} {ta tc:Tf} {pos p:Pos} {st:Stmt}
structure XSt (K:PySem.W.Frag)(C:Addr):Prop where
 kit:XKit K C
 ob:zOQ K C
 sa:PySem.W.findIn K (.ref C) "__setattr__"=some (some (.builtin "object.__setattr__"))
end
section
variable {P:Program} {w:World} {K:PySem.W.Frag} {mg:Str->Option Value} {base:Heap} {x qual:Str} {st:Stmt} {f C:Addr} {fd:FuncData} {N ps ns:List Str} {k:Nat} {sf:Str}
end
structure XMk (K:PySem.W.Frag)(C f:Addr):Prop where
 ob:zOQ K C
 init:PySem.W.findIn K (.ref C) "__init__"=some (some (.ref f))
 fn:PySem.W.isFn K (.ref f)=true
 kp:PySem.W.keepIn K (.ref C)=true
section
variable {X:Cx} {a b c e tg elt iter:Expr} {es ifs:List Expr} {fa fb fc:Ef} {ga gb gi:Lf} {ta tc:Tf} {pos p:Pos} {st:Stmt}
end
end L2
namespace L2
open PySem PySem.Spec PyProof.Rows
section
variable {X:Cx} {pos p:Pos}
end
end L2
namespace L2
open PySem PySem.Spec PyProof.Rows
def zPQ (h:Heap)(e:Addr)(v:Value):Prop:=v = .none∨∃T oT ts,v = .ref T/\T≠e/\h.get? T=some oT/\oT.data = .fields ts/\ts[3]?=some .none
structure Flew (fs:List Addr)(e:Addr)(c:Value)(od:Option Addr)(vs:Array Value)(sl:Array (Option Value))(h h':Heap):Prop where
 obj:h'.get? e=some { cls:=c,dict:=od,data:=.fields (vs.setIfInBounds 1 (.ref h.objs.size)),slots:=sl }
 ne:h.objs.size≠e
 head:∃oT ts,h'.get? h.objs.size=some oT/\oT.data = .fields ts/\ts[3]?=some .none
 keep:∀b o,h.get? b=some o->b≠e->b∉fs->some (Value.ref b)≠vs[1]?->h'.get? b=some o
 slot:∀b o,h.get? b=some o->b≠e->b∈fs->some (Value.ref b)≠vs[1]?->∃z,h'.get? b=some { o with slots:=z }
section
variable {M:Model} {A:Around} {E:Value->Shared->Prop} {s:Shared}
end
structure Fly (h:Heap)(H:Hp)(h0:Heap)(C a:Addr):Prop where
 ob:∃vs v,h.get? a=some { cls:=.ref C,dict:=none,data:=.fields vs,slots:=#[] }/\vs[1]?=some v/\zPQ h a v/\∀T,v = .ref T->H T=none/\h0.get? T=none
 free:H a=none
 new:h0.get? a=none
section
variable {P:Program} {w:World} {K:PySem.W.Frag} {mg:Str->Option Value} {base:Heap} {N:List Str} {qual:Str} {scope:Scope} {f:Addr} {cd:Value} {A:Around} {outer:List Env} {s₀ s:Shared} {H₀ H:Hp} {E:XK} {pins:List (Addr×Obj)} {σ:St} {C a:Addr}
end
section
variable {X:Cx} {E:XK} {C:Addr} {c:Str} {p cpos pos:Pos} {e:Expr} {es:List Expr} {t:TA}
end
end L2
namespace L2
open PySem PySem.Spec PyProof.Rows
section
variable {M:Model} {A:Around} {E:Value->Shared->Prop} {s:Shared}
end
section
variable {X:Cx} {pins:List (Addr×Obj)} {σ:St} {H:Hp} {s:Shared}
end
section
variable {X:Cx} {pins:List (Addr×Obj)} {σ:St}
end
end L2
namespace L2
open PySem PySem.Spec PyProof.Rows
section
variable {X:Cx} {E:XK} {a b e:Expr} {es:List Expr} {ga:Lf} {tt:Tf} {f:Sf} {x xa xb:List B->Option Str} {pos p cpos:Pos} {st:Stmt} {sts rest:List Stmt}
end
section
variable {P:Program} {w:World} {K:PySem.W.Frag} {mg:Str->Option Value} {base:Heap} {x qual:Str} {st:Stmt} {f:Addr} {fd:FuncData} {N ps:List Str} {k:Nat}
end
section
variable {X:Cx} {a b e:Expr} {es:List Expr} {ga:Lf} {tt:Tf} {xa xb:List B->Option Str} {pos p cpos:Pos} {st st':Stmt}
end
end L2
namespace L2
open PySem PySem.Spec PyProof.Rows
section
variable {prog:Program} {w:World} {A:Around} {E:Value->Shared->Prop} {s:Shared}
structure Z3 (z TI TO i1 i2 i3 l1 l2 l3:Addr):Prop where
 TIz:TI≠z
 TOz:TO≠z
 i1z:i1≠z
 i2z:i2≠z
 i3z:i3≠z
 TITO:TI≠TO
 TIi1:TI≠i1
 TIi2:TI≠i2
 TIi3:TI≠i3
 TOi1:TO≠i1
 TOi2:TO≠i2
 TOi3:TO≠i3
 i12:i1≠i2
 i13:i1≠i3
 i23:i2≠i3
 a1:l1≠z
 a2:l1≠TO
 a3:l1≠i1
 a4:l1≠i2
 a5:l1≠i3
 b1:l2≠z
 b2:l2≠TO
 b3:l2≠i1
 b4:l2≠i2
 b5:l2≠i3
 c1:l3≠z
 c2:l3≠TO
 c3:l3≠i1
 c4:l3≠i2
 c5:l3≠i3
end
section
variable {prog:Program} {w:World} {A:Around} {E:Value->Shared->Prop} {s:Shared}
end
section
variable {X:Cx} {a b c e tg elt iter:Expr} {fa fb fc:Ef} {ga:Lf} {pos p:Pos}
end
end L2
namespace L2
open PySem PySem.Spec PyProof.Rows
section
variable {X:Cx} {a b c e:Expr} {es:List Expr} {fa fb fc:Ef} {ga gb:Lf} {pos p:Pos}
theorem zZx:∀ {ns:List Int} {its:List Value},Vals (ns.map V.int) its->∃ps:List (Int×Tok),its=ps.map (fun p=>Value.int p.1 p.2)/\ps.map (·.1)=ns
 | [],_,h=>by cases h;exact⟨[],rfl,rfl⟩
 | n::ns,_,h=>by
   cases h with
   | cons h1 h2 =>
     obtain⟨t,rfl⟩:=h1
     obtain⟨ps,rfl,rfl⟩:=zZx h2
     exact⟨(n,t)::ps,rfl,rfl⟩
end
section
variable {prog:Program} {w:World} {A:Around} {E:Value->Shared->Prop} {s:Shared}
end
section
variable {X:Cx} {a b c e:Expr} {es:List Expr} {fa fb fc:Ef} {ga gb:Lf} {pos p:Pos}
end
end L2
namespace L2
open PySem PySem.Spec PyProof.Rows
section
variable {prog:Program} {w:World} {A:Around} {E:Value->Shared->Prop} {s:Shared}
theorem zXb:typeLookup (.type "list_reverseiterator") "__len__"=pure none:=by rw[typeLookup_type,builtinLookup_eq_fast];kernel_rfl
theorem zTO:typeLookup (.type "list_reverseiterator") "__length_hint__"=pure (some (.builtin "list_reverseiterator.__length_hint__")):=by rw[typeLookup_type,builtinLookup_eq_fast];kernel_rfl
theorem zTz {it l:Addr}{i:Int}{Q:Bool->Shared->Prop}(hit:s.heap.IsRevIter it l i)(h:Q false s):wpAny (model prog w) A (Builtin.List.listLengthHint (.ref it)) Q E s:=by
 unfold Builtin.List.listLengthHint
 refine wpAny_bind (wpAny_specialOf hit.typeIs zXb ?_)
 refine wpAny_ite_split (fun hab=>absurd hab (by decide)) (fun _=>?_)
 refine wpAny_ite_split (fun hab=>absurd hab (by decide)) (fun _=>?_)
 refine wpAny_bind (wpAny_specialOf hit.typeIs zTO ?_)
 generalize hid:("list_reverseiterator.__length_hint__":String)=id0
 wp_delta
 rw[show splitId id0=some ("list_reverseiterator","__length_hint__") from by subst hid;decide +kernel]
 subst hid
 refine wpAny_bind (wpAny_isInstance (T:="list_reverseiterator") (b:=true) hit.typeIs (by rw[isSubtype_type];kernel_rfl) ?_)
 refine wpAny_ite_split (fun hab=>absurd hab (by decide)) (fun _=>?_)
 refine wpAny_ite_split (fun _=>?_) (fun hab=>absurd (by decide +kernel) hab)
 refine wpAny_ite_split (fun hab=>absurd hab (by decide +kernel)) (fun _=>?_)
 exact wpAny_pure h
theorem zWH {R:Result->Shared->Prop}{it l S:Addr}{items:Array Value}{res:Value}{c₀:Nat}(hh:A.handled=none)(hit:s.heap.IsRevIter it l ((items.size:Int) - 1))(hl:s.heap.IsList l items)(hli:l≠it)(hSi:S≠it)(hSl:S≠l)(hlen:items.size<=sizeLine)
   (hS:s.heap.get? S=some { cls:=.type "list",data:=.seq #[] c₀ })
   (hR:∀h' tk acc' c',(∀b o,b≠S->b≠it->s.heap.get? b=some o->h'.get? b=some o)->h'.get? S=some { cls:=.type "list",dict:=none,data:=.seq acc' c',slots:=#[] } ->
     ItemsOf (fun i v=>items[items.size - 1 - i]?=some v) acc' items.size->R (.ok (.ret res)) { s with heap:=h',toks:=tk }) :
   wpAny (model prog w) A.in1 (Builtin.List.listExtendWith (.ref S) (.ref it) res)
     (fun fin s'=>match fin with | .done f=>R (.ok f) s' | .again c'=>c'.quiet=true/\codeAny (model prog w) A c' R s') (fun e s'=>R (.error e) s') s:=by
 have hSf:S∉[it,l]:=fun hm=>by
   rcases List.mem_cons.mp hm with e | hm
   · exact hSi e
   · exact hSl (List.mem_singleton.mp hm)
 have W:=(Walks.listRev (prog:=prog) (w:=w) (A:=A.in1) hh it l hli items).toS
 unfold Builtin.List.listExtendWith
 refine wpAny_bind (wpAny_typeOf hit.typeIs ?_)
 have h1:Builtin.List.listSameRef (.ref S) (.ref it)=false:=by simp[Builtin.List.listSameRef,hSi]
 have h2:(Value.type "list_reverseiterator"==Value.type "list")=false:=by decide
 have h3:(Value.type "list_reverseiterator"==Value.type "tuple")=false:=by decide
 simp only[h1,h2,h3,Bool.or_false,Bool.false_eq_true,if_false]
 refine wpAny_bind (wpAny_pyIter_revIter hit ?_)
 refine wpAny_bind (wpAny_holding (zTz hit ?_))
 refine wpAny_ite_split (fun hab=>absurd hab (by decide +kernel)) (fun _=>wpAny_pure ⟨plainId_quiet F.plain_extend_loop _,?_⟩)
 refine codeAny_extend_loopS W hlen S hSf res items.size 0 _ #[] c₀ rfl (Nat.zero_le _) ⟨Nat.zero_le _,by simpa using hit,hl⟩ hS (ItemsOf.nil _) fun s' acc' c' hm hS' hacc=>?_
 rw[Moved.eq_with hm]
 refine hR s'.heap s'.toks acc' c' (fun b o hb hb' e=>hm.heap b o (fun hmem=>?_) e) hS' hacc
 rcases List.mem_cons.mp hmem with e' | hmem
 · exact hb e'
 · exact hb' (List.mem_singleton.mp hmem)
theorem aV {R:Result->Shared->Prop}{it l S:Addr}{items:Array Value}(hh:A.handled=none)(hit:s.heap.IsRevIter it l ((items.size:Int) - 1))(hl:s.heap.IsList l items)(hli:l≠it)(hSi:S≠it)(hSl:S≠l)(hlen:items.size<=sizeLine)
   (hS:s.heap.get? S=some { cls:=.type "list",data:=.seq #[] })
   (hR:∀h' tk acc' c',(∀b o,b≠S->b≠it->s.heap.get? b=some o->h'.get? b=some o)->h'.get? S=some { cls:=.type "list",dict:=none,data:=.seq acc' c',slots:=#[] } ->
     ItemsOf (fun i v=>items[items.size - 1 - i]?=some v) acc' items.size->R (.ok (.ret .none)) { s with heap:=h',toks:=tk }) :
   wpAny (model prog w) A.in1 (Builtin.«list.__init__» ⟨[.ref S,.ref it],[]⟩)
     (fun fin s'=>match fin with | .done f=>R (.ok f) s' | .again c'=>c'.quiet=true/\codeAny (model prog w) A c' R s') (fun e s'=>R (.error e) s') s:=by
 show wpAny _ _ (do let old ←Builtin.List.listItems (.ref S);Builtin.List.listUpdate (.ref S) (fun _=>#[]);letGo old.toList.reverse;Builtin.List.listExtendWith (.ref S) (.ref it) .none) _ _ s
 refine wpAny_bind ?_
 unfold Builtin.List.listItems
 refine wpAny_bind (wpAny_seqItems hS rfl (wpAny_pure ?_))
 show wpAny _ _ (updateSeq S (fun _=>#[]) >>= fun _=>letGo (#[]:Array Value).toList.reverse >>= fun _=>Builtin.List.listExtendWith (.ref S) (.ref it) .none) _ _ s
 refine wpAny_bind (wpAny_updateSeq hS rfl ?_)
 have hS₂:=Heap.get?_update_self (Obj.mapSeq (fun _=>(#[]:Array Value))) hS rfl
 have oth:∀b o,b≠S->s.heap.get? b=some o->(s.heap.update S (Obj.mapSeq (fun _=>(#[]:Array Value)))).get? b=some o :=
   fun b o hb e=>(Heap.get?_update_other _ _ (Ne.symm hb)).trans e
 refine wpAny_bind (wpAny_letGo ?_)
 refine zWH hh (hit.at fun o e=>oth _ _ (Ne.symm hSi) e) (hl.at fun o e=>oth _ _ (Ne.symm hSl) e) hli hSi hSl hlen hS₂ fun h' tk acc' c' hk hS' hacc=>?_
 exact hR h' tk acc' c' (fun b o hb hb' e=>hk b o hb hb' (oth b o hb e)) hS' hacc
theorem aU {Q:Value->Shared->Prop}{it l:Addr}{items:Array Value}(hh:A.handled=none)(hit:s.heap.IsRevIter it l ((items.size:Int) - 1))(hl:s.heap.IsList l items)(hli:l≠it)(hlen:items.size<=sizeLine)
   (hQ:∀h' tk acc' c',(∀b o,b≠it->s.heap.get? b=some o->h'.get? b=some o) ->
     h'.get? s.heap.objs.size=some { cls:=.type "list",dict:=none,data:=.seq acc' c',slots:=#[] }->ItemsOf (fun i v=>items[items.size - 1 - i]?=some v) acc' items.size->Q (.ref s.heap.objs.size) { s with heap:=h',toks:=tk }) :
   wpAny (model prog w) A (call (.type "list") [.ref it]) Q E s:=by
 refine callType_codes (Q₁:=fun obj s₁=>obj = .ref s.heap.objs.size/\s₁={ s with heap:=s.heap.push { cls:=.type "list",data:=.seq #[] } }) F.called_list (F.typeCall_list_1 _) F.entry_list_init
   (code_list_new _ ⟨rfl,rfl⟩) fun obj s₁ h₁=>?_
 obtain⟨rfl,rfl⟩:=h₁
 have hS:(s.heap.push { cls:=.type "list",data:=.seq #[] }).get? s.heap.objs.size=some { cls:=.type "list",data:=.seq #[] }:=Heap.get?_push_size _ rfl
 have n1:s.heap.objs.size≠it:=fun z=>by obtain⟨o,e,_⟩:=hit;exact absurd (Heap.lt_size e) (by rw[z];exact Nat.lt_irrefl _)
 have n2:s.heap.objs.size≠l:=fun z=>by obtain⟨o,e,_⟩:=hl;exact absurd (Heap.lt_size e) (by rw[z];exact Nat.lt_irrefl _)
 refine⟨⟨_,hS,rfl⟩,F.args_list_init_2 _ _,aV (A:=A.in1) hh (hit.at fun o e=>Heap.get?_push_of_some _ e) (hl.at fun o e=>Heap.get?_push_of_some _ e) hli n1 n2 hlen hS fun h' tk acc' c' hk hS' hacc=>?_⟩
 exact⟨rfl,hQ h' tk acc' c' (fun b o hb e=>hk b o (Nat.ne_of_lt (Heap.lt_size e)) hb (Heap.get?_push_of_some _ e)) hS' hacc⟩
end
theorem zUu {its acc:List Value}(h:ItemsOf (fun i v=>its.toArray[its.toArray.size - 1 - i]?=some v) acc.toArray its.toArray.size):acc=its.reverse:=by
 obtain⟨h1,h2⟩:=h
 simp only[List.size_toArray] at h1 h2
 refine List.ext_getElem (by rw[h1,List.length_reverse]) fun i hi hi'=>?_
 have q:=h2 i acc[i] (by simp[hi])
 rw[List.getElem_reverse]
 simp only[List.getElem?_toArray] at q
 rw[List.getElem?_eq_getElem (by omega)] at q
 exact(Option.some.inj q).symm
theorem Reps.reverse {K:PySem.W.Frag}{G:Hp}:∀ {ds:List D} {vs:List V},Reps K G ds vs->Reps K G ds.reverse vs.reverse
 | [],_,h=>by rw[reps_nil] at h;subst h;exact reps_nil.mpr rfl
 | d::r,_,h=>by
   obtain⟨v,vr,rfl,h1,h2⟩:=reps_cons.mp h
   rw[List.reverse_cons,List.reverse_cons]
   exact h2.reverse.snoc h1
section
variable {X:Cx} {a b c e tg elt iter:Expr} {es:List Expr} {fa fb fc:Ef} {ga gb:Lf} {pos p:Pos}
def zY4 (g:Lf):Lf:=fun ρ=>(g ρ).map List.reverse
theorem zWF {p2 pos':Pos}(hc:X.calm=true)(hg:Gl X "list")(hm:X.mg "list"=none)(hg':Gl X "reversed")(hm':X.mg "reversed"=none)(h:zXh X a ga)(hs:starEach [a] X.env=[(false,eval a X.env)]:=by rfl)
   (hs3:starEach [Expr.Call (.Name "reversed" p2) [a] [] pos'] X.env=[(false,eval (.Call (.Name "reversed" p2) [a] [] pos') X.env)]:=by rfl) :
   PFr X (.Call (.Name "list" p) [.Call (.Name "reversed" p2) [a] [] pos'] [] pos) (zY4 ga):=by
 intro pins s σ H Q I q
 obtain⟨G0,H0,G,ρ,es,good,hf,kk⟩:=q
 unfold zY4 at hf
 obtain⟨ds,h1,rfl⟩:=Option.map_eq_some_iff.mp hf
 have hA:=yW h yI (by rw[hs];rfl) pos' pins s σ H (fun vs H'=>∃l us G',vs=[.ref l]/\Step G H G' H'/\SqL X.K G' l us/\Reps X.K G' ds us) I
   ⟨G0,H0,G,ρ,_,good,h1,fun l us H1 G1 s1 q1 q2=>⟨l,us,G1,rfl,s1,q1,q2⟩⟩
 refine Call_ (qY I hg hm (by rfl) (PyProof.Rows.callWith_type1 (rest:=[]) ?_ (by rw[hs3];rfl) (by rfl)))
 rw[hs3]
 refine Calls.spliced_cons (Call_ (qY I hg' hm' (by rfl) (PyProof.Rows.callWith_type1 (thn hA fun us s1 ⟨vs,H1,I1,r1,l,ws,G1,e1,st1,q1,q2⟩=>?_) (by rw[hs];rfl) (by rfl))))
 subst e1
 obtain⟨u,rfl,ru⟩:=pZ r1
 cases ru
 obtain⟨its,rv,p1,hz⟩:=I1.list (st1.sub.seq q1)
 have hll:l < s1.heap.objs.size:=by obtain⟨o,e,_⟩:=p1.isList;exact Heap.lt_size e
 refine call_reversed_list p1.isList ?_
 refine Calls.spliced_nil ?_
 have hrev:(s1.heap.push (revObj l ((its.toArray.size:Int) - 1))).IsRevIter s1.heap.objs.size l ((its.toArray.size:Int) - 1):=⟨_,Heap.get?_push_size _ rfl,rfl,rfl⟩
 refine aU (I.ok.hd hc) hrev (p1.isList.at fun o e=>Heap.get?_push_of_some _ e) (Nat.ne_of_lt hll) (by rw[List.size_toArray];exact rv.length ▸ hz) fun h' tk acc c' hk hS hacc=>?_
 have hsz:(s1.heap.push (revObj l ((its.toArray.size:Int) - 1))).objs.size=s1.heap.objs.size+1:=Heap.size_push ..
 have hacc':acc.toList=its.reverse:=zUu (acc:=acc.toList) (by simpa using hacc)
 have hT:s1.heap.objs.size<=(s1.heap.push (revObj l ((its.toArray.size:Int) - 1))).objs.size:=by rw[hsz];exact Nat.le_succ _
 have fr:H1 (s1.heap.push (revObj l ((its.toArray.size:Int) - 1))).objs.size=none:=I1.hok.fresh hT
 have I3:=I1.laid (t':=tk) (h':=h') (a:=(s1.heap.push (revObj l ((its.toArray.size:Int) - 1))).objs.size) (o:=.lst ws.reverse) (fun b o e=>hk b o (Nat.ne_of_lt (Heap.lt_size e)) (Heap.get?_push_of_some _ e)) hT
   (show ObjOk X.prog X.w _ h' _ (.lst ws.reverse) from⟨by rw[List.length_reverse];exact hz,acc.toList,c',by rw[hacc'];exact rv.reverse,hS⟩)
 exact⟨.ref _,_,I3,rfl,kk _ ws.reverse _ G1 (st1.trans (Step.own st1.sub fr)) (st1.hh.free fr) zD (st1.sub.free fr) q2.reverse⟩
end
end L2
namespace L2
open PySem PySem.Spec PyProof.Rows
section
variable {X:Cx} {a b c e tg elt iter:Expr} {es:List Expr} {fa fb fc:Ef} {ga gb:Lf} {pos p:Pos}
theorem sE {st:Stmt}:PFS X st (fun _=>none):=by
 intro pins s σ H D I q
 obtain⟨G0,H0,G,ρ,o,good,hf,k⟩:=q
 cases hf
end
end L2
namespace Att
open PySem PySem.W PySem.Spec PyProof.Rows
end Att
namespace Att
open PySem PySem.W PySem.Calls PyProof.Rows
end Att
namespace L2
open PySem PySem.Spec PyProof.Rows
end L2
namespace L2
open PySem PySem.Spec PyProof.Rows
section
variable {X:Cx} {a b c e:Expr} {fa fb fc:Ef} {pos:Pos}
end
end L2
namespace L2
open PySem PySem.Spec PyProof.Rows
section
variable {X:Cx} {e:Expr} {es:List Expr} {fa:Ef} {p q:List B->Bool} {pos:Pos} {k:Nat}
end
end L2
namespace L2
open PySem PySem.Spec PyProof.Rows
section
variable {X:Cx} {a b c e:Expr} {es:List Expr} {fa:Ef} {pos p:Pos}
end
end L2
namespace L2
open PySem PySem.Spec PyProof.Rows
section
variable {X:Cx} {E:XK} {e:Expr} {es:List Expr} {fa:Ef} {p q:List B->Bool} {pos:Pos} {x:List B->Option Str}
end
section
variable {P:Program} {w:World} {K:PySem.W.Frag} {mg:Str->Option Value} {base:Heap} {N:List Str} {qual:Str} {scope:Scope} {f:Addr} {cd:Value} {A:Around} {outer:List Env} {s₀:Shared} {H₀:Hp} {E:XK}
end
section
variable {X:Cx} {E:XK} {a e:Expr} {es:List Expr} {ga:Lf} {tt:Tf} {x xa xb:List B->Option Str} {pos p cpos:Pos} {st st':Stmt} {sts rest:List Stmt}
end
section
variable {P:Program} {w:World} {K:PySem.W.Frag} {mg:Str->Option Value} {base:Heap} {x qual:Str} {st:Stmt} {f:Addr} {fd:FuncData} {N ps:List Str} {k:Nat}
end
end L2
namespace L2
open PySem PySem.Spec PyProof.Rows
section
variable {X:Cx} {a b c e:Expr} {es:List Expr} {fa fb fc:Ef} {ga gb:Lf} {pos p:Pos}
theorem zUq:CallR X (.builtin "abs") (fun xs H Q=>∃i,xs=[.int i]/\Q (.int (if i < 0 then -i else i)) H):=by
 intro pins s σ H xs us Q I r h
 obtain⟨i,rfl,q⟩:=h
 obtain⟨u,rfl,t,rfl⟩:=pZ r
 exact call_abs_int fun u tk=>⟨.int _,H,I.kept (fun _ _ e=>e),⟨u,rfl⟩,q⟩
def zQD (fa:Ef):Ef:=fun ρ=>(fa ρ).bind fun x=>match x with | .int i=>some (.int (if i < 0 then -i else i)) | _=>none
theorem zP0 (hg:Gl X "abs")(hm:X.mg "abs"=none)(h:PF X a fa)(hs:starEach [a] X.env=[(false,eval a X.env)]:=by rfl):PF X (.Call (.Name "abs" p) [a] [] pos) (zQD fa):=by
 refine PE.to (rA zUq hg hm (by rfl) (yW h yI (by rw[hs];rfl)) (by decide) (by decide) (by rw[hs];rfl) (by rfl)) ?_
 rintro σ H Q ⟨G0,H0,G,ρ,d,good,hf,k⟩
 unfold zQD at hf
 obtain⟨x,h1,hf⟩:=Option.bind_eq_some_iff.mp hf
 split at hf
 · rename_i i
   cases hf
   exact⟨G0,H0,G,ρ,_,good,h1,fun v H1 G1 s1 r1=>⟨i,by rw[rep_int.mp r1],k _ _ G1 s1 (rep_int.mpr rfl)⟩⟩
 · cases hf
theorem zUZ (hc:X.calm=true):CallR X (.builtin "sum") (fun xs H Q=>∃(q:Addr) (ns:List Int),xs=[V.ref q]/\SqL X.K H q (ns.map V.int)/\Q (.int ns.sum) H):=by
 intro pins s σ H xs us Q I r h
 obtain⟨l,ns,rfl,hq,q⟩:=h
 obtain⟨u,rfl,ru⟩:=pZ r
 cases ru
 obtain⟨its,rv,pl,hz⟩:=I.list hq
 obtain⟨ps,rfl,rfl⟩:=zZx rv
 have hit:s.heap.IsList l (intItems ps.toArray):=by
   have:=pl.isList
   unfold intItems
   rw[List.map_toArray]
   exact this
 refine sum_intListG (I.ok.hd hc) hit fun h' tk t' hk=>⟨.int _,H,I.kept hk,⟨t',rfl⟩,?_⟩
 have e:preSum (numAt ps.toArray) ps.toArray.size=(ps.map (·.1)).sum:=by
   have:=preSum_eq ps.toArray ps.toArray.size
   rw[this,List.take_of_length_le (by simp)]
 rw[e]
 exact q
def zSP (g:Lf):Ef:=fun ρ=>(g ρ).bind fun ds=>(zYl ds).bind fun ns=>some (.int ns.sum)
theorem zR4 (hcm:X.calm=true)(hg:Gl X "sum")(hm:X.mg "sum"=none)(h:zXh X a ga)(hs:starEach [a] X.env=[(false,eval a X.env)]:=by rfl):PF X (.Call (.Name "sum" p) [a] [] pos) (zSP ga):=by
 refine PE.to (rA (zUZ hcm) hg hm (by rfl) (yW h yI (by rw[hs];rfl)) (by decide) (by decide) (by rw[hs];rfl) (by rfl)) ?_
 rintro σ H Q ⟨G0,H0,G,ρ,d,good,hf,k⟩
 unfold zSP at hf
 obtain⟨ds,h1,hf⟩:=Option.bind_eq_some_iff.mp hf
 obtain⟨ns,h2,hf⟩:=Option.bind_eq_some_iff.mp hf
 cases hf
 refine⟨G0,H0,G,ρ,ds,good,h1,fun q vs H1 G1 s1 e1 r1=>?_⟩
 rw[fR h2 r1] at e1
 exact⟨q,ns,rfl,s1.sub.seq e1,k _ _ G1 s1 (rep_int.mpr rfl)⟩
end
end L2
namespace L2
open PySem PySem.Spec PyProof.Rows
inductive All2 {α β:Type}(R:α->β->Prop):List α->List β->Prop
 | nil:All2 R [] []
 | cons {a b l m}:R a b->All2 R l m->All2 R (a::l) (b::m)
theorem All2.length {α β:Type}{R:α->β->Prop}:∀ {l:List α} {m:List β},All2 R l m->l.length=m.length
 | _,_,.nil=>rfl
 | _,_,.cons _ t=>by rw[List.length_cons,List.length_cons,t.length]
theorem All2.imp {α β:Type}{R S:α->β->Prop}(h:∀a b,R a b->S a b):∀ {l:List α} {m:List β},All2 R l m->All2 S l m
 | _,_,.nil=>.nil
 | _,_,.cons q t=>.cons (h _ _ q) (t.imp h)
theorem All2.inj {α β:Type}{R:α->β->Prop}(h:∀a a' b,R a b->R a' b->a=a'):∀ {l l':List α} {m:List β},All2 R l m->All2 R l' m->l=l'
 | _,_,_,.nil,.nil=>rfl
 | _,_,_,.cons q t,.cons q' t'=>by rw[h _ _ _ q q',All2.inj h t t']
theorem All2.get {α β:Type}{R:α->β->Prop}:∀ {l:List α} {m:List β},All2 R l m->∀(j:Nat) (h1:j < l.length) (h2:j < m.length),R l[j] m[j]
 | _,_,.cons q t,0,_,_=>q
 | _,_,.cons q t,j+1,h1,h2=>t.get j (by simpa using h1) (by simpa using h2)
def lL:KT->Value->Prop
 | .int i,v=>(∃t,v = .int i t)∨∃b:Bool,v = .bool b/\i=(if b then 1 else 0)
 | .tup _,_=>False
def IsK (h:Heap):Nat->KT->Value->Prop
 | 0,k,v=>lL k v
 | n+1,.tup ks,v=>∃a items,v = .ref a/\h.IsTuple a items/\All2 (IsK h n) ks items.toList
 | _+1,.int i,v=>lL (.int i) v
theorem zZX {k k':KT}{v:Value}(h:lL k v)(h':lL k' v):k=k':=by
 cases k with
 | int i =>
   cases k' with
   | int j =>
     rcases h with⟨t,rfl⟩ | ⟨b,rfl,rfl⟩<;>rcases h' with⟨t',e⟩ | ⟨b',e,rfl⟩<;>cases e<;>rfl
   | tup l=>cases h'
 | tup l=>cases h
theorem fO {k:KT}{a:Addr}(h:lL k (.ref a)):False:=by
 cases k with
 | int i=>rcases h with⟨t,e⟩ | ⟨b,e,_⟩<;>cases e
 | tup l=>cases h
theorem zXW {h:Heap}{n:Nat}{k:KT}{v:Value}(hk:∀l,k ≠ .tup l):IsK h n k v↔lL k v:=by
 cases n with
 | zero=>exact Iff.rfl
 | succ n =>
   cases k with
   | tup l=>exact absurd rfl (hk l)
   | int i=>exact Iff.rfl
theorem fG {h:Heap}{a:Addr}{i j:Array Value}(x:h.IsTuple a i)(y:h.IsTuple a j):i=j:=by
 obtain⟨o,e,_,n,d⟩:=x
 obtain⟨o',e',_,n',d'⟩:=y
 rw[e] at e';cases e'
 rw[d] at d';cases d';rfl
theorem zYV {h:Heap}:∀(n:Nat) (k k':KT) (v:Value),IsK h n k v->IsK h n k' v->k=k'
 | 0,_,_,_,x,y=>zZX x y
 | n+1,.tup ks,k',v,x,y=>by
   obtain⟨a,items,rfl,t,al⟩:=x
   cases k' with
   | tup ls =>
     obtain⟨a',items',e,t',al'⟩:=y
     cases e
     have:=fG t t'
     subst this
     rw[al.inj (fun p q r=>zYV n p q r) al']
   | int i=>exact(fO (k:=.int i) y).elim
 | n+1,.int i,.tup ls,v,x,y=>by
   obtain⟨a',items',rfl,_⟩:=y
   exact(fO (k:=.int i) x).elim
 | n+1,.int i,.int j,v,x,y=>zZX (k:=.int i) (k':=.int j) x y
theorem zZD {h h':Heap}(hk:∀a items,h.IsTuple a items->h'.IsTuple a items):∀(n:Nat) (k:KT) (v:Value),IsK h n k v->IsK h' n k v
 | 0,_,_,x=>x
 | n+1,.tup ks,v,x=>by
   obtain⟨a,items,rfl,t,al⟩:=x
   exact⟨a,items,rfl,hk _ _ t,al.imp fun p q r=>zZD hk n p q r⟩
 | n+1,.int i,v,x=>x
def dK':Nat->KT->Nat
 | n+1,.tup ks=>(ks.map (dK' n)).sum+1
 | _,_=>1
section
variable {prog:Program} {w:World} {E:Value->Shared->Prop}
theorem zZC {k:KT}{v:Value}{A:Around}{s:Shared}{Q:Int->Shared->Prop}(x:lL k v)(hu:A.units < cLine)(h:Q (zQQ k) { s with toks:=s.toks+1 }):wpAny (model prog w) A (pyHash v) Q E s:=by
 cases k with
 | int i =>
   rcases x with⟨t,rfl⟩ | ⟨b,rfl,rfl⟩
   · exact wpAny_pyHash_int h
   · refine PySem.W.pyHash_slot (T:="bool") rfl F.slot_bool_hash entry_int_hash (args_int_hash _) (beq_builtin_none _) (.inr hu) ?_
     cases b
     · exact(show wpAny _ _ (do ret (←mkInt 0)) _ _ s from wpAny_bind (wpAny_mkInt (wpAny_pure ⟨_,_,rfl,h⟩)))
     · exact(show wpAny _ _ (do ret (←mkInt 1)) _ _ s from wpAny_bind (wpAny_mkInt (wpAny_pure ⟨_,_,rfl,h⟩)))
 | tup l=>cases x
theorem zTL:∀(n:Nat) (k:KT) (v:Value) (A:Around) (s:Shared) (Q:Int->Shared->Prop),IsK s.heap n k v->A.units+n < cLine->Q (hK n k) { s with toks:=s.toks+dK' n k }->wpAny (model prog w) A (pyHash v) Q E s
 | 0,k,v,A,s,Q,x,hu,h=>by
   cases k with
   | tup l=>cases x
   | int i=>exact zZC (k:=.int i) x (by omega) h
 | n+1,.int i,v,A,s,Q,x,hu,h=>zZC (k:=.int i) x (by omega) h
 | n+1,.tup ks,v,A,s,Q,x,hu,h=>by
   obtain⟨a,items,rfl,t,al⟩:=x
   obtain⟨o,ho,hc,m,hd⟩:=id t
   refine PySem.W.pyHash_slot (T:="tuple") ⟨_,ho,hc⟩ F.slot_tuple_hash F.entry_tuple_hash (F.args_tuple_hash_1 _) (beq_builtin_none _) (.inr (by omega)) ?_
   show wpAny _ _ (Builtin.Tuple.tupleItemsOf (.ref a) >>= _) _ _ s
   refine wpAny_bind (wpAny_tupleItemsOf ho hd ?_)
   refine wpAny_bind ?_
   rw[←Array.forIn_toList]
   refine wpAny_forIn_list _
     (fun rest (b:Array Int) s'=>∃done left,ks=done++left/\All2 (IsK s.heap n) left rest/\b.toList=done.map (hK n)/\s'={ s with toks:=s.toks+(done.map (dK' n)).sum })
     _ ?_ ?_ _ _ ⟨[],ks,rfl,al,rfl,rfl⟩
   · rintro x rest b s' ⟨done,left,rfl,hl,hb,rfl⟩
     cases hl with
     | @cons k _ ks' _ h1 hl' =>
       refine wpAny_bind (zTL n k x A.in1 _ _ h1 (by show A.units+1+n < cLine;omega) ?_)
       first
         | exact wpAny_pure ⟨done++[k],ks',by simp,hl',by simp[hb],by simp[Nat.add_assoc]⟩
         | exact wpAny_bind (wpAny_pure (wpAny_pure ⟨done++[k],ks',by simp,hl',by simp[hb],by simp[Nat.add_assoc]⟩))
   · rintro b s' ⟨done,left,rfl,hl,hb,rfl⟩
     cases hl
     rw[List.append_nil] at h
     show wpAny _ _ (retInt (Builtin.Tuple.tupleHashOf b.toList)) _ _ _
     rw[hb]
     exact wpAny_bind (wpAny_mkInt (wpAny_pure ⟨_,_,rfl,by simpa [hK,dK',Nat.add_assoc] using h⟩))
theorem lE {a b:KT}{p:Bool}(h:p=true↔a=b):p=decide (a=b):=by
 by_cases e:a=b
 · rw[decide_eq_true e];exact h.mpr e
 · rw[decide_eq_false e];cases p with
   | false=>rfl
   | true=>exact absurd (h.mp rfl) e
theorem zVM {k k':KT}{v v':Value}{A:Around}{s:Shared}(x:lL k v)(y:lL k' v'):SeqAt.EqAt A s v v' (decide (k=k')):=by
 cases k with
 | int i =>
   cases k' with
   | int j =>
     rcases x with⟨t,rfl⟩ | ⟨b,rfl,rfl⟩<;>rcases y with⟨t',rfl⟩ | ⟨b',rfl,rfl⟩
     · rw[←lE (p:=i==j) (by simp)];exact SeqAt.EqAt.int_int _ _ _ _
     · rw[←lE (p:=i==(if b' then 1 else 0)) (by simp)];exact SeqAt.EqAt.int_bool _ _ _
     · rw[←lE (p:=(if b then 1 else 0)==j) (by simp)];exact SeqAt.EqAt.bool_int _ _ _
     · rw[←lE (p:=b==b') (by cases b<;>cases b'<;>simp)];exact SeqAt.EqAt.bool_bool _ _
   | tup l=>cases y
 | tup l=>cases x
theorem eR {k:KT}{v:Value}{A:Around}{s:Shared}{a:Addr}{items:Array Value}(t:s.heap.IsTuple a items)(hu:A.units < cLine)(y:lL k v):SeqAt.EqAt A s (.ref a) v false/\SeqAt.EqAt A s v (.ref a) false:=by
 cases k with
 | int i =>
   rcases y with⟨t',rfl⟩ | ⟨b',rfl,_⟩
   · exact⟨SeqAt.EqAt.tuple_int _ _ t hu,SeqAt.EqAt.int_tuple _ _ t hu⟩
   · exact⟨SeqAt.EqAt.tuple_bool _ t hu,SeqAt.EqAt.bool_tuple _ t hu⟩
 | tup l=>cases y
theorem zRE {ks ls:List KT}:((List.range (min ks.length ls.length)).all (fun j=>decide (ks[j]?=ls[j]?))&&ks.length==ls.length)=decide (KT.tup ks=KT.tup ls):=by
 refine lE ?_
 rw[Bool.and_eq_true,List.all_eq_true,beq_iff_eq]
 constructor
 · rintro⟨h1,h2⟩
   congr 1
   refine List.ext_getElem? fun j=>?_
   by_cases hj:j < min ks.length ls.length
   · exact of_decide_eq_true (h1 j (List.mem_range.mpr hj))
   · rw[List.getElem?_eq_none (by omega),List.getElem?_eq_none (by omega)]
 · intro e
   cases e
   exact⟨fun j _=>decide_eq_true rfl,rfl⟩
theorem zO2:∀(n:Nat) (k k':KT) (v v':Value) (A:Around) (s:Shared),IsK s.heap n k v->IsK s.heap n k' v'->A.units+n < cLine->SeqAt.EqAt A s v v' (decide (k=k'))
 | 0,k,k',v,v',A,s,x,y,hu=>zVM x y
 | n+1,.tup ks,.tup ls,v,v',A,s,x,y,hu=>by
   obtain⟨a,items,rfl,t,al⟩:=x
   obtain⟨b,jtems,rfl,t',al'⟩:=y
   by_cases hab:a=b
   · subst hab
     have e:=fG t t'
     subst e
     have e:=al.inj (fun p q r=>zYV n p q r) al'
     subst e
     rw[decide_eq_true rfl]
     exact SeqAt.EqAt.same _
   · refine .of_refs hab ?_
     have l1:=al.length
     have l2:=al'.length
     have R:=SeqAt.RcAt.tuples (A:=A) (e:=fun j=>decide (ks[j]?=ls[j]?)) t t' (by omega) fun j h1 h2=>by
       have b1:j < ks.length:=by rw[l1];simpa using h1
       have b2:j < ls.length:=by rw[l2];simpa using h2
       have q:=zO2 n ks[j] ls[j] items[j] jtems[j] A.in1 s (al.get j b1 (by simpa using h1)) (al'.get j b2 (by simpa using h2)) (by show A.units+1+n < cLine;omega)
       have e:decide (ks[j]?=ls[j]?)=decide (ks[j]=ls[j]):=by
         refine lE ?_
         rw[decide_eq_true_iff,List.getElem?_eq_getElem b1,List.getElem?_eq_getElem b2,Option.some_inj]
       rw[e]
       exact q
     have e:=zRE (ks:=ks) (ls:=ls)
     rw[l1,l2,Array.length_toList,Array.length_toList] at e
     rw[←e]
     exact R
 | n+1,.tup ks,.int i,v,v',A,s,x,y,hu=>by
   obtain⟨a,items,rfl,t,al⟩:=x
   rw[←lE (p:=false) (by simp)]
   exact(eR (k:=.int i) t (by omega) y).1
 | n+1,.int i,.tup ks,v,v',A,s,x,y,hu=>by
   obtain⟨a,items,rfl,t,al⟩:=y
   rw[←lE (p:=false) (by simp)]
   exact(eR (k:=.int i) t (by omega) x).2
 | n+1,.int i,.int j,v,v',A,s,x,y,hu=>zVM (k:=.int i) (k':=.int j) x y
theorem dQ {k:KT}{v:Value}(m:Nat)(x:lL k v):eqIsQuiet m v=pure true:=by
 refine eqIsQuiet_byValue m ?_
 cases k with
 | int i=>rcases x with⟨t,rfl⟩ | ⟨b,rfl,_⟩<;>rfl
 | tup l=>cases x
theorem zVH:∀(n:Nat) (k:KT) (v:Value) (m:Nat) (A:Around) (s:Shared) (Q:Bool->Shared->Prop),n<=m->IsK s.heap n k v->Q true s->wpAny (model prog w) A (eqIsQuiet m v) Q E s
 | 0,k,v,m,A,s,Q,hm,x,h=>by rw[dQ m x];exact wpAny_pure h
 | n+1,.int i,v,m,A,s,Q,hm,x,h=>by rw[dQ (k:=.int i) m x];exact wpAny_pure h
 | n+1,.tup ks,v,0,A,s,Q,hm,x,h=>absurd hm (by omega)
 | n+1,.tup ks,v,m+1,A,s,Q,hm,x,h=>by
   obtain⟨a,items,rfl,t,al⟩:=x
   obtain⟨o,ho,hc,m',hd⟩:=id t
   have hT:s.TypeIs (.ref a) "tuple":=⟨_,ho,hc⟩
   unfold eqIsQuiet
   refine wpAny_bind (wpAny_specialOf hT F.slot_tuple_eq.lookup ?_)
   show wpAny _ _ (isInstance (.ref a) (.type "tuple") >>= _) _ _ s
   refine wpAny_bind (wpAny_isInstance hT isSubtype_tuple_tuple ?_)
   simp only[Bool.not_true,Bool.false_eq_true,if_false]
   refine wpAny_bind (wpAny_seqItems ho hd ?_)
   refine wpAny_bind ?_
   show wpAny _ _ (forIn items _ _) _ _ s
   rw[←Array.forIn_toList]
   refine wpAny_forIn_list _ (fun rest r s'=>r.1=none/\s'=s/\∃left,All2 (IsK s.heap n) left rest) _ ?_ ?_ _ _ ⟨rfl,rfl,ks,al⟩
   · rintro v rest r s' ⟨hr,rfl,left,hall⟩
     cases hall with
     | cons h1 h2 =>
       refine wpAny_bind (zVH n _ v m A s' _ (by omega) h1 ?_)
       simp only[Bool.not_true,Bool.false_eq_true,if_false]
       exact wpAny_pure ⟨rfl,rfl,_,h2⟩
   · rintro⟨r1,r2⟩ s' ⟨hr,rfl,_⟩
     simp only at hr
     subst hr
     exact wpAny_pure h
end
theorem aN {h h':Heap}{d:Addr}{o:Obj}{es ep}(ho:h.get? d=some o)(hd:o.data = .dict es ep)(hs:Heap.SameBut d h h')(a:Addr)(items:Array Value)(t:h.IsTuple a items):h'.IsTuple a items:=by
 obtain⟨o',ho',hc,n,hd'⟩:=t
 have hne:a≠d:=by
   rintro rfl
   rw[ho] at ho';cases ho'
   rw[hd] at hd';cases hd'
 exact⟨o',(hs.2 a hne).trans ho',hc,n,hd'⟩
def hU (prog:Program)(w:World):HeapKind prog w KT where
 is:=fun h k a=>IsK h 8 k (.ref a)
 hash:=hK 8
 draws:=dK' 8
 room:=fun A=>A.units+8 < cLine
 inj:=fun hx hy=>zYV 8 _ _ _ hx hy
 keeps:=fun x ho hd hs=>zZD (aN ho hd hs) 8 _ _ x
 pyHash:=fun hu hk h=>zTL 8 _ _ _ _ _ hk hu h
 eqBool:=fun hu hx hy h=>zO2 8 _ _ _ _ _ _ hx hy hu _ _ _ _ h
 quiet:=fun hk h=>zVH 8 _ _ 8 _ _ _ (by omega) hk h
end L2
namespace L2
open PySem PySem.Spec PyProof.Rows
section
variable {X:Cx} {pins:List (Addr×Obj)} {σ:St} {G H:Hp} {s:Shared}
theorem zXf {ds:List D}{ks:List KT}{n:Nat}(f:∀(d:D) (v:V) (u:Value) (k:KT),ktD n d=some k->Rep X.K G d v->RelV v u->IsK s.heap n k u):∀ {ds:List D} {ks:List KT} {vs:List V} {us:List Value},gH (ktD n) ds=some ks->Reps X.K G ds vs->Vals vs us->All2 (IsK s.heap n) ks us
 | [],ks,vs,us,h,r,w=>by
   rw[reps_nil] at r;subst r
   cases h;cases w;exact .nil
 | d::ds,ks,vs,us,h,r,w=>by
   obtain⟨v,vr,rfl,r1,r2⟩:=reps_cons.mp r
   unfold gH at h
   obtain⟨k,h1,h⟩:=Option.bind_eq_some_iff.mp h
   obtain⟨ks',h2,rfl⟩:=Option.map_eq_some_iff.mp h
   cases w with
   | cons w1 w2=>exact .cons (f d v _ k h1 r1 w1) (zXf (ds:=ds) (ks:=ks') f h2 r2 w2)
theorem zYE (I:Inv X pins σ H s)(sub:Same G H):∀(n:Nat) (d:D) (v:V) (u:Value) (k:KT),ktD n d=some k->Rep X.K G d v->RelV v u->IsK s.heap n k u:=by
 have leaf:∀(n:Nat) (d:D) (v:V) (u:Value) (k:KT),(∀ds,d ≠ .tup ds)->ktD n d=some k->Rep X.K G d v->RelV v u->IsK s.heap n k u:=fun n d v u k hd h r ru=>by
   cases d with
   | int i =>
     have e:k = .int i:=by cases n<;>(cases h;rfl)
     subst e
     rw[rep_int] at r;subst r
     obtain⟨t,rfl⟩:=ru
     exact(zXW (fun l z=>by cases z)).mpr (.inl ⟨t,rfl⟩)
   | bl b =>
     have e:k = .int (if b then 1 else 0):=by cases n<;>(cases h;rfl)
     subst e
     rw[rep_bl] at r;subst r
     cases ru
     exact(zXW (fun l z=>by cases z)).mpr (.inr ⟨b,rfl,rfl⟩)
   | tup ds=>exact absurd rfl (hd ds)
   | _=>cases n<;>cases h
 intro n
 induction n with
 | zero =>
   intro d v u k h r ru
   cases d with
   | tup ds=>cases h
   | _=>exact leaf 0 _ v u k (fun _ z=>by cases z) h r ru
 | succ n ih =>
   intro d v u k h r ru
   cases d with
   | tup ds =>
     unfold ktD at h
     obtain⟨ks,h1,rfl⟩:=Option.map_eq_some_iff.mp h
     obtain⟨p,vs,rfl,q1,q2⟩:=rep_tup.mp r
     cases ru
     obtain⟨its,w1,t1,_⟩:=I.tuple (sub.tup q1)
     exact⟨p,its.toArray,rfl,t1,zXf (ds:=ds) (ks:=ks) ih h1 q2 w1⟩
   | _=>exact leaf (n+1) _ v u k (fun _ z=>by cases z) h r ru
def uB:List KT->List Addr->List Value->List (KT×Addr×Value)
 | k::ks,a::as,u::us=>(k,a,u)::uB ks as us
 | _,_,_=>[]
theorem dA (P:Program)(w:World):∀(ks:List KT) (as:List Addr) (us:List Value),eO ks as us=(uB ks as us).map (entryOfKey (hU P w))
 | k::ks,a::as,u::us=>by rw[eO,uB,List.map_cons,dA P w ks as us];rfl
 | [],_,_=>by simp[eO,uB]
 | _::_,[],_=>by simp[eO,uB]
 | _::_,_::_,[]=>by simp[eO,uB]
theorem lA:∀ {ks:List KT} {as:List Addr} {us:List Value},ks.length=as.length->ks.length=us.length->(uB ks as us).map (·.1)=ks
 | [],[],[],_,_=>rfl
 | k::ks,a::as,u::us,h1,h2=>by rw[uB,List.map_cons,lA (by simpa using h1) (by simpa using h2)]
 | [],_::_,_,h,_=>by simp at h
 | [],[],_::_,_,h=>by simp at h
 | _::_,[],_,h,_=>by simp at h
 | _::_,_::_,[],_,h=>by simp at h
theorem zR2 {ks:List KT}{as:List Addr}{us:List Value}(h1:ks.length=as.length)(h2:ks.length=us.length):(uB ks as us).length=ks.length:=by
 have:=congrArg List.length (lA h1 h2)
 rwa[List.length_map] at this
theorem zXs:∀ {ks:List KT} {as:List Addr} {us:List Value} (k:KT) (a:Addr) (u:Value),ks.length=as.length->ks.length=us.length->uB ks as us++[(k,a,u)]=uB (ks++[k]) (as++[a]) (us++[u])
 | [],[],[],k,a,u,_,_=>rfl
 | k'::ks,a'::as,u'::us,k,a,u,h1,h2=>by
   show(k',a',u')::(uB ks as us++[(k,a,u)])=_
   rw[zXs k a u (by simpa using h1) (by simpa using h2)]
   rfl
 | [],_::_,_,_,_,_,h,_=>by simp at h
 | [],[],_::_,_,_,_,_,h=>by simp at h
 | _::_,[],_,_,_,_,h,_=>by simp at h
 | _::_,_::_,[],_,_,_,_,h=>by simp at h
theorem ODs.lens {K:PySem.W.Frag}:∀ {kvs ks as vs},ODs K G kvs ks as vs->ks.length=as.length/\ks.length=vs.length/\kvs.length=ks.length
 | _,_,_,_,.nil=>⟨rfl,rfl,rfl⟩
 | _,_,_,_,.cons _ _ _ h=>by
   obtain⟨a,b,c⟩:=ODs.lens h
   simp only[List.length_cons]
   omega
theorem ODs.keys {K:PySem.W.Frag}:∀ {kvs ks as vs},ODs K G kvs ks as vs->(kvs.map fun p=>ktD 8 p.1)=ks.map some
 | _,_,_,_,.nil=>rfl
 | _,_,_,_,.cons h1 _ _ h=>by rw[List.map_cons,List.map_cons,h1,ODs.keys h]
theorem ODs.snoc {K:PySem.W.Frag}{d e:D}{k:KT}{a:Addr}{v:V}(h1:ktD 8 d=some k)(h2:Rep K G d (.ref a))(h3:Rep K G e v):∀ {kvs ks as vs},ODs K G kvs ks as vs->ODs K G (kvs++[(d,e)]) (ks++[k]) (as++[a]) (vs++[v])
 | _,_,_,_,.nil=>.cons h1 h2 h3 .nil
 | _,_,_,_,.cons a1 a2 a3 h=>.cons a1 a2 a3 (ODs.snoc h1 h2 h3 h)
theorem zSL (I:Inv X pins σ H s)(sub:Same G H):∀ {kvs ks as vs} {us:List Value},ODs X.K G kvs ks as vs->Vals vs us->∀x∈uB ks as us,IsK s.heap 8 x.1 (.ref x.2.1)
 | _,_,_,_,_,.nil,_=>fun x hx=>by simp[uB] at hx
 | _,_,_,_,_,.cons h1 h2 h3 h,w=>by
   cases w with
   | cons w1 w2 =>
     intro x hx
     rcases List.mem_cons.mp hx with rfl | hx
     · exact zYE I sub 8 _ _ _ _ h1 h2 rfl
     · exact zSL I sub h w2 x hx
theorem zVq (I:Inv X pins σ H s)(sub:Same G H){a:Addr}{kvs ks as vs}(hp:H a=some (.ext (oU a ks as vs)))(od:ODs X.K G kvs ks as vs)(nd:ks.Nodup):∃us,Vals vs us/\ks.length=us.length/\s.heap.DictOfH (hU X.prog X.w) a (uB ks as us):=by
 obtain⟨⟨us,w,o,es,ep,h1,h2,h3,h4⟩,_⟩:=(show ObjOk X.prog X.w H s.heap a (.ext (oU a ks as vs)) from I.hok a _ hp)
 obtain⟨l1,l2,_⟩:=od.lens
 have l3:ks.length=us.length:=l2.trans w.length
 refine⟨us,w,l3,o,es,ep,h1,h2,h3,?_,zSL I sub od w,?_⟩
 · rw[h4];exact dA X.prog X.w ks as us
 · rw[lA l1 l3];exact nd
theorem zVs {P:Program}{w:World}{H':Hp}{h':Heap}{a:Addr}{ks as}{vs:List V}{us:List Value}(hv:Vals vs us){o es ep}(h1:h'.get? a=some o)(h2:o.ExactDict)(h3:o.data = .dict es ep)(h4:es.toList=eO ks as us):ObjOk P w H' h' a (.ext (oU a ks as vs)) :=
 ⟨⟨us,hv,o,es,ep,h1,h2,h3,h4⟩,⟨o,h1⟩,fun g1 g2 ⟨us,hv,o,es,ep,e1,e2,e3,e4⟩ k=>⟨us,hv,o,es,ep,k o e1,e2,e3,e4⟩⟩
theorem bD {ks:List KT}{as:List Addr}{us:List Value}(h1:ks.length=as.length)(h2:ks.length=us.length)(k:KT):(atKey (uB ks as us) k).isSome=decide (k∈ks):=by
 unfold atKey
 rw[Option.isSome_map]
 by_cases hm:k∈ks
 · rw[decide_eq_true hm,List.find?_isSome]
   rw[←lA h1 h2] at hm
   obtain⟨x,hx,e⟩:=List.mem_map.mp hm
   exact⟨x,hx,decide_eq_true e⟩
 · rw[decide_eq_false hm]
   cases hf:List.find? (fun x:KT×Addr×Value=>decide (x.1=k)) (uB ks as us) with
   | none=>rfl
   | some x =>
     refine absurd ?_ hm
     rw[←lA h1 h2]
     have hx:=List.find?_some hf
     exact List.mem_map.mpr ⟨x,List.mem_of_find?_eq_some hf,of_decide_eq_true hx⟩
end
theorem Paired.upd {α β:Type}{F F':α->β->Prop}{b':β}:∀ {l:List α} {r:List β} (i:Nat),Paired F l r->(∀(j:Nat) (a:α) (b:β),j≠i->l[j]?=some a->r[j]?=some b->F a b->F' a b)->(∀a,l[i]?=some a->F' a b')->Paired F' l (r.set i b')
 | _,_,_,.nil,_,_=>.nil
 | _,_,0,.cons q t,h1,h2=>by
   rw[List.set_cons_zero]
   refine .cons (h2 _ rfl) ?_
   have tl:∀ {l:List α} {r:List β} (n:Nat),Paired F l r->(∀(j:Nat) (a:α) (b:β),l[j]?=some a->r[j]?=some b->F a b->F' a b)->Paired F' l r:=by
     intro l r n p
     induction p with
     | nil=>intro _;exact .nil
     | cons q t ih=>intro h;exact .cons (h 0 _ _ rfl rfl q) (ih fun j a b e1 e2=>h (j+1) a b (by simpa using e1) (by simpa using e2))
   exact tl 0 t fun j a b e1 e2=>h1 (j+1) a b (by omega) (by simpa using e1) (by simpa using e2)
 | _,_,i+1,.cons q t,h1,h2=>by
   rw[List.set_cons_succ]
   exact .cons (h1 0 _ _ (by omega) rfl rfl q) (Paired.upd i t (fun j a b hj e1 e2=>h1 (j+1) a b (by omega) (by simpa using e1) (by simpa using e2)) fun a e=>h2 a (by simpa using e))
def zO4:B->Bool | .od _=>true | _=>false
def zVG (i:Nat)(ρ:List B):Bool:=(List.range ρ.length).all fun j=>j==i || !(zO4 (ρ.getD j .no))
theorem zTm {i j:Nat}{ρ:List B}{b:B}(h:zVG i ρ=true)(hj:j≠i)(e:ρ[j]?=some b):zO4 b=false:=by
 unfold zVG at h
 have hl:=(List.getElem?_eq_some_iff.mp e).1
 have:=List.all_eq_true.mp h j (List.mem_range.mpr hl)
 rw[List.getD_eq_getElem?_getD,e] at this
 simpa [hj] using this
section
variable {K:PySem.W.Frag} {G0 H0 G H:Hp} {σ:St} {ρ:List B}
theorem Good.dict {i:Nat}{kvs:List (D×D)}(g:Good K G0 H0 G H σ ρ)(h:ρ[i]?=some (.od kvs)):∃a ks as vs,σ[i]?=some (some (.ref a))/\H a=some (.ext (oU a ks as vs))/\G a=none/\H0 a=none/\ODs K G kvs ks as vs/\ks.Nodup/\(a==sysModules)=false:=by
 obtain⟨o,e,r⟩:=Paired.get g.vals h
 cases r with
 | od h1 h2 h3 h4 h5 h6=>exact⟨_,_,_,_,e,h1,h2,h3,h4,h5,h6⟩
theorem kT {i j:Nat}{kvs:List (D×D)}{ds:List D}(h:(ρ.set i (.od kvs))[j]?=some (.ow ds)):j≠i/\ρ[j]?=some (.ow ds):=by
 by_cases e:j=i
 · subst e
   rw[List.getElem?_set] at h
   split at h
   · split at h<;>cases h
   · rename_i z;exact absurd rfl z
 · rw[List.getElem?_set_ne (Ne.symm e)] at h
   exact⟨e,h⟩
theorem Good.setD {a:Addr}{ks as vs}{kvs:List (D×D)}(g:Good K G0 H0 G H σ ρ)(i:Nat)(ha:H a=some (.ext (oU a ks as vs)))(ga:G a=none)(h0:H0 a=none)(od:ODs K G kvs ks as vs)(nd:ks.Nodup)(hm:(a==sysModules)=false):Good K G0 H0 G H (σ.set i (some (.ref a))) (ρ.set i (.od kvs)):=by
 refine⟨g.st,Paired.set (.od ha ga h0 od nd hm) i g.vals,fun j k b d1 d2 h1 h2 h3 h4=>?_⟩
 obtain⟨n1,e1⟩:=kT h1
 obtain⟨n2,e2⟩:=kT h2
 rw[List.getElem?_set_ne (Ne.symm n1)] at h3
 rw[List.getElem?_set_ne (Ne.symm n2)] at h4
 exact g.apart j k b d1 d2 e1 e2 h3 h4
theorem Good.wrD {a:Addr}{ks as vs}{kvs kvs':List (D×D)}{i:Nat}(g:Good K G0 H0 G H σ ρ)(ho:zVG i ρ=true)(hi:ρ[i]?=some (.od kvs))(hs:σ[i]?=some (some (.ref a)))(od:ODs K G kvs' ks as vs)(nd:ks.Nodup) :
   Good K G0 H0 G (upd H a (.ext (oU a ks as vs))) σ (ρ.set i (.od kvs')):=by
 obtain⟨a',ks0,as0,vs0,h1,h2,h3,h4,_,_,hm⟩:=g.dict hi
 rw[hs] at h1;cases h1
 refine⟨⟨fun b o e=>?_,g.st.gg,fun b o e=>?_,g.st.new⟩,?_,fun j k b d1 d2 e1 e2 e3 e4=>?_⟩
 · rw[yX (yC e h4)];exact g.st.hh b o e
 · rw[yX (yC e h3)];exact g.st.sub b o e
 · refine Paired.upd i g.vals (fun j x b hj e1 e2 q=>?_) fun x e=>?_
   · cases q with
     | no=>exact .no
     | fz r=>exact .fz r
     | @ow c us ds c1 c2 c3 c4 =>
       have:c≠a:=fun z=>by rw[z,h2] at c1;cases c1
       exact .ow (by rw[yX this];exact c1) c2 c3 c4
     | od _ _ _ _ _ _=>exact absurd (zTm ho hj e2) (by intro z;cases z)
   · rw[hs] at e;cases e
     exact .od zD h3 h4 od nd hm
 · obtain⟨n1,f1⟩:=kT e1
   obtain⟨n2,f2⟩:=kT e2
   exact g.apart j k b d1 d2 f1 f2 e3 e4
end
section
variable {X:Cx} {a b c e:Expr} {fa fb fc:Ef} {pos p p1 p2:Pos} {k:Nat}
theorem Inv.big' {pins:List (Addr×Obj)}{σ:St}{H:Hp}{s:Shared}(I:Inv X pins σ H s):sysModules < s.heap.objs.size:=by
 have h:mainGlobals < s.heap.objs.size:=(I.mod.glob.keeps I.bk).lt
 exact Nat.lt_trans (by decide) h
def zOu:TE:=fun _ H Q=>∀p,H p=none->(p==sysModules)=false->Q (.ref p) (upd H p (.ext (oU p [] [] [])))
theorem zR0:PE X (.Dict [] [] pos) zOu:=fun pins s σ H Q I h =>
 wpAny_Dict_empty ⟨.ref s.heap.objs.size,_,I.laid (a:=s.heap.objs.size) (o:=.ext (oU s.heap.objs.size [] [] [])) (t':=s.toks) (fun _ _ q=>Heap.get?_push_of_some _ q) (Nat.le_refl _) (zVs .nil (Heap.get?_push_size _ rfl) ⟨rfl,rfl,rfl⟩ rfl rfl),rfl,
   h _ (I.hok.fresh (Nat.le_refl _)) (beq_eq_false_iff_ne.mpr (Ne.symm (Nat.ne_of_lt I.big')))⟩
def zX0 (i:Nat):Sf:=fun ρ=>some (.nx (ρ.set i (.od [])))
theorem zVL (i:Nat){x:Str}{pos':Pos}(hN:X.N.Nodup)(hi:X.N[i]?=some x:=by rfl)(hx:Loc X.env.scope x:=by first | exact .inl rfl | exact .inr rfl)(hs:swapsWith (.Dict [] [] p) (some (.Name x pos')) pos.line X.env=pure false:=by rfl)
   (hf:X.fn x=true∨X.env.scope.names.lookup x=some .local:=by first | exact .inl rfl | exact .inr rfl):PFS X (.Assign [.Name x pos'] (.Dict [] [] p) pos) (zX0 i):=by
 refine PS.to (zY1 hN hi hx zR0 hs hf) ?_
 rintro D σ H ⟨G0,H0,G,ρ,o,good,hf,k⟩
 cases hf
 intro q hq hm
 have s1:=Step.own (o:=.ext (oU q [] [] [])) good.st.sub hq
 exact k _ _ G s1.gg ((good.step s1).setD i zD (good.st.sub.free hq) (good.st.hh.free hq) .nil List.nodup_nil hm)
theorem zP4 (hu:X.A.units+10 < cLine):OpR X (compareOp .In) (fun x y H Q=>∃G a b d kt kvs ks as vs,x = .ref b/\y = .ref a/\Same G H/\ktD 8 d=some kt/\Rep X.K G d (.ref b)/\H a=some (.ext (oU a ks as vs))/\ODs X.K G kvs ks as vs/\ks.Nodup/\(a==sysModules)=false/\Q (.bl (decide (kt∈ks))) H):=by
 intro pins s σ H x y v u Q I rx ry ⟨G,a,b,d,kt,kvs,ks,as,vs,e1,e2,sub,hk,rd,hp,od,nd,hm,q⟩
 subst e1 e2
 cases rx
 cases ry
 obtain⟨us,hv,hl,dd⟩:=zVq I sub hp od nd
 refine wpAny_in_heap (knd:=hU X.prog X.w) (show X.A.units+1+8 < cLine by omega) (zYE I sub 8 _ _ _ _ hk rd rfl) hm dd ?_
 rw[bD od.lens.1 hl]
 exact⟨.bl _,H,I.tok _,rfl,q⟩
def zTx:D->Option KT | .tup ds=>ktD 8 (.tup ds) | _=>none
theorem zYa {K:PySem.W.Frag}{G:Hp}{d:D}{kt:KT}{v:V}(h:zTx d=some kt)(r:Rep K G d v):ktD 8 d=some kt/\∃b,v = .ref b:=by
 cases d with
 | tup ds=>obtain⟨p,vs,rfl,_⟩:=rep_tup.mp r;exact⟨h,p,rfl⟩
 | _=>cases h
def dB (i:Nat)(fk:Ef):Tf:=fun ρ=>(fk ρ).bind fun d=>(zTx d).bind fun k=>match ρ[i]? with | some (.od kvs)=>some (decide (some k∈kvs.map fun p=>ktD 8 p.1)) | _=>none
theorem zTl {K:PySem.W.Frag}{G:Hp}{kvs ks as vs}(od:ODs K G kvs ks as vs)(k:KT):decide (some k∈kvs.map fun p=>ktD 8 p.1)=decide (k∈ks):=by
 rw[od.keys]
 by_cases h:k∈ks
 · rw[decide_eq_true h,decide_eq_true (List.mem_map.mpr ⟨k,h,rfl⟩)]
 · rw[decide_eq_false h,decide_eq_false fun z=>by obtain⟨x,hx,e⟩:=List.mem_map.mp z;cases e;exact h hx]
theorem zTy (i:Nat){x:Str}(hr:Room k X.A)(ha:PF X a fa)(hN:X.N[i]?=some x:=by rfl)(hv:Vis X.env.scope x:=by first | exact Or.inl rfl | exact Or.inr (Or.inl rfl) | exact Or.inr (Or.inr rfl))(hd:(x==("__debug__":Str))=false:=by decide)(hcd:(x==("__classdict__":Str))=false:=by decide)
   (hm:behindInMarks .In (.Name x p)=false:=by first | exact dO _ | (with_unfolding_all rfl)):PFT X (.Compare a [.In] [.Name x p] pos) (dB i fa):=by
 have hu:=hr.un
 refine PT.to (dW (zP4 (by omega)) ha (qV hN hv hd hcd) hm) ?_
 rintro σ H Q ⟨G0,H0,G,ρ,c,good,hf,kk⟩
 unfold dB at hf
 obtain⟨d,h1,hf⟩:=Option.bind_eq_some_iff.mp hf
 obtain⟨kt,h2,hf⟩:=Option.bind_eq_some_iff.mp hf
 split at hf
 · rename_i kvs hi
   cases hf
   refine⟨G0,H0,G,ρ,_,good,h1,fun u H1 G1 s1 r1=>?_⟩
   obtain⟨q,ks,as,vs,e1,e2,e3,e4,e5,e6,e7⟩:=(good.step s1).dict hi
   obtain⟨hk,b,rfl⟩:=zYa h2 r1
   refine⟨.ref q,e1,G1,q,b,d,kt,kvs,ks,as,vs,rfl,rfl,s1.sub,hk,r1,e2,e5,e6,e7,_,rfl,?_⟩
   rw[←zTl e5]
   exact kk _ G1 s1
 · cases hf
def zOX (X:Cx):V->V->V->Hp->(Hp->Prop)->Prop:=fun o i v H Q=>∃G a b d kt kvs ks as vs,o = .ref a/\i = .ref b/\Same G H/\ktD 8 d=some kt/\Rep X.K G d (.ref b)/\H a=some (.ext (oU a ks as vs))/\ODs X.K G kvs ks as vs/\ks.Nodup/\kt∉ks/\kvs.length<=lim/\Q (upd H a (.ext (oU a (ks++[kt]) (as++[b]) (vs++[v]))))
theorem zZS:∀ {vs:List V} {us:List Value} {v:V} {u:Value},Vals vs us->RelV v u->Vals (vs++[v]) (us++[u])
 | _,_,_,_,.nil,h=>.cons h .nil
 | _,_,_,_,.cons a t,h=>.cons a (zZS t h)
theorem zSH (hu:X.A.units+10 < cLine):zQm X (zOX X):=by
 intro pins s σ H o i v ov iv u Q I ro ri rv h
 obtain⟨G,a,b,d,kt,kvs,ks,as,vs,rfl,rfl,sub,hk,rd,hp,od,nd,hn,hl,q⟩:=h
 cases ro
 cases ri
 obtain⟨us,hv,hl2,dd⟩:=zVq I sub hp od nd
 obtain⟨l1,l2,l3⟩:=od.lens
 have hz:(uB ks as us).length<=sizeLine:=by rw[zR2 l1 hl2];exact Nat.le_of_lt (wD (by omega))
 refine wpAny_setItem_heap (knd:=hU X.prog X.w) (hsz:=hz) (show X.A.units+1+8 < cLine by omega) (zYE I sub 8 _ _ _ _ hk rd rfl) dd fun h' dd' hs=>⟨_,?_,q⟩
 have hnone:atKey (uB ks as us) kt=none:=by
   have:=bD l1 hl2 kt
   rw[decide_eq_false hn] at this
   exact Option.isSome_eq_false_iff.mp this |> fun z=>by simpa using z
 rw[storedH_new hnone,zXs kt b u l1 hl2] at dd'
 obtain⟨o',es,ep,g1,g2,g3,g4,_⟩:=dd'
 refine I.write (x:=a) (e:=a) (by rw[hp];trivial) (.inl rfl) (fun c w' hc z=>(hs.2 c hc).trans z) ⟨o',g1⟩ (zVs (zZS hv rv) g1 g2 g3 ?_)
 rw[g4];exact(dA X.prog X.w _ _ _).symm
def kF (i:Nat)(fk fv:Ef):Sf:=fun ρ=>(fv ρ).bind fun e=>(fk ρ).bind fun d=>(zTx d).bind fun k=>match ρ[i]? with
 | some (.od kvs)=>if kvs.length<=lim/\zVG i ρ=true/\some k∉kvs.map (fun p=>ktD 8 p.1) then some (.nx (ρ.set i (.od (kvs++[(d,e)])))) else none
 | _=>none
theorem zVm (i:Nat){x:Str}(hr:Room k X.A)(he:PF X e fa)(hb:PF X b fb)(hN:X.N[i]?=some x:=by rfl)(hv:Vis X.env.scope x:=by first | exact Or.inl rfl | exact Or.inr (Or.inl rfl) | exact Or.inr (Or.inr rfl))(hd:(x==("__debug__":Str))=false:=by decide)(hcd:(x==("__classdict__":Str))=false:=by decide)
   (ha:∀v,assign (.Subscript (.Name x p1) b p2) X.env v=(do
     let ov ←holding [v] (eval (.Name x p1) X.env)
     let iv ←holding [v,ov] (eval b X.env)
     standAt p2
     holding [v,ov,iv] (setItem ov iv v)
     release [v,ov,iv] []):=by intro _;rfl)
   (hs:swapsWithSole [.Subscript (.Name x p1) b p2] e pos.line X.env=pure false:=by rfl) (hw:swappedStores [.Subscript (.Name x p1) b p2] e X.env=pure none:=by rfl)
   (h1:(assignEach [.Subscript (.Name x p1) b p2] X.env).map (·.2)=[assign (.Subscript (.Name x p1) b p2) X.env]:=by rfl):PFS X (.Assign [.Subscript (.Name x p1) b p2] e pos) (kF i fb fa):=by
 have hu:=hr.un
 refine PS.to (zWv he (zTT (qV hN hv hd hcd) hb (zSH (by omega)) ha) hs hw h1) ?_
 rintro D σ H ⟨G0,H0,G,ρ,o,good,hf,kk⟩
 unfold kF at hf
 obtain⟨de,g1,hf⟩:=Option.bind_eq_some_iff.mp hf
 obtain⟨d,g2,hf⟩:=Option.bind_eq_some_iff.mp hf
 obtain⟨kt,g3,hf⟩:=Option.bind_eq_some_iff.mp hf
 split at hf
 · rename_i kvs hi
   split at hf
   · rename_i hc
     obtain⟨hl,ho,hn⟩:=hc
     cases hf
     refine⟨G0,H0,G,ρ,_,good,g1,fun v H1 G1 s1 r1=>?_⟩
     obtain⟨q,ks,as,vs,e1,e2,e3,e4,e5,e6,e7⟩:=(good.step s1).dict hi
     refine⟨.ref q,e1,G0,H0,G1,ρ,_,good.step s1,g2,fun u H2 G2 s2 r2=>?_⟩
     obtain⟨q',ks',as',vs',f1,f2,f3,f4,f5,f6,f7⟩:=((good.step s1).step s2).dict hi
     rw[e1] at f1;cases f1
     obtain⟨hk,b',rfl⟩:=zYa g3 r2
     have hnk:kt∉ks':=fun z=>hn (by rw[f5.keys];exact List.mem_map.mpr ⟨kt,z,rfl⟩)
     refine⟨G2,q,b',d,kt,kvs,ks',as',vs',rfl,rfl,s2.sub,hk,r2,f2,f5,f6,hnk,hl,?_⟩
     refine kk _ _ G2 (s1.gg.trans s2.gg) (((good.step s1).step s2).wrD ho hi e1 (f5.snoc hk r2 (r1.mono s2.gg)) ?_)
     exact List.nodup_append.mpr ⟨f6,by simp,fun x hx y hy=>by rw[List.mem_singleton] at hy;subst hy;intro z;exact hnk (z ▸ hx)⟩
   · cases hf
 · cases hf
end
end L2
namespace L2
open PySem PySem.Spec PyProof.Rows
section
variable {prog:Program} {w:World} {A:Around} {E:Value->Shared->Prop} {s:Shared}
theorem zYt {id:String}{b:Builtin}{args:List Value}{kw:List (Str×Value)}{Q:Value->Shared->Prop}(hk:builtinKind id=none)(hp:plainId id=true)
   (hb:entryFor table id=some b) (ha:argsOk id ⟨args,kw⟩)
   (hc:wpAny (model prog w) A.in1 (b ⟨args,kw⟩) (fun fin s'=>match fin with
     | .done f=>(match (Except.ok f:Result) with | .ok (.ret v)=>Q v s' | .ok _=>False | .error e=>E e s')
     | .again c'=>c'.quiet=true/\codeAny (model prog w) A c' (fun r s'=>match r with | .ok (.ret v)=>Q v s' | .ok _=>False | .error e=>E e s') s') E s) :
   wpAny (model prog w) A (call (.builtin id) args kw) Q E s:=by
 refine wpAny_call (codeAny_call_builtin hp hb ?_)
 simp only[checkBuiltinCall,hk]
 cases hsig:Manifest.signature? id with
 | none=>exact wpAny_pure hc
 | some sig =>
   have h2:Bind.checkArgs id sig ⟨args,kw⟩=pure ():=by simpa only [argsOk,hsig] using ha
   show wpAny _ A.in1 (Bind.checkArgs id sig ⟨args,kw⟩) _ _ s
   rw[h2];exact wpAny_pure hc
theorem zUv (a d:Value):argsOk "min" ⟨[a],[("default",d)]⟩:=by unfold argsOk;kernel_rfl
theorem zRx {l:Addr}{d:Value}{Q:Value->Shared->Prop}(hh:A.handled=none)(hl:s.heap.IsList l #[])(h:∀h' tk,(∀b o,s.heap.get? b=some o->h'.get? b=some o)->Q d { s with heap:=h',toks:=tk }) :
   wpAny (model prog w) A (call (.builtin "min") [.ref l] [("default",d)]) Q E s:=by
 have hname:(toString "min"++toString ".loop":String)="min.loop":=by decide
 refine zYt F.kind_min F.plain_min F.entry_min (zUv _ _) ?_
 show wpAny _ A.in1 (Builtin.Builtins.bindParams "min" ["key","default"] 0 ⟨[],[("default",d)]⟩ >>= _) _ _ s
 refine wpAny_bind (wpAny_of_eq (show Builtin.Builtins.bindParams "min" ["key","default"] 0 ⟨[],[("default",d)]⟩=pure [none,some d] from rfl) ?_)
 refine wpAny_bind (wpAny_pure ?_)
 refine wpAny_bind (wpAny_pyIter_list hl ?_)
 refine wpAny_bind (wpAny_newObj_type ?_)
 rw[hname]
 have hne:l≠s.heap.objs.size:=by obtain⟨_,e,_⟩:=hl;exact Nat.ne_of_lt (Heap.lt_size e)
 refine wpAny_pure ⟨plainId_quiet F.plain_min_loop _,codeAny_builtin F.entry_min_loop ?_⟩
 rw[Around.under_plainId F.plain_min_loop _]
 show wpAny _ A.in1 (seqItems? (.ref _) >>= _) _ _ _
 refine wpAny_bind (wpAny_seqItems (Heap.get?_push_size _ rfl) rfl ?_)
 have W:=Walks.list (prog:=prog) (w:=w) (A:=A.in1) hh s.heap.objs.size l hne #[]
 refine wpAny_bind (wpAny_tryCatch (W.done _ _ _ ⟨⟨_,Heap.get?_push_of_some _ (Heap.get?_push_size _ rfl),rfl,rfl⟩,(hl.push _).push _⟩ fun h' tk hk=>?_))
 refine wpAny_bind (wpAny_rule ?_)
 refine wpAny_pure (h h' tk fun b o e=>hk b o ?_ (Heap.get?_push_of_some _ (Heap.get?_push_of_some _ e)))
 intro hm
 rcases List.mem_cons.mp hm with z | z
 · exact absurd (z ▸ Heap.lt_size e) (Nat.lt_irrefl _)
 · cases z
end
section
variable {X:Cx} {a:Expr} {ga:Lf} {pos p:Pos}
def zZT (g:Lf):Ef:=fun ρ=>(g ρ).bind fun ds=>if ds.isEmpty=true then some .non else none
theorem zSd {kp:Pos}{j}{p2:Pos}(hc:X.calm=true)(hg:Gl X "min")(hm:X.mg "min"=none)(h:zXh X a ga)(hs:starEach [a] X.env=[(false,eval a X.env)]:=by rfl) :
   PF X (.Call (.Name "min" p) [a] [⟨some "default",.Constant .none j p2,kp⟩] pos) (zZT ga):=by
 refine PE.to (t:=fun σ H Q=>zRJ X.K ga σ H fun v H1=>∃q,v = .ref q/\SqL X.K H1 q []/\Q .non H1) ?_ ?_
 · intro pins s σ H Q I h0
   refine wpAny_Call_Name_kw (qY I hg hm (u:=.builtin "min") (by rfl) ?_ (by decide) (by decide))
   refine callWith_kw ?_ (by rw[hs];rfl) (by rw[hs];rfl) (by rfl) (by rfl)
   refine spliced_more (thn (h pins s σ H _ I h0) fun u s1 ⟨v,H1,I1,rv,q,e,sq,q1⟩=>?_) (by rw[hs];rfl)
   subst e
   cases rv
   refine spliced_none ?_
   refine kws_cons (thn (zSB (X:=X) (j:=j) (pos:=p2) pins s1 σ H1 _ I1 (show tC .non σ H1 (fun v H2=>v = .non/\H2=H1) from⟨rfl,rfl⟩)) fun u2 s2 ⟨v2,H2,I2,rv2,e2,e3⟩=>?_)
   subst e2 e3
   cases rv2
   refine kws_nil ?_
   obtain⟨its,rl,pl,_⟩:=I2.list sq
   cases rl
   exact zRx (I2.ok.hd hc) pl.isList fun h' tk hk=>⟨.non,H2,I2.kept hk,rfl,q1⟩
 · rintro σ H Q ⟨G0,H0,G,ρ,d,good,hf,k⟩
   unfold zZT at hf
   obtain⟨ds,h1,hf⟩:=Option.bind_eq_some_iff.mp hf
   split at hf
   · rename_i he
     cases hf
     refine⟨G0,H0,G,ρ,ds,good,h1,fun q vs H1 G1 s1 e1 r1=>⟨q,rfl,?_,k _ _ G1 s1 (rep_non.mpr rfl)⟩⟩
     have:ds=[]:=by simpa using he
     subst this
     rw[reps_nil] at r1;subst r1
     exact s1.sub.seq e1
   · cases hf
end
end L2
namespace L2
open PySem PySem.Spec PyProof.Rows
section
variable {X:Cx} {a b c e:Expr} {fa fb:Ef} {ga:Lf} {pos p:Pos}
end
end L2
namespace L2
open PySem PySem.Spec PyProof.Rows
section
variable {prog:Program} {w:World} {A:Around} {R:Result->Shared->Prop} {I:Addr} {fp wr:List Addr} {n:Nat} {P:Nat->Value->Prop} {St:Nat->Heap->Prop}
end
section
variable {prog:Program} {w:World} {A:Around} {E:Value->Shared->Prop} {s:Shared}
end
section
variable {X:Cx} {a:Expr} {ga:Lf} {pos p:Pos}
end
end L2
namespace L2
open PySem PySem.Spec PyProof.Rows
section
variable {X:Cx} {a b c e tg elt iter:Expr} {fa fb:Ef} {pos p:Pos}
end
theorem Good.lend {K:PySem.W.Frag}{G0 H0 G H:Hp}{σ:St}{ρ:List B}(g:Good K G0 H0 G H σ ρ){i:Nat}{ds:List D}(e:ρ[i]?=some (.ow ds)):∃p vs,G p=none/\H p=some (.lst vs)/\Good K G0 H0 (upd G p (.lst vs)) H σ (zXC i ρ):=by
 have fe:zXC i ρ=ρ.set i (.fz (.lst ds)):=by unfold zXC;rw[e]
 rw[fe]
 · skip
   obtain⟨p,vs,h1,h2,h3,h4,h5⟩:=g.addr e
   have sG:Same G (upd G p (.lst vs)):=Same.new h3
   have st:Step G0 H0 (upd G p (.lst vs)) H:=by
     refine⟨g.st.hh,g.st.gg.trans sG,fun b o q=>?_,fun b hb=>?_⟩
     · by_cases z:b=p
       · subst z;rw[zD] at q;rw[h2];exact q
       · rw[yX z] at q;exact g.st.sub b o q
     · rw[yX (fun z:b=p=>hb (by rw[z];exact h4))];exact g.st.new b hb
   have vals:Paired (RB K H0 (upd G p (.lst vs)) H) σ (ρ.set i (.fz (.lst ds))):=by
     have key:∀(l:List (Option V)) (r:List B) (n:Nat),Paired (RB K H0 G H) l r->(∀j es,n+j≠i->r[j]?=some (.ow es)->l[j]?≠some (some (.ref p)))->(∀j,n+j=i->l[j]?=some (some (.ref p))) ->
         Paired (RB K H0 (upd G p (.lst vs)) H) l (if i < n then r else r.set (i - n) (.fz (.lst ds))):=by
       intro l r n q
       induction q generalizing n with
       | nil=>intro _ _;split<;>exact .nil
       | @cons o b l' r' q t ih =>
         intro hne hat
         have tl:=ih (n+1) (fun j es z e=>by have:=hne (j+1) es (by omega) (by simpa using e);simpa using this) (fun j z=>by have:=hat (j+1) (by omega);simpa using this)
         have keepq:(∀es,b = .ow es->o≠some (.ref p))->RB K H0 (upd G p (.lst vs)) H o b:=fun hb=>by
           cases q with
           | no=>exact .no
           | fz r=>exact .fz (r.mono sG)
           | @ow c vs' ds' c1 c2 c3 c4 =>
             have:c≠p:=fun z=>hb _ rfl (by rw[z])
             exact .ow c1 (by rw[yX this];exact c2) c3 (c4.mono sG)
           | @od c _ _ _ _ c1 c2 c3 c4 c5 c6 =>
             have:c≠p:=fun z=>by rw[z,h2] at c1;cases c1
             exact .od c1 (by rw[yX this];exact c2) c3 (c4.mono sG) c5 c6
         by_cases h1:i < n
         · rw[if_pos h1]
           rw[if_pos (by omega)] at tl
           exact .cons (keepq fun es e z=>hne 0 es (by omega) (by simp[e]) (by simp[z])) tl
         · rw[if_neg h1]
           by_cases h2:i=n
           · subst h2
             rw[if_pos (by omega)] at tl
             have:=hat 0 (by omega)
             simp at this
             subst this
             rw[Nat.sub_self]
             exact .cons (.fz (rep_lst.mpr ⟨p,vs,rfl,.of zD,h5.mono sG⟩)) tl
           · rw[if_neg (by omega)] at tl
             have e:i - n=(i - (n+1))+1:=by omega
             rw[e]
             exact .cons (keepq fun es e z=>hne 0 es (by omega) (by simp[e]) (by simp[z])) tl
     have v:=key σ ρ 0 g.vals (fun j es' z e' w=>by have:=g.apart j i p es' ds e' e w h1;omega) (fun j z=>by rw[show j=i by omega];exact h1)
     rw[if_neg (Nat.not_lt_zero _),Nat.sub_zero] at v
     exact v
   refine⟨p,vs,h3,h2,st,vals,fun j k b d1 d2 e1 e2 e3 e4=>?_⟩
   obtain⟨_,f1⟩:=wZ e1
   obtain⟨_,f2⟩:=wZ e2
   exact g.apart j k b d1 d2 f1 f2 e3 e4
mutual
def zNW:D->Bool
 | .non=>true
 | .bl _=>true
 | .int _=>true
 | .str _=>true
 | .tup ds=>zQP ds
 | _=>false
def zQP:List D->Bool
 | []=>true
 | d::r=>zNW d&&zQP r
end
def zU3 (G:Hp)(p:Addr):Hp:=fun a=>if a=p then none else G a
theorem pV {G:Hp}{p a:Addr}(h:a≠p):zU3 G p a=G a:=if_neg h
theorem aA {G:Hp}{p:Addr}:zU3 G p p=none:=if_pos rfl
theorem SqT.out {K:PySem.W.Frag}{G:Hp}{p a:Addr}{us vs:List V}(hp:G p=some (.lst us))(h:SqT K G a vs):SqT K (zU3 G p) a vs:=by
 rcases h with(h | ⟨o,h⟩) | h
 · exact .inl (.inl (by rw[pV (fun z=>by rw[z,hp] at h;cases h)];exact h))
 · exact .inl (.inr ⟨o,by rw[pV (fun z=>by rw[z,hp] at h;cases h)];exact h⟩)
 · exact .inr h
theorem Step.back {G H G1 H':Hp}{p:Addr}{us:List V}(s:Step (upd G p (.lst us)) H G1 H')(hG:G p=none)(hH:H p=some (.lst us)):Step G H (zU3 G1 p) H'/\G1 p=some (.lst us):=by
 refine⟨⟨s.hh,fun b u e=>?_,fun b u e=>?_,fun a ha=>?_⟩,s.gg p _ zD⟩
 · have hb:b≠p:=fun z=>by rw[z,hG] at e;cases e
   rw[pV hb]
   exact s.gg b u (by rw[yX hb];exact e)
 · by_cases hb:b=p
   · rw[hb,aA] at e;cases e
   · rw[pV hb] at e;exact s.sub b u e
 · by_cases hb:a=p
   · rw[hb,aA,hG]
   · rw[pV hb,s.new a ha,yX hb]
section
variable {X:Cx} {e:Expr} {fa:Ef} {ga:Lf} {ta:Tf}
def zSg (i:Nat)(ρ:List B):Bool:=match ρ[i]? with | some (.ow _)=>true | _=>false
theorem zSN {i:Nat}{ρ:List B}(h:zSg i ρ=true):∃ds,ρ[i]?=some (.ow ds):=by
 unfold zSg at h
 split at h
 · exact⟨_,by assumption⟩
 · cases h
end
end L2
namespace L2
open PySem PySem.Spec PyProof.Rows
section
variable {X:Cx} {pins:List (Addr×Obj)} {σ:St} {H G:Hp} {s:Shared}
end
section
variable {X:Cx} {k:Nat}
end
end L2
namespace L2
open PySem PySem.Spec PyProof.Rows
abbrev Jf:=List B->Option Str
section
variable {X:Cx} {e c a:Expr} {es:List Expr} {fa fb:Ef} {g:Jf} {pos p:Pos}
end
end L2
namespace L2
open PySem PySem.Spec PyProof.Rows
section
variable {prog:Program} {w:World} {A:Around} {E:Value->Shared->Prop} {s:Shared}
end
section
variable {X:Cx} {a b c e tg elt iter:Expr} {fa fb:Ef} {pos p:Pos}
end
end L2
namespace L2
open PySem PySem.Spec PyProof.Rows
section
variable {prog:Program} {w:World} {A:Around} {E:Value->Shared->Prop} {s:Shared}
end
section
variable {X:Cx} {a:Expr} {fa:Ef} {pos p:Pos}
end
end L2
namespace L2
open PySem PySem.Spec PyProof.Rows
open PySem.Builtin PySem.Builtin.Str
theorem zZL:∀l:List (Str×Tok),Vals ((l.map (·.1)).map V.str) (strValues l)
 | []=>.nil
 | (x,t)::r=>.cons ⟨t,rfl⟩ (zZL r)
section
variable {X:Cx} {e c a:Expr} {es:List Expr} {fa fb:Ef} {pos p:Pos}
def zST:V->List V->Hp->VK->Prop:=fun x vs H Q=>∃z y,x = .str z/\vs=[.str y]/\1<=y.length/\z.length<=100000/\∀p,H p=none->Q (.ref p) (upd H p (.lst ((Txt.split z y).map V.str)))
theorem zYc:MtR X "str.split" zST:=by
 intro pins s σ H x xs v us Q I rx rv h
 obtain⟨z,y,rfl,rfl,hy1,hz,q⟩:=h
 obtain⟨t,rfl⟩:=rx
 obtain⟨w,rfl,u,rfl⟩:=rv.one
 have hy:(y.length==0)=false:=by rw[beq_eq_false_iff_ne];omega
 have hsl:sizeLine=sizeLine:=rfl
 have hlen:=split_le z y
 have go:∀(l:List (Str×Tok)) (k:Nat),l.map (·.1)=Txt.split z y->EP X pins σ Q (.ref s.heap.objs.size) { s with toks:=k,heap:=s.heap.push { cls:=.type "list",data:=.seq (strValues l).toArray } }:=by
   intro l k hl
   refine⟨.ref s.heap.objs.size,_,I.laid (o:=.lst ((Txt.split z y).map V.str)) (fun b o e=>Heap.get?_push_of_some _ e) (Nat.le_refl _) ?_,rfl,q _ I.fresh⟩
   exact⟨by rw[List.length_map,sizeLine_eq];omega,_,_,by rw[←hl];exact zZL l,Heap.get?_push_size _ rfl⟩
 have hn:(partsBetween z (occurrences z y 0 z.length (z.length+1)) y.length).length<=sizeLine:=by
   have e1:=StrLaws.occ_length_le z y 0 z.length (z.length+1)
   rw[length_partsBetween,sizeLine_eq];omega
 cases h1:(decide (z.length < y.length)||decide (strKind z < strKind y))
 · cases hf:(occurrences z y 0 z.length (z.length+1)).isEmpty
   · refine call_meets F.slot_str_split (typeIs_str _ _ _) F.entry_str_split (F.args_str_split_2 _ _) (meets_str_split_sep z y t u h1 hy hf (by rw[sizeLine_eq];omega) hn) ?_
     show wants _ _ _ { s with toks:=_,heap:=s.heap.push { cls:=.type "list",data:=.seq (strsFrom s.toks (partsBetween z (occurrences z y 0 z.length (z.length+1)) y.length)).toArray } }
     rw[strsFrom_eq]
     exact go (PySem.numbered s.toks _) _ ((numbered_texts _ _).trans ((if_neg (ne_true_of_eq_false h1)).trans (if_neg (ne_true_of_eq_false hf))).symm)
   · exact call_meets F.slot_str_split (typeIs_str _ _ _) F.entry_str_split (F.args_str_split_2 _ _) (meets_str_split_not_found z y t u h1 hy hf) (go [(z,t)] s.toks ((if_neg (ne_true_of_eq_false h1)).trans (if_pos hf)).symm)
 · exact call_meets F.slot_str_split (typeIs_str _ _ _) F.entry_str_split (F.args_str_split_2 _ _) (meets_str_split_cannot_occur z y t u h1) (go [(z,t)] s.toks (if_pos h1).symm)
theorem zZZ {K:PySem.W.Frag}{G:Hp}:∀ys:List Str,Reps K G (ys.map D.str) (ys.map V.str)
 | []=>by rw[List.map_nil,List.map_nil,reps_nil]
 | y::r=>by rw[List.map_cons,List.map_cons];exact reps_cons.mpr ⟨_,_,rfl,rep_str.mpr rfl,zZZ r⟩
def jN (x y:D):Option (List D):=match x,y with | .str z,.str m=>if 1<=m.length/\z.length<=100000 then some ((Txt.split z m).map D.str) else none | _,_=>none
def jL (fa fb:Ef):Lf:=fun ρ=>(fa ρ).bind fun x=>(fb ρ).bind fun y=>jN x y
theorem zXx (ht:PE X c (tBM X.K "str" zST (tF X.K fa) (cZ (tF X.K fb) zWh))):PFr X c (jL fa fb):=by
 refine PE.toR ht ?_
 rintro σ H Q ⟨G0,H0,G,ρ,d,good,hf,k⟩
 unfold jL at hf
 obtain⟨x,h1,hf⟩:=Option.bind_eq_some_iff.mp hf
 obtain⟨y,h2,hf⟩:=Option.bind_eq_some_iff.mp hf
 unfold jN at hf
 split at hf
 · split at hf
   · rename_i hz
     cases hf
     refine⟨G0,H0,G,ρ,_,good,h1,fun u H1 G1 s1 r1=>?_⟩
     have r1:=rep_str.mp r1
     subst r1
     refine⟨rfl,G0,H0,G1,ρ,_,good.step s1,h2,fun v H2 G2 s2 r2=>?_⟩
     have r2:=rep_str.mp r2
     subst r2
     refine⟨_,_,rfl,rfl,hz.1,hz.2,fun l hl=>?_⟩
     exact k l _ _ G2 ((s1.trans s2).trans (Step.own s2.sub hl)) ((s1.trans s2).hh.free hl) zD (s2.sub.free hl) (zZZ _)
   · cases hf
 · cases hf
end
theorem zZA {c:Nat}:∀ {x x' r r':List Nat},c∉x->c∉x'->x++c::r=x'++c::r'->x=x'/\r=r'
 | [],[],_,_,_,_,h=>⟨rfl,(List.cons.inj h).2⟩
 | [],b::x',_,_,_,h2,h=>absurd (by rw[(List.cons.inj h).1];exact List.mem_cons_self) h2
 | a::x,[],_,_,h1,_,h=>absurd (by rw[←(List.cons.inj h).1];exact List.mem_cons_self) h1
 | a::x,b::x',_,_,h1,h2,h=>by
   obtain⟨e1,e2⟩:=List.cons.inj h
   obtain⟨e3,e4⟩:=zZA (fun z=>h1 (List.mem_cons_of_mem _ z)) (fun z=>h2 (List.mem_cons_of_mem _ z)) e2
   exact⟨by rw[e1,e3],e4⟩
def tP (c:Nat)(y:Str):Prop:=c∉y.cps.toList
theorem oP (c:Nat)(x y:Str)(r:List Str):(Str.join ⟨#[c]⟩ (x::y::r)).cps.toList=x.cps.toList++c::(Str.join ⟨#[c]⟩ (y::r)).cps.toList:=by
 show(x++⟨#[c]⟩++Str.join ⟨#[c]⟩ (y::r)).cps.toList=_
 rw[Str.cps_append,Str.cps_append]
 simp
theorem jU {c:Nat}{x:Str}{z y:Str}{r:List Str}(hx:tP c x):x≠Str.join ⟨#[c]⟩ (z::y::r):=fun e=>by
 have:=congrArg (fun q:Str=>q.cps.toList) e
 rw[oP] at this
 exact hx (by rw[this];simp)
theorem zXB {c:Nat}:∀ {xs ys:List Str},(∀x∈xs,tP c x)->(∀y∈ys,tP c y)->xs≠[]->ys≠[]->Str.join ⟨#[c]⟩ xs=Str.join ⟨#[c]⟩ ys->xs=ys
 | [],_,_,_,h,_,_=>absurd rfl h
 | _,[],_,_,_,h,_=>absurd rfl h
 | [x],[y],_,_,_,_,h=>by rw[show x=y from h]
 | [x],y::z::r,hx,_,_,_,h=>absurd h (jU (hx x List.mem_cons_self))
 | x::z::r,[y],_,hy,_,_,h=>absurd h.symm (jU (hy y List.mem_cons_self))
 | x::z::r,y::w::q,hx,hy,_,_,h=>by
   have e:=congrArg (fun q:Str=>q.cps.toList) h
   rw[oP,oP] at e
   obtain⟨e1,e2⟩:=zZA (hx x List.mem_cons_self) (hy y List.mem_cons_self) e
   have e3:x=y:=by cases x;cases y;simp at e1;rw[e1]
   have e4:Str.join ⟨#[c]⟩ (z::r)=Str.join ⟨#[c]⟩ (w::q):=by
     generalize Str.join ⟨#[c]⟩ (z::r)=u at e2
     generalize Str.join ⟨#[c]⟩ (w::q)=v at e2
     cases u;cases v;simp at e2;rw[e2]
   rw[e3,zXB (fun x h=>hx x (List.mem_cons_of_mem _ h)) (fun x h=>hy x (List.mem_cons_of_mem _ h)) (List.cons_ne_nil _ _) (List.cons_ne_nil _ _) e4]
theorem jH (c:Nat)(ys:List Str)(hy:∀y∈ys,tP c y)(hn:ys≠[]):Txt.split (Str.join ⟨#[c]⟩ ys) ⟨#[c]⟩=ys:=by
 refine zXB (fun x hx=>StrLaws.split_free _ c x hx) hy (fun z=>?_) hn (StrLaws.join_split _ _)
 have:=split_pos (Str.join ⟨#[c]⟩ ys) ⟨#[c]⟩
 rw[z] at this
 simp at this
end L2
namespace L2
open PySem PySem.Spec PyProof.Rows
open PySem.Builtin PySem.Builtin.Str
section
variable {X:Cx} {a c:Expr} {fa fb:Ef} {ga:Lf} {pos p:Pos}
end
section
variable {P:Program} {w:World} {K:PySem.W.Frag} {mg:Str->Option Value} {base:Heap} {k:Nat} {f:Addr} {fd:FuncData} {ps:List Str}
end
end L2
namespace L2
open PySem PySem.Spec PyProof.Rows
section
variable {X:Cx} {a b elt iter tg:Expr} {ifs:List Expr} {gi:Lf} {pos p:Pos} {k:Nat}
end
end L2
namespace L2
open PySem PySem.Spec PyProof.Rows
section
variable {X:Cx} {a b c e tg:Expr} {fa fb:Ef} {pos p:Pos} {k:Nat}
end
end L2
namespace L2
open PySem PySem.Spec PyProof.Rows
def eF:Value->Option D
 | .none=>some .non
 | .bool b=>some (.bl b)
 | .int i _=>some (.int i)
 | .str x _=>some (.str x)
 | _=>none
theorem zTK {u:Value}{d:D}(h:eF u=some d):∃v,RelV v u/\∀K G,Rep K G d v:=by
 cases u<;>first | cases h | skip
 · exact⟨.non,rfl,fun _ _=>rep_non.mpr rfl⟩
 · exact⟨.bl _,rfl,fun _ _=>rep_bl.mpr rfl⟩
 · exact⟨.int _,⟨_,rfl⟩,fun _ _=>rep_int.mpr rfl⟩
 · exact⟨.str _,⟨_,rfl⟩,fun _ _=>rep_str.mpr rfl⟩
def zWV (P:Params)(l:List (Str×Tok×Value)):List DictEntry:=l.map fun p=>⟨PyData.keyHash P p.1,.str p.1 p.2.1,p.2.2⟩
def kvC (l:List (Str×Tok×Value)):List (Str×D):=l.map fun p=>(p.1,(eF p.2.2).getD .non)
structure DictC (w:World)(K:PySem.W.Frag)(a:Addr)(kvs:List (Str×D)):Prop where
 sys:(a==sysModules)=false
 at':∃(l:List (Str×Tok×Value)) (n:Nat),K.lookup a=some ⟨.type "dict",none,.dict (zWV w.params l).toArray n,#[]⟩/\kvs=kvC l/\(l.all fun p=>(eF p.2.2).isSome)=true
theorem zV1 {P:Params}:∀l:List (Str×Tok×Value),PySem.W.KeysLit P (zWV P l)
 | []=>trivial
 | (x,t,v)::r=>⟨⟨x,t,rfl,rfl⟩,zV1 r⟩
theorem zS9 {P:Params}(x:Str):∀l:List (Str×Tok×Value),(l.all fun p=>(eF p.2.2).isSome)=true ->
   match (kvC l).lookup x with
   | some d=>∃u,findBy Value.isStrOf (zWV P l).toArray x=some u/\eF u=some d
   | none=>findBy Value.isStrOf (zWV P l).toArray x=none
 | [],_=>rfl
 | (y,t,v)::r,h=>by
   have h':=Bool.and_eq_true_iff.mp (by simpa using h:((eF v).isSome&&(r.all fun p=>(eF p.2.2).isSome))=true)
   have ih:=zS9 (P:=P) x r h'.2
   show match ((y,(eF v).getD .non)::kvC r).lookup x with | some d=>_ | none=>_
   unfold findBy at ih ⊢
   rw[List.find?_toArray] at ih ⊢
   show match ((y,(eF v).getD .non)::kvC r).lookup x with
     | some d=>∃u,(((⟨PyData.keyHash P y,.str y t,v⟩:DictEntry)::zWV P r).find? fun e=>Value.isStrOf x e.key).map (·.val)=some u/\eF u=some d
     | none=>(((⟨PyData.keyHash P y,.str y t,v⟩:DictEntry)::zWV P r).find? fun e=>Value.isStrOf x e.key).map (·.val)=none
   by_cases e:y=x
   · subst e
     have q:Value.isStrOf y (.str y t)=true:=beq_self_eq_true y
     rw[List.lookup_cons,beq_self_eq_true,List.find?_cons]
     rw[show(Value.isStrOf y (⟨PyData.keyHash P y,.str y t,v⟩:DictEntry).key)=true from q]
     obtain⟨d,hd⟩:=Option.isSome_iff_exists.mp h'.1
     exact⟨v,rfl,by rw[hd];rfl⟩
   · have q:Value.isStrOf x (.str y t)=false:=beq_eq_false_iff_ne.mpr e
     have q2:(x==y)=false:=beq_eq_false_iff_ne.mpr (Ne.symm e)
     rw[List.lookup_cons,q2,List.find?_cons,show(Value.isStrOf x (⟨PyData.keyHash P y,.str y t,v⟩:DictEntry).key)=false from q]
     exact ih
section
variable {X:Cx} {a b:Expr} {fa fb:Ef} {pos p:Pos} {x:Str} {da:Addr} {kvs:List (Str×D)}
variable {pins:List (Addr×Obj)} {σ:St} {H:Hp} {s:Shared}
theorem DictC.map (h:DictC X.w X.K da kvs)(I:Inv X pins σ H s):∃f:Str->Option Value,s.heap.MapOf (strKind X.prog X.w) da f/\∀y,match kvs.lookup y with | some d=>∃u,f y=some u/\eF u=some d | none=>f y=none:=by
 obtain⟨l,n,h1,h2,h3⟩:=h.at'
 subst h2
 exact⟨_,PySem.W.mapOf_K I.kIn h1 (by simpa using zV1 l),fun y=>zS9 y l h3⟩
def zOZ (X:Cx)(kvs:List (Str×D))(da:Addr)(c:Bool):R2:=fun v y H Q=>∃z,v = .str z/\y = .ref da/\Q (.bl (c==(kvs.lookup z).isSome)) H
theorem zU4 (h:DictC X.w X.K da kvs):OpR X (compareOp .NotIn) (zOZ X kvs da false):=by
 intro pins s σ H x y v u Q I rx ry ⟨z,e1,e2,q⟩
 subst e1 e2
 obtain⟨t,rfl⟩:=rx
 cases ry
 obtain⟨f,hm,hf⟩:=h.map I
 refine wpAny_notIn_of (strKind_is X.prog X.w z t) h.sys hm ?_
 have e:(!(f z).isSome)=(false==(kvs.lookup z).isSome):=by
   have:=hf z
   cases hk:kvs.lookup z with
   | none=>rw[hk] at this;rw[this];rfl
   | some d=>rw[hk] at this;obtain⟨u,hu,_⟩:=this;rw[hu];rfl
 rw[e]
 exact⟨.bl _,H,I.tok _,rfl,q⟩
def zWI (c:Bool)(kvs:List (Str×D))(fa:Ef):Tf:=fun ρ=>(fa ρ).bind fun d=>match d with | .str z=>some (c==(kvs.lookup z).isSome) | _=>none
theorem zPL {c:Bool}{σ:St}{H:Hp}{Q:Bool->Hp->Prop}(q:tFT X.K (zWI c kvs fa) σ H Q):zQF (tOp (zOZ X kvs da c) (tF X.K fa) (tC (.ref da))) σ H Q:=by
 obtain⟨G0,H0,G,ρ,c',good,hf,kk⟩:=q
 unfold zWI at hf
 obtain⟨d,h1,hf⟩:=Option.bind_eq_some_iff.mp hf
 split at hf
 · rename_i z
   cases hf
   refine⟨G0,H0,G,ρ,_,good,h1,fun u H1 G1 s1 r1=>?_⟩
   exact⟨z,rep_str.mp r1,rfl,_,rfl,kk _ G1 s1⟩
 · cases hf
theorem zZk (h:DictC X.w X.K da kvs)(hg:Gl X x)(hx:X.mg x=some (.ref da))(ha:PF X a fa)(hd:(x==("__debug__":Str))=false:=by decide)
   (hm:behindInMarks .NotIn (.Name x p)=false:=by first | exact dO _ | (with_unfolding_all rfl)):PFT X (.Compare a [.NotIn] [.Name x p] pos) (zWI false kvs fa) :=
 PT.to (dW (zU4 h) ha (dX (v:=.ref da) hg hx rfl hd) hm) fun _ _ _=>zPL
def zNL (X:Cx)(kvs:List (Str×D))(da:Addr):R2:=fun v y H Q=>∃z d,v = .ref da/\y = .str z/\kvs.lookup z=some d/\∀o,(∀G,Rep X.K G d o)->Q o H
theorem zOq (h:DictC X.w X.K da kvs):IxR X (zNL X kvs da):=by
 intro value slice pins s σ H x y v u Q I rx ry ⟨z,d,e1,e2,e3,q⟩ hs
 subst e1 e2
 cases rx
 obtain⟨t,rfl⟩:=ry
 obtain⟨f,hm,hf⟩:=h.map I
 have:=hf z
 rw[e3] at this
 obtain⟨u,hu,hd⟩:=this
 obtain⟨o,ro,rep⟩:=zTK hd
 exact tail_any hm.typeIs slot_dict_getitem.lookup (wpAny_getItem_of (strKind_is X.prog X.w z t) hm hu ⟨o,H,I.tok _,ro,q o fun G=>rep _ G⟩) hs
def zQS (kvs:List (Str×D))(fb:Ef):Ef:=fun ρ=>(fb ρ).bind fun d=>match d with | .str z=>kvs.lookup z | _=>none
theorem zSF (h:DictC X.w X.K da kvs)(hg:Gl X x)(hx:X.mg x=some (.ref da))(hb:PF X b fb)(hd:(x==("__debug__":Str))=false:=by decide)(hs:zYO b:=by exact fun _ _=>rfl):PF X (.Subscript (.Name x p) b pos) (zQS kvs fb):=by
 refine PE.to (zQK (zOq h) (dX (v:=.ref da) hg hx rfl hd) hb hs) ?_
 rintro σ H Q ⟨G0,H0,G,ρ,d,good,hf,k⟩
 unfold zQS at hf
 obtain⟨y,h1,hf⟩:=Option.bind_eq_some_iff.mp hf
 split at hf
 · rename_i z
   refine⟨G0,H0,G,ρ,_,good,h1,fun u H1 G1 s1 r1=>⟨z,d,rfl,rep_str.mp r1,hf,fun o ho=>k _ _ G1 s1 (ho _)⟩⟩
 · cases hf
theorem zYo {w:World}{K:PySem.W.Frag}{n:Nat}(l:List (Str×Tok×Value))(h:K.lookup da=some ⟨.type "dict",none,.dict (zWV w.params l).toArray n,#[]⟩)(hs:(da==sysModules)=false)(hl:(l.all fun p=>(eF p.2.2).isSome)=true:=by rfl):DictC w K da (kvC l) :=
 ⟨hs,l,n,h,rfl,hl⟩
def zVk (i:Nat):Sf:=fun ρ=>match ρ[i]? with
 | some (.ow ds)=>if ds.length<=lim then if ds.isEmpty then none else some (.nx (ρ.set i (.ow ds.dropLast))) else none
 | _=>none
theorem lR {α:Type}(l:List α):l.dropLast=l.eraseIdx (l.length - 1):=by rw[List.eraseIdx_length_sub_one]
end
end L2
namespace L2
open PySem PySem.Spec PyProof.Rows
mutual
def zZE:D->Bool
 | .tup ds=>vS ds
 | .obj _ _ ds=>vS ds
 | .lst _=>false
 | .exc _ _ _=>false
 | _=>true
def vS:List D->Bool
 | []=>true
 | d::r=>zZE d&&vS r
end
mutual
theorem Rep.out2 {K:PySem.W.Frag}{G:Hp}{p:Addr}{us:List V}(hp:G p=some (.lst us)):∀(d:D) (v:V),zZE d=true->Rep K G d v->Rep K (zU3 G p) d v
 | .non,_,_,h=>by unfold Rep at h ⊢;exact h
 | .bl _,_,_,h=>by unfold Rep at h ⊢;exact h
 | .int _,_,_,h=>by unfold Rep at h ⊢;exact h
 | .str _,_,_,h=>by unfold Rep at h ⊢;exact h
 | .tup ds,_,f,h=>by
   unfold Rep at h ⊢
   obtain⟨a,vs,h1,h2,h3⟩:=h
   exact⟨a,vs,h1,SqT.out hp h2,Reps.out2 hp ds vs (by unfold zZE at f;exact f) h3⟩
 | .lst ds,_,f,_=>by unfold zZE at f;cases f
 | .obj c ns ds,_,f,h=>by
   unfold Rep at h ⊢
   obtain⟨C,a,dx,vs,h0,h1,h2,h3,h4⟩:=h
   exact⟨C,a,dx,vs,h0,h1,by rw[pV (fun z=>by rw[z,hp] at h2;cases h2)];exact h2,h3,Reps.out2 hp ds vs (by unfold zZE at f;exact f) h4⟩
 | .exc C ns ds,_,f,_=>by unfold zZE at f;cases f
theorem Reps.out2 {K:PySem.W.Frag}{G:Hp}{p:Addr}{us:List V}(hp:G p=some (.lst us)):∀(ds:List D) (vs:List V),vS ds=true->Reps K G ds vs->Reps K (zU3 G p) ds vs
 | [],_,_,h=>by unfold Reps at h ⊢;exact h
 | d::r,_,f,h=>by
   unfold Reps at h ⊢
   obtain⟨v,vr,h1,h2,h3⟩:=h
   unfold vS at f
   rw[Bool.and_eq_true] at f
   exact⟨v,vr,h1,Rep.out2 hp d v f.1 h2,Reps.out2 hp r vr f.2 h3⟩
end
section
variable {X:Cx} {a b c e:Expr} {es:List Expr} {fa fb fc:Ef} {ga gb:Lf} {pos p:Pos} {st:Stmt}
def zVP (K:PySem.W.Frag)(C:Addr)(ns:List Str)(fl:Str)(g l:Lf):TS:=fun DD σ H=>∃(G0 H0 G:Hp) (ρ:List B) (p dx:Addr) (pre:List Str) (us:List V) (xs ds es:List D),
 Good K G0 H0 G H σ ρ/\bT ρ/\σ[0]?=some (some (.ref p))/\H p=some (.ins C dx (pre.zip us))/\G p=none/\H0 p=none/\pre.length=us.length/\(pre++(ns++[fl])).Nodup/\(pre++(ns++[fl])).length<=900/\Reps K G xs us/\g ρ=some ds/\l ρ=some es /\
 ∀H' G' vs q ws,Step G0 H0 G' H'->H' p=some (.ins C dx ((pre++(ns++[fl])).zip (vs++[.ref q])))->G' p=none->Reps K G' (xs++ds) vs->H0 q=none->H' q=some (.lst ws)->G' q=none->Reps K G' es ws->DD.nx σ H'
theorem zVf {C:Addr}{fl x:Str}{pos' p1:Pos}(hcl:Cls X.K C)(hn:NoAttr X.K C fl)(hself:X.N[0]?=some x)(hvis:Vis X.env.scope x)(he:PFr X e ga)(hd:(x==("__debug__":Str))=false:=by decide)(hcd:(x==("__classdict__":Str))=false:=by decide)
   (hs:swapsWith e (some (.Attribute (.Name x p1) fl pos')) pos.line X.env=pure false:=by rfl):PSs X [.Assign [.Attribute (.Name x p1) fl pos'] e pos] (zVP X.K C [] fl zT ga):=by
 intro pins s σ H D I h
 refine hV (zWc (qV hself hvis hd hcd) he hs) zYK pins s σ H D I ?_
 obtain⟨G0,H0,G,ρ,p,dx,pre,us,xs,ds,es,good,now,hself,hp,gp,h0,hl,nd,hz,rs,hg,hes,k⟩:=h
 cases hg
 rw[List.nil_append] at nd hz k
 have hlp:pre.length < 1000:=by rw[List.length_append] at hz;omega
 have hnp:fl∉pre:=fun z=>(List.nodup_append.mp nd).2.2 fl z fl List.mem_cons_self rfl
 refine⟨G0,H0,G,ρ,es,good,hes,fun q ws H1 G1 s1 hq0 hq1 hq2 r1=>⟨.ref p,hself,p,C,dx,pre.zip us,rfl,s1.hh _ _ hp,hcl,hn,?_,?_⟩⟩
 · rw[List.length_zip];omega
 · have hne:H p≠none:=by rw[hp];exact fun z=>nomatch z
   have hqp:q≠p:=fun z=>hne (by rw[←z];exact hq0)
   have gp1:G1 p=none:=(s1.new p hne).trans gp
   have good2:=(good.step s1).wrX now gp1 h0 (o:=.ins C dx (mX fl (.ref q) (pre.zip us)))
   refine k _ G1 us q ws good2.st ?_ gp1 ?_ ?_ ?_ hq2 r1
   · rw[zD,iB hl hnp]
   · rw[List.append_nil];exact rs.mono s1.gg
   · cases z:H0 q with
     | none=>rfl
     | some o=>have:=good.st.hh q o z;rw[hq0] at this;cases this
   · rw[yX hqp];exact hq1
theorem gO {C:Addr}{f fl x:Str}{ns:List Str}{g l:Lf}{rest:List Stmt}{pos' p1:Pos}(hcl:Cls X.K C)(hn:NoAttr X.K C f)(hself:X.N[0]?=some x)(hvis:Vis X.env.scope x)(he:PF X e fa)(hr:PSs X rest (zVP X.K C ns fl g l))(hd:(x==("__debug__":Str))=false:=by decide)(hcd:(x==("__classdict__":Str))=false:=by decide)
   (hs:swapsWith e (some (.Attribute (.Name x p1) f pos')) pos.line X.env=pure false:=by rfl):PSs X (.Assign [.Attribute (.Name x p1) f pos'] e pos::rest) (zVP X.K C (f::ns) fl (zZ fa g) l):=by
 intro pins s σ H D I h
 refine hV (zWc (qV hself hvis hd hcd) he hs) hr pins s σ H D I ?_
 obtain⟨G0,H0,G,ρ,p,dx,pre,us,xs,ds,es,good,now,hself,hp,gp,h0,hl,nd,hz,rs,hg,hes,k⟩:=h
 obtain⟨d,dr,h1,h2,rfl⟩:=gU hg
 have hlp:pre.length < 1000:=by rw[List.length_append] at hz;omega
 have hnp:f∉pre:=fun z=>(List.nodup_append.mp nd).2.2 f z f List.mem_cons_self rfl
 have e1:pre++(f::ns++[fl])=(pre++[f])++(ns++[fl]):=by simp
 refine⟨G0,H0,G,ρ,d,good,h1,fun v H1 G1 s1 r1=>⟨.ref p,hself,p,C,dx,pre.zip us,rfl,s1.hh _ _ hp,hcl,hn,?_,?_⟩⟩
 · rw[List.length_zip];omega
 · have hne:H p≠none:=by rw[hp];exact fun z=>nomatch z
   have gp1:G1 p=none:=(s1.new p hne).trans gp
   refine⟨G0,H0,G1,ρ,p,dx,pre++[f],us++[v],xs++[d],dr,es,(good.step s1).wrX now gp1 h0,now,hself,?_,gp1,h0,by rw[List.length_append,List.length_append,hl];rfl,by rw[←e1];exact nd,by rw[←e1];exact hz,(rs.mono s1.gg).snoc r1,h2,hes,fun H' G' vs q ws st q1 q2 q3 q4 q5 q6 q7=>?_⟩
   · rw[zD,iB hl hnp]
   · refine k H' G' vs q ws st (by rw[e1];exact q1) q2 ?_ q4 q5 q6 q7
     rw[show xs++d::dr=(xs++[d])++dr by simp]
     exact q3
end
def zPJ (K:PySem.W.Frag)(C:Addr)(ns:List Str)(fl:Str)(n:Nat)(f l:List D->Option (List D)):Sp:=fun vs H Q _=>∃(p dx:Addr) (rest:List V) (G H0:Hp) (ds xs es:List D),vs = .ref p::rest/\H=upd (upd H0 dx (.own p)) p (.ins C dx [])/\H0 p=none/\H0 dx=none/\dx≠p/\Same G H0/\Reps K G ds rest/\ds.length=n/\f ds=some xs/\l ds=some es /\
 ∀H' G' us q ws,Step G H0 G' H'->H' p=some (.ins C dx ((ns++[fl]).zip (us++[.ref q])))->G' p=none->Reps K G' xs us->H0 q=none->H' q=some (.lst ws)->G' q=none->Reps K G' es ws->Q .non H'
section
variable {P:Program} {w:World} {K:PySem.W.Frag} {mg:Str->Option Value} {base:Heap} {x qual:Str} {st:Stmt} {f C:Addr} {fd:FuncData} {N ps ns:List Str} {k:Nat} {sf fl:Str}
theorem zS4 {g l:Lf}(F:Fun K x qual st f fd)(S:FnScope N (sf::ps) (zX st))(hnd:(ns++[fl]).Nodup)(hlen:(ns++[fl]).length<=900)
   (hb:∀(cdv:Value) (A:Around) (outer:List Env) (s:Shared) (H:Hp) (E:XK),Room k (A.deeper (envOfC qual (zX st) s.heap.objs.size f cdv))->PSs (aH CX0 P w K mg base N qual (zX st) f cdv A outer s H E).nox (zQ st) (zVP K C ns fl g l)) :
   FnOk P w K mg base CX0 (k+1) f fd (sf::ps) (zPJ K C ns fl ps.length (fun ds=>g (qS N.length ds)) fun ds=>l (qS N.length ds)):=by
 refine F.ok S (fun vs H Q E h=>?_) (fun cdv A outer s H vs Q E hr h=>⟨_,hb cdv A outer s H E hr,?_⟩)
 · obtain⟨p,dx,rest,G,H0,ds,xs,es,rfl,_,_,_,_,_,rs,hl,_⟩:=h
   rw[List.length_cons,List.length_cons,←rs.length,hl]
 · obtain⟨p,dx,rest,G,H0,ds,xs,es,rfl,rfl,h1,h2,h3,sub,rs,hl,hf,hes,k⟩:=h
   have hne:p≠dx:=h3.symm
   have hp1:(upd H0 dx (.own p)) p=none:=by rw[yX hne];exact h1
   have st1:Step G H0 G (upd H0 dx (.own p)):=Step.own sub h2
   have st2:Step G H0 G (upd (upd H0 dx (.own p)) p (.ins C dx [])):=st1.trans (Step.own st1.sub hp1)
   have good:Good K G H0 G (upd (upd H0 dx (.own p)) p (.ins C dx [])) (pT N (.ref p::rest)) (qS N.length ds):=by
     refine⟨st2,?_,fun i j a es es' q1=>absurd q1 ((eD _ ds).1 i es)⟩
     unfold pT qS
     rw[List.map_cons,List.length_cons,List.cons_append,←rs.length]
     exact .cons .no (gE _ rs)
   refine⟨G,H0,G,_,p,dx,[],[],[],xs,es,good,eD _ ds,rfl,zD,sub.free h1,h1,rfl,hnd,hlen,reps_nil.mpr rfl,hf,hes,fun H' G' us q ws s' q1 q2 q3 q4 q5 q6 q7=>k H' G' us q ws s' q1 q2 q3 q4 q5 q6 q7⟩
end
section
variable {X:Cx} {a b c e:Expr} {es:List Expr} {ga gb:Lf} {pos p:Pos}
def jM (i:Nat)(c:Str)(ns:List Str)(fl:Str)(n:Nat)(f l:List D->Option (List D))(g:Lf):Ef:=fun ρ=>if zSg i ρ then(g (zXC i ρ)).bind fun ds=>if ds.length=n then(f ds).bind fun xs=>(l ds).bind fun es=>if ns.length=xs.length/\vS xs=true/\vS es=true then some (.obj c (ns++[fl]) (xs++[.lst es])) else none else none else none
theorem zSR (i:Nat){k n:Nat}{C fI:Addr}{fd:FuncData}{ps ns:List Str}{c fl:Str}{f l:List D->Option (List D)}(hC:ClsAt X.K c C)(M:Mk X.K C fI)(F:FnOk X.prog X.w X.K X.mg X.base CX0 k fI fd ps (zPJ X.K C ns fl n f l))(hr:Room (k+1) X.A)(hm:X.mg c=some (.ref C))(hb:Binds X.K fd ps [])(hg:Gl X c)
   (ha:PFA X (e::es) ga) (hdb:(c==("__debug__":Str))=false:=by decide) (he:starEach (e::es) X.env=(false,eval e X.env)::starEach es X.env:=by rfl) (hpl:(backTo pos (starEach es X.env)).any (·.1)=false:=by rfl) :
   PF X (.Call (.Name c p) (e::es) [] pos) (jM i c ns fl n f l ga):=by
 refine PE.to (zVQ (E:=E0) M F hr hg hm hb .nil zVl ha hdb he hpl) ?_
 rintro σ H Q ⟨G0,H0,G,ρ,d,good,hf,k⟩
 unfold jM at hf
 split at hf
 · rename_i ho
   obtain⟨ds0,ho⟩:=zSN ho
   obtain⟨ds,h1,hf⟩:=Option.bind_eq_some_iff.mp hf
   split at hf
   · rename_i hl
     obtain⟨xs,h2,hf⟩:=Option.bind_eq_some_iff.mp hf
     obtain⟨ys,h3,hf⟩:=Option.bind_eq_some_iff.mp hf
     split at hf
     · rename_i hn
       obtain⟨hn,fx,fy⟩:=hn
       cases hf
       obtain⟨pL,vsL,hG,hH,good'⟩:=good.lend ho
       refine⟨G0,H0,_,_,_,good',h1,fun vs H1 G1 s1 r1 x dx hx hdx hne=>?_⟩
       refine⟨x,dx,vs++[],G1,H1,ds,xs,ys,rfl,rfl,hx,hdx,hne,s1.sub,by rw[List.append_nil];exact r1,hl,h2,h3,fun H' G' us q ws s' q1 q2 q3 q4 q5 q6 q7=>⟨rfl,?_⟩⟩
       have hL1:H1 pL=some (.lst vsL):=s1.hh _ _ hH
       have xL:x≠pL:=fun z=>by rw[z,hL1] at hx;cases hx
       have qL:q≠pL:=fun z=>by rw[z,hL1] at q4;cases q4
       have xq:x≠q:=fun z=>by rw[z,q5] at q1;cases q1
       have f1:=s'.frz q4 q5 q6
       have f2:=f1.frz hx q1 (by rw[yX xq];exact q2)
       obtain⟨st,hp⟩:=(s1.trans f2).back hG hH
       have sm:Same G' (upd (upd G' q (.lst ws)) x (.ins C dx ((ns++[fl]).zip (us++[.ref q])))):=(Same.new q6).trans (Same.new (by rw[yX xq];exact q2))
       refine k _ _ _ st (rep_obj.mpr ⟨C,x,dx,us++[.ref q],hC,rfl,by rw[pV xL,zD],by rw[List.length_append,List.length_append,hn];rfl,?_⟩)
       refine(Reps.out2 hp xs us fx (q3.mono sm)).snoc (rep_lst.mpr ⟨q,ws,rfl,.inl (.inl ?_),Reps.out2 hp ys ws fy (q7.mono sm)⟩)
       rw[pV qL,yX (fun z=>xq z.symm),zD]
     · cases hf
   · cases hf
 · cases hf
theorem zSA (i:Nat){c:Expr}(ht:PE X c (zO7 X.K "list" zOC (zS8 i)))(hs:swapsWith c none pos.line X.env=pure false:=by rfl):PFS X (.Expr c pos) (zVk i):=by
 refine PS.to (zVj ht hs) ?_
 rintro D σ H ⟨G0,H0,G,ρ,o,good,hf,k⟩
 unfold zVk at hf
 split at hf
 · rename_i ds hi
   split at hf
   · rename_i hl
     split at hf
     · cases hf
     · rename_i hne
       cases hf
       obtain⟨p,vs,e1,e2,e3,e4,e5⟩:=good.addr hi
       have hlen:=e5.length
       have hpos:0 < vs.length:=by
         rw[←hlen]
         cases ds with
         | nil=>exact absurd rfl hne
         | cons _ _=>exact Nat.succ_pos _
       obtain⟨y,hy⟩:∃y,vs[vs.length - 1]?=some y:=⟨vs[vs.length - 1],List.getElem?_eq_getElem (by omega)⟩
       refine⟨.ref p,e1,.inl ⟨rfl,vs,.of e2⟩,p,vs,y,rfl,rfl,e2,hy,?_⟩
       have r:Reps X.K G ds.dropLast vs.dropLast:=by rw[lR,lR,hlen];exact e5.erase _
       exact k _ _ G (Same.refl _) (good.wr hi e1 r)
   · cases hf
 · cases hf
end
end L2
namespace L2
open PySem PySem.Spec PyProof.Rows
theorem jP (o:Option D):(o.map Out.rt).bind vN=o:=by cases o<;>rfl
theorem yB {f g:Sf}{ρ ρ':List B}(h:f ρ=some (.nx ρ')):zH f g ρ=g ρ':=by unfold zH;rw[h];rfl
theorem uY {f g:Sf}{ρ ρ':List B}{r:Option D}(h:f ρ=some (.nx ρ'))(k:(g ρ').bind vN=r):(zH f g ρ).bind vN=r:=by rw[yB h];exact k
theorem zV4 {f g:Sf}{ρ:List B}{d:D}(h:f ρ=some (.rt d)):zH f g ρ=some (.rt d):=by unfold zH;rw[h];rfl
theorem eB {g:Gf}{body:Sf}{d:D}{r:List D}{ρ ρ1 ρ2:List B}(h1:g d ρ=some ρ1)(h2:body ρ1=some (.nx ρ2)):kN g body (d::r) ρ=kN g body r ρ2:=by
 rw[kN,h1,Option.bind_some,h2,Option.bind_some]
theorem yU {f:Ef}{g:Lf}{ρ:List B}{d:D}{ds:List D}(h1:f ρ=some d)(h2:g ρ=some ds):zZ f g ρ=some (d::ds):=by unfold zZ;rw[h1,h2];rfl
theorem iA {g:Lf}{ρ:List B}{ds:List D}(h:g ρ=some ds):eL g ρ=some (.lst ds):=by unfold eL;rw[h];rfl
theorem iX {n:Nat}{f:List D->Option D}{g:Lf}{ρ:List B}{ds:List D}(h:g ρ=some ds)(hl:ds.length=n):zM n f g ρ=f ds:=by unfold zM;rw[h,Option.bind_some,if_pos hl]
theorem zTw {c:Str}{ns:List Str}{n:Nat}{f:List D->Option (List D)}{g:Lf}{ρ:List B}{ds xs:List D}(h:g ρ=some ds)(hl:ds.length=n)(hf:f ds=some xs)(hn:ns.length=xs.length):lH c ns n f g ρ=some (.obj c ns xs):=by
 unfold lH;rw[h,Option.bind_some,if_pos hl,hf,Option.bind_some,if_pos hn]
theorem dS {g:Gf}{body:Sf}{P:List B->Prop}:∀(ds:List D),(∀d∈ds,∀ρ,P ρ->∃ρ1 ρ2,g d ρ=some ρ1/\body ρ1=some (.nx ρ2)/\P ρ2)->∀ρ,P ρ->∃ρ',kN g body ds ρ=some (.nx ρ')/\P ρ'
 | [],_,ρ,h=>⟨ρ,rfl,h⟩
 | d::r,hs,ρ,h=>by
   obtain⟨ρ1,ρ2,e1,e2,h2⟩:=hs d List.mem_cons_self ρ h
   obtain⟨ρ',e,h'⟩:=dS r (fun d hd=>hs d (List.mem_cons_of_mem _ hd)) ρ2 h2
   exact⟨ρ',by rw[eB e1 e2];exact e,h'⟩
theorem bN {lo:Int}{n:Nat}{d:D}(h:d∈pW lo n):∃i:Nat,i < n/\d = .int (lo+i):=by
 unfold pW at h
 obtain⟨i,hi,rfl⟩:=List.mem_map.mp h
 exact⟨i,List.mem_range.mp hi,rfl⟩
theorem iI (lo:Int)(n:Nat):(pW lo n).length=n:=by simp[pW]
theorem zYm {elt:Ef}{h:D->D}{rest:List B}:∀(ds:List D) (x0:B) (acc:List D),(∀d∈ds,elt (.fz d::rest)=some (h d))->vB (gN 0) tOK elt ds (x0::rest) acc=some (acc++ds.map h)
 | [],_,acc,_=>by simp[vB]
 | d::r,x0,acc,hh=>by
   unfold vB
   have e1:gN 0 d (x0::rest)=some (.fz d::rest):=rfl
   have e2:tOK (.fz d::rest)=some true:=rfl
   rw[e1,Option.bind_some,e2,Option.bind_some,if_pos rfl,hh d List.mem_cons_self,Option.bind_some,zYm r _ _ fun q hq=>hh q (List.mem_cons_of_mem _ hq)]
   simp
theorem zXD {α:Type}(p:α->Bool):∀l:List α,zUM (l.map fun c=>.bl (p c))=some (l.map p)
 | []=>rfl
 | x::r=>by rw[List.map_cons,zUM,zXD p r];rfl
theorem pJ {t:List D}(h:t.length<=100000):okL t=some t:=by
 unfold okL
 rw[if_pos h]
theorem zTf {x:Str}(h:x.length<=100000):zWr (.str x)=some (.int x.length):=by
 show(if x.length<=lim then _ else none)=_
 rw[if_pos h]
theorem iE {α:Type}(xs:List α)(i:Int)(d:α)(h0:0<=i)(h1:i < xs.length):atI xs i=some (xs.getD i.toNat d):=by
 unfold atI ixN
 rw[if_pos h0,if_pos h1]
 have:i.toNat < xs.length:=by omega
 simp[List.getD,this]
theorem zWg {i j:Int}(h1 : -18446744073709551616 < i)(h2:i < 18446744073709551616):zY0 i j=true:=by
 unfold zY0;simp only[Bool.or_eq_true,Bool.and_eq_true,decide_eq_true_eq];exact .inl ⟨by omega,by omega⟩
theorem zQd {i j:Int}(h1 : -18446744073709551616 < j)(h2:j < 18446744073709551616):zY0 i j=true:=by
 unfold zY0;simp only[Bool.or_eq_true,Bool.and_eq_true,decide_eq_true_eq];exact .inr ⟨by omega,by omega⟩
theorem xS (x y:Str):(x++y).length=x.length+y.length:=Str.length_append x y
theorem zRq (c:Nat)(y:Str):gIn (.str ⟨#[c]⟩) (.str y)=some (decide (c∈y.cps.toList)):=by
 show some (!(Builtin.Str.occurrences y ⟨#[c]⟩ 0 y.length 1).isEmpty)=_
 rw[StrLaws.found_one]
theorem zW8 {x y:Str}(h:x.length+y.length<=100000):zPO (.str x) (.str y)=some (.str (x++y)):=by
 show(if x.length+y.length<=lim then _ else none)=_
 rw[if_pos h]
theorem zR6 {x:Str}{i:Int}(h0:0<=i)(h1:i < x.length)(h:x.length<=100000):atD (.str x) (.int i)=some (.str ⟨#[x.cps.toList.getD i.toNat 0]⟩):=by
 have hl:x.cps.toList.length=x.length:=Array.length_toList
 show(if x.length<=lim then _ else none)=_
 rw[if_pos h,iE _ i 0 h0 (by rw[hl];exact h1)]
 rfl
end L2
noncomputable section
namespace My
open PySem L2
abbrev rD:Stmt:=top 48
abbrev wT:Stmt:=top 56
abbrev uM:Stmt:=top 53
abbrev uI:Stmt:=top 57
abbrev uL:Stmt:=top 58
abbrev vJ:Stmt:=top 59
abbrev wJ:Stmt:=top 9
abbrev vI:Stmt:=top 7
abbrev sY:Stmt:=top 40
abbrev w6:Stmt:=top 39
abbrev sV:Stmt:=top 54
abbrev vM:Stmt:=top 51
abbrev uW:Stmt:=top 52
abbrev w4:Stmt:=top 50
abbrev vY:Stmt:=top 55
abbrev sU:Stmt:=top 49
abbrev vL:Stmt:=top 60
abbrev vZ:Stmt:=top 27
abbrev rE:Stmt:=top 26
abbrev uJ:Stmt:=top 44
abbrev sO:Stmt:=top 43
abbrev vH:Stmt:=top 10
abbrev uG:Stmt:=top 8
abbrev uH:Stmt:=top 45
abbrev gC:Stmt:=top 29
abbrev uZ:Stmt:=top 42
abbrev mY:Stmt:=top 5
abbrev vW:Stmt:=top 14
abbrev oM:Stmt:=top 16
abbrev nV:Stmt:=top 6
abbrev pY:Stmt:=top 4
abbrev rF:Stmt:=top 15
abbrev sP:Stmt:=top 31
abbrev qW:Stmt:=top 30
abbrev sQ:Stmt:=top 33
abbrev wM:Stmt:=top 34
abbrev oI:Stmt:=top 46
abbrev tG:Stmt:=top 41
abbrev vA:Stmt:=top 38
abbrev kB:Stmt:=top 61
abbrev kW:Stmt:=vP (top 12) 0
abbrev oS:Stmt:=vP (top 13) 0
set_option genInjectivity false
set_option genSizeOf false
set_option genSizeOfSpec false
structure Txt (w:World)(K:PySem.W.Frag)(mg:Str->Option Value) where
 f_law_mix:Addr
 fd_law_mix:FuncData
 F_law_mix:Fun K "_law_mix" "_law_mix" rD f_law_mix fd_law_mix
 b_law_mix:Binds K fd_law_mix ["_law_cell","_law_factor"] []
 m_law_mix:mg "_law_mix"=some (.ref f_law_mix)
 f_law_corners:Addr
 fd_law_corners:FuncData
 F_law_corners:Fun K "_law_corners" "_law_corners" wT f_law_corners fd_law_corners
 b_law_corners:Binds K fd_law_corners ["_law_dims"] []
 m_law_corners:mg "_law_corners"=some (.ref f_law_corners)
 f_law_turn:Addr
 fd_law_turn:FuncData
 F_law_turn:Fun K "_law_turn" "_law_turn" uM f_law_turn fd_law_turn
 b_law_turn:Binds K fd_law_turn ["_law_number","_law_dims"] []
 m_law_turn:mg "_law_turn"=some (.ref f_law_turn)
 f_law_loose:Addr
 fd_law_loose:FuncData
 F_law_loose:Fun K "_law_loose" "_law_loose" uI f_law_loose fd_law_loose
 b_law_loose:Binds K fd_law_loose ["_law_dims","_law_cell"] []
 m_law_loose:mg "_law_loose"=some (.ref f_law_loose)
 f_law_word:Addr
 fd_law_word:FuncData
 F_law_word:Fun K "_law_word" "_law_word" uL f_law_word fd_law_word
 b_law_word:Binds K fd_law_word ["_law_cell"] []
 m_law_word:mg "_law_word"=some (.ref f_law_word)
 f_law_rows:Addr
 fd_law_rows:FuncData
 F_law_rows:Fun K "_law_rows" "_law_rows" vJ f_law_rows fd_law_rows
 b_law_rows:Binds K fd_law_rows ["_law_word_here","_law_dims","_law_joined_here","_law_parts"] []
 m_law_rows:mg "_law_rows"=some (.ref f_law_rows)
 f_corner_text:Addr
 fd_corner_text:FuncData
 F_corner_text:Fun K "corner_text" "corner_text" wJ f_corner_text fd_corner_text
 b_corner_text:Binds K fd_corner_text ["corner"] []
 m_corner_text:mg "corner_text"=some (.ref f_corner_text)
 f_turn_text:Addr
 fd_turn_text:FuncData
 F_turn_text:Fun K "turn_text" "turn_text" vI f_turn_text fd_turn_text
 b_turn_text:Binds K fd_turn_text ["turn"] []
 m_turn_text:mg "turn_text"=some (.ref f_turn_text)
 f_part_row:Addr
 fd_part_row:FuncData
 F_part_row:Fun K "part_row" "part_row" sY f_part_row fd_part_row
 b_part_row:Binds K fd_part_row ["part"] []
 m_part_row:mg "part_row"=some (.ref f_part_row)
 f_curve_rows:Addr
 fd_curve_rows:FuncData
 F_curve_rows:Fun K "curve_rows" "curve_rows" w6 f_curve_rows fd_curve_rows
 b_curve_rows:Binds K fd_curve_rows ["curve"] []
 m_curve_rows:mg "curve_rows"=some (.ref f_curve_rows)
 f_law_base:Addr
 fd_law_base:FuncData
 F_law_base:Fun K "_law_base" "_law_base" sV f_law_base fd_law_base
 b_law_base:Binds K fd_law_base ["_law_dims"] []
 m_law_base:mg "_law_base"=some (.ref f_law_base)
 f_law_after:Addr
 fd_law_after:FuncData
 F_law_after:Fun K "_law_after" "_law_after" vM f_law_after fd_law_after
 b_law_after:Binds K fd_law_after ["_law_one","_law_other"] []
 m_law_after:mg "_law_after"=some (.ref f_law_after)
 f_law_undone:Addr
 fd_law_undone:FuncData
 F_law_undone:Fun K "_law_undone" "_law_undone" uW f_law_undone fd_law_undone
 b_law_undone:Binds K fd_law_undone ["_law_turn_here"] []
 m_law_undone:mg "_law_undone"=some (.ref f_law_undone)
 f_law_turned:Addr
 fd_law_turned:FuncData
 F_law_turned:Fun K "_law_turned" "_law_turned" w4 f_law_turned fd_law_turned
 b_law_turned:Binds K fd_law_turned ["_law_turn_here","_law_corner"] []
 m_law_turned:mg "_law_turned"=some (.ref f_law_turned)
 f_law_joined:Addr
 fd_law_joined:FuncData
 F_law_joined:Fun K "_law_joined" "_law_joined" vY f_law_joined fd_law_joined
 b_law_joined:Binds K fd_law_joined ["_law_dims","_law_number"] []
 m_law_joined:mg "_law_joined"=some (.ref f_law_joined)
 f_law_same:Addr
 fd_law_same:FuncData
 F_law_same:Fun K "_law_same" "_law_same" sU f_law_same fd_law_same
 b_law_same:Binds K fd_law_same ["_law_found","_law_due"] []
 m_law_same:mg "_law_same"=some (.ref f_law_same)
 f_law_alike:Addr
 fd_law_alike:FuncData
 F_law_alike:Fun K "_law_alike" "_law_alike" vL f_law_alike fd_law_alike
 b_law_alike:Binds K fd_law_alike ["_law_curve","_law_word_here","_law_dims","_law_joined_here","_law_parts"] []
 m_law_alike:mg "_law_alike"=some (.ref f_law_alike)
 f_is_made_of:Addr
 fd_is_made_of:FuncData
 F_is_made_of:Fun K "is_made_of" "is_made_of" vZ f_is_made_of fd_is_made_of
 b_is_made_of:Binds K fd_is_made_of ["text","signs","longest"] []
 m_is_made_of:mg "is_made_of"=some (.ref f_is_made_of)
 f_is_word:Addr
 fd_is_word:FuncData
 F_is_word:Fun K "is_word" "is_word" rE f_is_word fd_is_word
 b_is_word:Binds K fd_is_word ["text"] []
 m_is_word:mg "is_word"=some (.ref f_is_word)
 f_read_head:Addr
 fd_read_head:FuncData
 F_read_head:Fun K "read_head" "read_head" uJ f_read_head fd_read_head
 b_read_head:Binds K fd_read_head ["words"] []
 m_read_head:mg "read_head"=some (.ref f_read_head)
 f_words_at:Addr
 fd_words_at:FuncData
 F_words_at:Fun K "words_at" "words_at" sO f_words_at fd_words_at
 b_words_at:Binds K fd_words_at ["rows","row"] []
 m_words_at:mg "words_at"=some (.ref f_words_at)
 f_corner_of:Addr
 fd_corner_of:FuncData
 F_corner_of:Fun K "corner_of" "corner_of" vH f_corner_of fd_corner_of
 b_corner_of:Binds K fd_corner_of ["text","dims"] []
 m_corner_of:mg "corner_of"=some (.ref f_corner_of)
 f_turn_of:Addr
 fd_turn_of:FuncData
 F_turn_of:Fun K "turn_of" "turn_of" uG f_turn_of fd_turn_of
 b_turn_of:Binds K fd_turn_of ["text","dims"] []
 m_turn_of:mg "turn_of"=some (.ref f_turn_of)
 f_read_part:Addr
 fd_read_part:FuncData
 F_read_part:Fun K "read_part" "read_part" uH f_read_part fd_read_part
 b_read_part:Binds K fd_read_part ["words","dims","row"] []
 m_read_part:mg "read_part"=some (.ref f_read_part)
 f_full:Addr
 fd_full:FuncData
 F_full:Fun K "full" "full" gC f_full fd_full
 b_full:Binds K fd_full ["dims","level"] []
 m_full:mg "full"=some (.ref f_full)
 f_curve_from:Addr
 fd_curve_from:FuncData
 F_curve_from:Fun K "curve_from" "curve_from" uZ f_curve_from fd_curve_from
 b_curve_from:Binds K fd_curve_from ["rows"] []
 m_curve_from:mg "curve_from"=some (.ref f_curve_from)
 f_still:Addr
 fd_still:FuncData
 F_still:Fun K "still" "still" mY f_still fd_still
 b_still:Binds K fd_still ["dims"] []
 m_still:mg "still"=some (.ref f_still)
 f_first_state:Addr
 fd_first_state:FuncData
 F_first_state:Fun K "first_state" "first_state" vW f_first_state fd_first_state
 b_first_state:Binds K fd_first_state ["dims"] []
 m_first_state:mg "first_state"=some (.ref f_first_state)
 f_walked:Addr
 fd_walked:FuncData
 F_walked:Fun K "walked" "walked" oM f_walked fd_walked
 b_walked:Binds K fd_walked ["curve","back","number"] []
 m_walked:mg "walked"=some (.ref f_walked)
 f_after:Addr
 fd_after:FuncData
 F_after:Fun K "after" "after" nV f_after fd_after
 b_after:Binds K fd_after ["one","other"] []
 m_after:mg "after"=some (.ref f_after)
 f_turned:Addr
 fd_turned:FuncData
 F_turned:Fun K "turned" "turned" pY f_turned fd_turned
 b_turned:Binds K fd_turned ["turn","corner"] []
 m_turned:mg "turned"=some (.ref f_turned)
 f_part_at:Addr
 fd_part_at:FuncData
 F_part_at:Fun K "part_at" "part_at" rF f_part_at fd_part_at
 b_part_at:Binds K fd_part_at ["curve","state","digit"] []
 m_part_at:mg "part_at"=some (.ref f_part_at)
 f_next_to:Addr
 fd_next_to:FuncData
 F_next_to:Fun K "next_to" "next_to" sP f_next_to fd_next_to
 b_next_to:Binds K fd_next_to ["one","other"] []
 m_next_to:mg "next_to"=some (.ref f_next_to)
 f_deeper:Addr
 fd_deeper:FuncData
 F_deeper:Fun K "deeper" "deeper" qW f_deeper fd_deeper
 b_deeper:Binds K fd_deeper ["place","corner"] []
 m_deeper:mg "deeper"=some (.ref f_deeper)
 f_unmet_at:Addr
 fd_unmet_at:FuncData
 F_unmet_at:Fun K "unmet_at" "unmet_at" sQ f_unmet_at fd_unmet_at
 b_unmet_at:Binds K fd_unmet_at ["curve","first"] []
 m_unmet_at:mg "unmet_at"=some (.ref f_unmet_at)
 f_meeting_of:Addr
 fd_meeting_of:FuncData
 F_meeting_of:Fun K "meeting_of" "meeting_of" wM f_meeting_of fd_meeting_of
 b_meeting_of:Binds K fd_meeting_of ["curve"] []
 m_meeting_of:mg "meeting_of"=some (.ref f_meeting_of)
 f_fitted:Addr
 fd_fitted:FuncData
 F_fitted:Fun K "fitted" "fitted" oI f_fitted fd_fitted
 b_fitted:Binds K fd_fitted ["curve"] []
 m_fitted:mg "fitted"=some (.ref f_fitted)
 f_curve_of:Addr
 fd_curve_of:FuncData
 F_curve_of:Fun K "curve_of" "curve_of" tG f_curve_of fd_curve_of
 b_curve_of:Binds K fd_curve_of ["text"] []
 m_curve_of:mg "curve_of"=some (.ref f_curve_of)
 f_curve_text:Addr
 fd_curve_text:FuncData
 F_curve_text:Fun K "curve_text" "curve_text" vA f_curve_text fd_curve_text
 b_curve_text:Binds K fd_curve_text ["curve"] []
 m_curve_text:mg "curve_text"=some (.ref f_curve_text)
 f_law:Addr
 fd_law:FuncData
 F_law:Fun K "law" "law" kB f_law fd_law
 zTd:Binds K fd_law ["_law_script"] []
 m_law:mg "law"=some (.ref f_law)
 C_Part:Addr
 fi_Part:Addr
 fdi_Part:FuncData
 ca_Part:ClsAt K "Part" C_Part
 cl_Part:Cls K C_Part
 mc_Part:mg "Part"=some (.ref C_Part)
 Fi_Part:Fun K "__init__" "Part.__init__" kW fi_Part fdi_Part
 bi_Part:Binds K fdi_Part ["self","corner","turn","back"] []
 mk_Part:Mk K C_Part fi_Part
 n_Part_back:NoAttr K C_Part "back"
 n_Part_corner:NoAttr K C_Part "corner"
 n_Part_turn:NoAttr K C_Part "turn"
 C_Curve:Addr
 fi_Curve:Addr
 fdi_Curve:FuncData
 ca_Curve:ClsAt K "Curve" C_Curve
 cl_Curve:Cls K C_Curve
 mc_Curve:mg "Curve"=some (.ref C_Curve)
 Fi_Curve:Fun K "__init__" "Curve.__init__" oS fi_Curve fdi_Curve
 bi_Curve:Binds K fdi_Curve ["self","name","dims","joined","parts"] []
 mk_Curve:Mk K C_Curve fi_Curve
 n_Curve_dims:NoAttr K C_Curve "dims"
 n_Curve_joined:NoAttr K C_Curve "joined"
 n_Curve_name:NoAttr K C_Curve "name"
 n_Curve_parts:NoAttr K C_Curve "parts"
 t_BITS:Tok
 c_BITS:mg "BITS"=some (.str "01" t_BITS)
 t_FLIPS:Tok
 c_FLIPS:mg "FLIPS"=some (.str "+-" t_FLIPS)
 t_AXES:Tok
 c_AXES:mg "AXES"=some (.str "xyz" t_AXES)
 t_LETTERS:Tok
 c_LETTERS:mg "LETTERS"=some (.str "abcdefghijklmnopqrstuvwxyz" t_LETTERS)
 t_LONGEST_WORD:Tok
 c_LONGEST_WORD:mg "LONGEST_WORD"=some (.int 12 t_LONGEST_WORD)
 da_PROMISES:Addr
 c_PROMISES:mg "PROMISES"=some (.ref da_PROMISES)
 dc_PROMISES:DictC w K da_PROMISES [("joined",.bl true),("loose",.bl false)]
 da_DIMS:Addr
 c_DIMS:mg "DIMS"=some (.ref da_DIMS)
 dc_DIMS:DictC w K da_DIMS [("2",.int 2),("3",.int 3)]
 z_abs:mg "abs"=none
 z_all:mg "all"=none
 z_bool:mg "bool"=none
 z_int:mg "int"=none
 z_isinstance:mg "isinstance"=none
 z_len:mg "len"=none
 z_list:mg "list"=none
 z_min:mg "min"=none
 z_range:mg "range"=none
 z_reversed:mg "reversed"=none
 z_sorted:mg "sorted"=none
 z_str:mg "str"=none
 z_sum:mg "sum"=none
 z_tuple:mg "tuple"=none
 z_zip:mg "zip"=none
set_option genInjectivity true
set_option genSizeOf true
set_option genSizeOfSpec true
section
seal PySem.Sem.wp
variable {P:Program} {w:World} {K:PySem.W.Frag} {mg:Str->Option Value} {base:Heap}
theorem zUe:FnScope ["self","corner","turn","back"] ["self","corner","turn","back"] (zX kW):=⟨rfl,rfl,rfl,by decide +kernel,rfl,by decide +kernel,by decide +kernel⟩
def zRa:Lf:=(zZ (eV 1) (zZ (eV 2) (zZ (eV 3) zT)))
def kQ:List D->Option (List D):=fun ds=>zRa (qS 4 ds)
theorem zX2 (T:Txt w K mg):FnOk P w K mg base CX0 1 T.fi_Part T.fdi_Part ["self","corner","turn","back"] (spI K T.C_Part ["corner","turn","back"] 3 kQ) :=
 zVw (k:=0) T.Fi_Part zUe (by decide +kernel) (by decide) fun cdv A outer s H E hr =>
   (qD T.cl_Part T.n_Part_corner rfl (Or.inl rfl) (zS 1) (qD T.cl_Part T.n_Part_turn rfl (Or.inl rfl) (zS 2) (qD T.cl_Part T.n_Part_back rfl (Or.inl rfl) (zS 3) zV9)))
theorem zZm:FnScope ["self","name","dims","joined","parts"] ["self","name","dims","joined","parts"] (zX oS):=⟨rfl,rfl,rfl,by decide +kernel,rfl,by decide +kernel,by decide +kernel⟩
def zTa:Lf:=(zZ (eV 1) (zZ (eV 2) (zZ (eV 3) (zZ (eL (dZ (eV 4))) zT))))
def iM:List D->Option (List D):=fun ds=>zTa (qS 5 ds)
theorem zUz (T:Txt w K mg):FnOk P w K mg base CX0 1 T.fi_Curve T.fdi_Curve ["self","name","dims","joined","parts"] (spI K T.C_Curve ["name","dims","joined","parts"] 4 iM) :=
 zVw (k:=0) T.Fi_Curve zZm (by decide +kernel) (by decide) fun cdv A outer s H E hr =>
   (qD T.cl_Curve T.n_Curve_name rfl (Or.inl rfl) (zS 1) (qD T.cl_Curve T.n_Curve_dims rfl (Or.inl rfl) (zS 2) (qD T.cl_Curve T.n_Curve_joined rfl (Or.inl rfl) (zS 3) (qD T.cl_Curve T.n_Curve_parts rfl (Or.inl rfl) (w8 (zZ7 rfl T.z_list (zS 4))) zV9))))
def zSp:Lf:=(zZ (eV 1) (zZ (eV 2) (zZ (eV 3) zT)))
def zTN:Lf:=(dZ (eV 4))
def iO:List D->Option (List D):=fun ds=>zSp (qS 5 ds)
def kY:List D->Option (List D):=fun ds=>zTN (qS 5 ds)
theorem zWq (T:Txt w K mg):FnOk P w K mg base CX0 1 T.fi_Curve T.fdi_Curve ["self","name","dims","joined","parts"] (zPJ K T.C_Curve ["name","dims","joined"] "parts" 4 iO kY) :=
 zS4 (k:=0) T.Fi_Curve zZm (by decide +kernel) (by decide) fun cdv A outer s H E hr =>
   (gO T.cl_Curve T.n_Curve_name rfl (Or.inl rfl) (zS 1) (gO T.cl_Curve T.n_Curve_dims rfl (Or.inl rfl) (zS 2) (gO T.cl_Curve T.n_Curve_joined rfl (Or.inl rfl) (zS 3) (zVf T.cl_Curve T.n_Curve_parts rfl (Or.inl rfl) (zZ7 rfl T.z_list (zS 4))))))
theorem sc_law_mix:FnScope ["_law_cell","_law_factor","_law_mixed"] ["_law_cell","_law_factor"] (zX rD):=⟨rfl,rfl,rfl,by decide +kernel,rfl,by decide +kernel,by decide +kernel⟩
def lJ:Sf:=(yG (uN (wC (lW (eV 2) (eV 2)) (eC (.int 2147483629))) (eC (.int 3))))
def fE:Sf:=(zH (yZ 2 (wC (sZ (lW (eV 0) (eV 1)) (eC (.int 12345))) (eC (.int 2147483647))))
   (lJ))
def b_law_mix:Sf :=
   (fE)
def xB:List D->Option D:=fnF 3 b_law_mix
theorem oE (T:Txt w K mg):FnOk P w K mg base CX0 1 T.f_law_mix T.fd_law_mix ["_law_cell","_law_factor"] (spF K 2 xB) :=
 wY (k:=0) T.F_law_mix sc_law_mix fun cdv A outer s H E hr =>
   (zU (f:=(yZ 2 (wC (sZ (lW (eV 0) (eV 1)) (eC (.int 12345))) (eC (.int 2147483647))))) (g:=(lJ)) (zA 2 sc_law_mix.nd (uK (pB (lP (zS 0) (zS 1)) zV) zV))
     (zR (z0 (sC (uK (lP (zS 2) (zS 2)) zV) zV))))
theorem sc_law_corners:FnScope ["_law_dims","_law_corners_here"] ["_law_dims"] (zX wT):=⟨rfl,rfl,rfl,by decide +kernel,rfl,by decide +kernel,by decide +kernel⟩
def mN:Sf:=(eQ 1)
def mK:Sf:=(zH (sIf (eB2 gEq (eV 0) (eC (.int 3))) (oW 1 (xC 1 (rJ (yV (iL (eV 1)) 2 [] (gT (zP (gN 0) (zP (gN 1) yH))) tOK (zK (zZ (eV 0) (zZ (eV 1) (zZ (eC (.int 0)) zT))))) (yV (iL (eV 1)) 2 [] (gT (zP (gN 0) (zP (gN 1) yH))) tOK (zK (zZ (eV 0) (zZ (eV 1) (zZ (eC (.int 1)) zT)))))))) yE)
   (mN))
def eN:Sf:=(zH (xC 1 (yY (zZ (zK (zZ (eC (.int 0)) (zZ (eC (.int 0)) zT))) (zZ (zK (zZ (eC (.int 1)) (zZ (eC (.int 0)) zT))) (zZ (zK (zZ (eC (.int 0)) (zZ (eC (.int 1)) zT))) (zZ (zK (zZ (eC (.int 1)) (zZ (eC (.int 1)) zT))) zT))))))
   (mK))
def b_law_corners:Sf :=
   (eN)
def uQ:List D->Option (List D):=fnL 2 b_law_corners
theorem dL (T:Txt w K mg):FnOk P w K mg base CX0 1 T.f_law_corners T.fd_law_corners ["_law_dims"] (spL K 1 uQ) :=
 jF (k:=0) T.F_law_corners sc_law_corners fun cdv A outer s H E hr =>
   (zU (f:=(xC 1 (yY (zZ (zK (zZ (eC (.int 0)) (zZ (eC (.int 0)) zT))) (zZ (zK (zZ (eC (.int 1)) (zZ (eC (.int 0)) zT))) (zZ (zK (zZ (eC (.int 0)) (zZ (eC (.int 1)) zT))) (zZ (zK (zZ (eC (.int 1)) (zZ (eC (.int 1)) zT))) zT))))))) (g:=(mK)) (tN 1 sc_law_corners.nd (yD (zY (zI (zY zV (zY zV zW))) (zY (zI (zY zV (zY zV zW))) (zY (zI (zY zV (zY zV zW))) (zY (zI (zY zV (zY zV zW))) zW))))))
     (zU (f:=(sIf (eB2 gEq (eV 0) (eC (.int 3))) (oW 1 (xC 1 (rJ (yV (iL (eV 1)) 2 [] (gT (zP (gN 0) (zP (gN 1) yH))) tOK (zK (zZ (eV 0) (zZ (eV 1) (zZ (eC (.int 0)) zT))))) (yV (iL (eV 1)) 2 [] (gT (zP (gN 0) (zP (gN 1) yH))) tOK (zK (zZ (eV 0) (zZ (eV 1) (zZ (eC (.int 1)) zT)))))))) yE)) (g:=(mN)) (yA (xZ mP (zS 0) zV) (zR (rY 1 (tN 1 sc_law_corners.nd (zW4 (wW (zX wT) ["_law_dims","_law_corners_here"] ["_law_x","_law_y"] [] [] (cO (xV (vT 0) (xV (vT 1) tT))) (zX6 (zS 1)) rfl rfl rfl (by decide +kernel) (fun _ _ _ _=>(oN 2 rfl (zG (xP 0 (show(List.Nodup (α:=PySem.Str) ["_law_x","_law_y"]) from by decide +kernel)) (zG (xP 1 (show(List.Nodup (α:=PySem.Str) ["_law_x","_law_y"]) from by decide +kernel)) xR)) (yT (yT xA)))) (fun _ _ _ _=>yK) (fun _ _ _ _=>(zI (zY (zS 0) (zY (zS 1) (zY zV zW)))))) (wW (zX wT) ["_law_dims","_law_corners_here"] ["_law_x","_law_y"] [] [] (cO (xV (vT 0) (xV (vT 1) tT))) (zX6 (zS 1)) rfl rfl rfl (by decide +kernel) (fun _ _ _ _=>(oN 2 rfl (zG (xP 0 (show(List.Nodup (α:=PySem.Str) ["_law_x","_law_y"]) from by decide +kernel)) (zG (xP 1 (show(List.Nodup (α:=PySem.Str) ["_law_x","_law_y"]) from by decide +kernel)) xR)) (yT (yT xA)))) (fun _ _ _ _=>yK) (fun _ _ _ _=>(zI (zY (zS 0) (zY (zS 1) (zY zV zW)))))))))) yR)
     (zR (iP 1))))
theorem sc_law_turn:FnScope ["_law_number","_law_dims","_law_axes"] ["_law_number","_law_dims"] (zX uM):=⟨rfl,rfl,rfl,by decide +kernel,rfl,by decide +kernel,by decide +kernel⟩
def vD:Sf:=(yG (wA (eL (yV (iR (eV 1)) 1 [2,0] (gN 0) tOK (zK (zZ (eIx (eV 1) (eV 0)) (zZ (wC (uN (eV 2) (eIx (eL (yY (zZ (eC (.int 1)) (zZ (eC (.int 2)) (zZ (eC (.int 4)) zT))))) (eV 0))) (eC (.int 2))) zT)))))))
def tX:Sf:=(zH (sIf (eB2 gEq (eV 1) (eC (.int 3))) (yZ 2 (eIx (eL (yY (zZ (eL (yY (zZ (eC (.int 0)) (zZ (eC (.int 1)) (zZ (eC (.int 2)) zT))))) (zZ (eL (yY (zZ (eC (.int 0)) (zZ (eC (.int 2)) (zZ (eC (.int 1)) zT))))) (zZ (eL (yY (zZ (eC (.int 1)) (zZ (eC (.int 0)) (zZ (eC (.int 2)) zT))))) (zZ (eL (yY (zZ (eC (.int 1)) (zZ (eC (.int 2)) (zZ (eC (.int 0)) zT))))) (zZ (eL (yY (zZ (eC (.int 2)) (zZ (eC (.int 0)) (zZ (eC (.int 1)) zT))))) (zZ (eL (yY (zZ (eC (.int 2)) (zZ (eC (.int 1)) (zZ (eC (.int 0)) zT))))) zT)))))))) (wC (uN (eV 0) (eC (.int 8))) (eC (.int 6))))) (sIf (eB2 gEq (wC (uN (eV 0) (eC (.int 8))) (eC (.int 2))) (eC (.int 1))) (yZ 2 (eL (yY (zZ (eC (.int 1)) (zZ (eC (.int 0)) zT))))) yE))
   (vD))
def rH:Sf:=(zH (yZ 2 (eL (yY (zZ (eC (.int 0)) (zZ (eC (.int 1)) zT)))))
   (tX))
def b_law_turn:Sf :=
   (rH)
def xH:List D->Option D:=fnF 3 b_law_turn
theorem fL (T:Txt w K mg):FnOk P w K mg base CX0 1 T.f_law_turn T.fd_law_turn ["_law_number","_law_dims"] (spF K 2 xH) :=
 wY (k:=0) T.F_law_turn sc_law_turn fun cdv A outer s H E hr =>
   (zU (f:=(yZ 2 (eL (yY (zZ (eC (.int 0)) (zZ (eC (.int 1)) zT)))))) (g:=(tX)) (zA 2 sc_law_turn.nd (w8 (yD (zY zV (zY zV zW)))))
     (zU (f:=(sIf (eB2 gEq (eV 1) (eC (.int 3))) (yZ 2 (eIx (eL (yY (zZ (eL (yY (zZ (eC (.int 0)) (zZ (eC (.int 1)) (zZ (eC (.int 2)) zT))))) (zZ (eL (yY (zZ (eC (.int 0)) (zZ (eC (.int 2)) (zZ (eC (.int 1)) zT))))) (zZ (eL (yY (zZ (eC (.int 1)) (zZ (eC (.int 0)) (zZ (eC (.int 2)) zT))))) (zZ (eL (yY (zZ (eC (.int 1)) (zZ (eC (.int 2)) (zZ (eC (.int 0)) zT))))) (zZ (eL (yY (zZ (eC (.int 2)) (zZ (eC (.int 0)) (zZ (eC (.int 1)) zT))))) (zZ (eL (yY (zZ (eC (.int 2)) (zZ (eC (.int 1)) (zZ (eC (.int 0)) zT))))) zT)))))))) (wC (uN (eV 0) (eC (.int 8))) (eC (.int 6))))) (sIf (eB2 gEq (wC (uN (eV 0) (eC (.int 8))) (eC (.int 2))) (eC (.int 1))) (yZ 2 (eL (yY (zZ (eC (.int 1)) (zZ (eC (.int 0)) zT))))) yE))) (g:=(vD)) (yA (xZ mP (zS 1) zV) (zR (zA 2 sc_law_turn.nd (xN (w8 (yD (zY (w8 (yD (zY zV (zY zV (zY zV zW))))) (zY (w8 (yD (zY zV (zY zV (zY zV zW))))) (zY (w8 (yD (zY zV (zY zV (zY zV zW))))) (zY (w8 (yD (zY zV (zY zV (zY zV zW))))) (zY (w8 (yD (zY zV (zY zV (zY zV zW))))) (zY (w8 (yD (zY zV (zY zV (zY zV zW))))) zW)))))))) (uK (sC (zS 0) zV) zV)))) (zR (yA (xZ mP (uK (sC (zS 0) zV) zV) zV) (zR (zA 2 sc_law_turn.nd (w8 (yD (zY zV (zY zV zW)))))) yR)))
     (zR (z0 (uR rfl T.z_tuple (w8 (wW (zX uM) ["_law_number","_law_dims","_law_axes"] ["_law_k"] ["_law_axes","_law_number"] [2,0] (vT 0) (zX4 rfl T.z_range (zS 1)) rfl rfl rfl (by decide +kernel) (fun _ _ _ _=>(xP 0 (show(List.Nodup (α:=PySem.Str) ["_law_k","_law_axes","_law_number"]) from by decide +kernel))) (fun _ _ _ _=>yK) (fun _ _ _ _=>(zI (zY (xN (zS 1) (zS 0)) (zY (uK (sC (zS 2) (xN (w8 (yD (zY zV (zY zV (zY zV zW))))) (zS 0))) zV) zW)))))))))))
theorem sc_law_loose:FnScope ["_law_dims","_law_cell","_law_left","_law_parts","_law_number","_law_corner"] ["_law_dims","_law_cell"] (zX uI):=⟨rfl,rfl,rfl,by decide +kernel,rfl,by decide +kernel,by decide +kernel⟩
def kI:Sf:=(eQ 3)
def pM:Sf:=(zH (uT (jG 2) (zH (yZ 4 (zM 2 xB (zZ (eV 1) (zZ (sZ (eC (.int 48271)) (lW (eC (.int 997)) (lO 2))) zT))))
   (zH (zW5 5 2 (wC (eV 4) (lO 2)))
   (mB 3 (zK (zZ (eV 5) (zZ (zM 2 xH (zZ (uN (eV 4) (eC (.int 8))) (zZ (eV 0) zT))) (zZ (xE (eB2 gEq (wC (uN (eV 4) (eC (.int 800))) (eC (.int 2))) (eC (.int 1)))) zT))))))) 100)
   (kI))
def pG:Sf:=(zH (xC 3 (yY zT))
   (pM))
def pN:Sf:=(zH (xC 2 (xD 1 uQ (zZ (eV 0) zT)))
   (pG))
def b_law_loose:Sf :=
   (pN)
def pQ:List D->Option (List D):=fnL 6 b_law_loose
theorem zYN (T:Txt w K mg):FnOk P w K mg base CX0 2 T.f_law_loose T.fd_law_loose ["_law_dims","_law_cell"] (spL K 2 pQ) :=
 jF (k:=1) T.F_law_loose sc_law_loose fun cdv A outer s H E hr =>
   (zU (f:=(xC 2 (xD 1 uQ (zZ (eV 0) zT)))) (g:=(pG)) (tN 2 sc_law_loose.nd (tM (dL T) (hr.mono (by omega)) T.m_law_corners T.F_law_corners.kp T.b_law_corners rfl (zY (zS 0) zW)))
     (zU (f:=(xC 3 (yY zT))) (g:=(pM)) (tN 3 sc_law_loose.nd (yD zW))
     (zU (f:=(uT (jG 2) (zH (yZ 4 (zM 2 xB (zZ (eV 1) (zZ (sZ (eC (.int 48271)) (lW (eC (.int 997)) (lO 2))) zT))))
   (zH (zW5 5 2 (wC (eV 4) (lO 2)))
   (mB 3 (zK (zZ (eV 5) (zZ (zM 2 xH (zZ (uN (eV 4) (eC (.int 8))) (zZ (eV 0) zT))) (zZ (xE (eB2 gEq (wC (uN (eV 4) (eC (.int 800))) (eC (.int 2))) (eC (.int 1)))) zT))))))) 100)) (g:=(kI)) (zZ6 100 PassesOwn.never (zTG 2 hr) (zU (zA 4 sc_law_loose.nd (zC (oE T) (hr.mono (by omega)) T.m_law_mix T.F_law_mix.kp T.b_law_mix rfl (zY (zS 1) (zY (pB zV (lP zV (zV5 2 rfl T.z_len))) zW))))
     (zU (zRY 5 2 sc_law_loose.nd (uV PySem.F.plainAttrs_list PySem.F.slot_list_pop PySem.F.type_list_pop zSw (pv 2) (yW (uK (zS 4) (zV5 2 rfl T.z_len)) yI)))
     (zR (fW 3 (uV PySem.F.plainAttrs_list PySem.F.slot_list_append PySem.F.type_list_append sW (pv 3) (yW (zI (zY (zS 5) (zY (zC (fL T) (hr.mono (by omega)) T.m_law_turn T.F_law_turn.kp T.b_law_turn rfl (zY (sC (zS 4) zV) (zY (zS 0) zW))) (zY (tD mP (uK (sC (zS 4) zV) zV) zV) zW)))) yI)))))))
     (zR (iP 3)))))
theorem sc_law_word:FnScope ["_law_cell","_law_letters","_law_size"] ["_law_cell"] (zX uL):=⟨rfl,rfl,rfl,by decide +kernel,rfl,by decide +kernel,by decide +kernel⟩
def nE:Sf:=(yG (wK (eC (.str "")) (yV (iR (eV 2)) 1 [1,0] (gN 0) tOK (eIx (eV 1) (wC (zM 2 xB (zZ (eV 2) (zZ (sZ (eC (.int 16807)) (lW (eV 0) (eV 0))) zT))) (eC (.int 26)))))))
def nY:Sf:=(zH (yZ 2 (sZ (eC (.int 1)) (wC (zM 2 xB (zZ (eV 0) (zZ (eC (.int 39373)) zT))) (eC (.int 12)))))
   (nE))
def nO:Sf:=(zH (yZ 1 (eC (.str "abcdefghijklmnopqrstuvwxyz")))
   (nY))
def b_law_word:Sf :=
   (nO)
def nF:List D->Option D:=fnF 3 b_law_word
theorem zXM (T:Txt w K mg):FnOk P w K mg base CX0 2 T.f_law_word T.fd_law_word ["_law_cell"] (spF K 1 nF) :=
 wY (k:=1) T.F_law_word sc_law_word fun cdv A outer s H E hr =>
   (zU (f:=(yZ 1 (eC (.str "abcdefghijklmnopqrstuvwxyz")))) (g:=(nY)) (zA 1 sc_law_word.nd xW)
     (zU (f:=(yZ 2 (sZ (eC (.int 1)) (wC (zM 2 xB (zZ (eV 0) (zZ (eC (.int 39373)) zT))) (eC (.int 12)))))) (g:=(nE)) (zA 2 sc_law_word.nd (pB zV (uK (zC (oE T) (hr.mono (by omega)) T.m_law_mix T.F_law_mix.kp T.b_law_mix rfl (zY (zS 0) (zY zV zW))) zV)))
     (zR (z0 (rO (uV PySem.F.plainAttrs_str PySem.F.slot_str_join PySem.F.type_str_join rS xW (yW (pS (wW (zX uL) ["_law_cell","_law_letters","_law_size"] ["_law_k"] ["_law_letters","_law_cell"] [1,0] (vT 0) (zX4 rfl T.z_range (zS 2)) rfl rfl rfl (by decide +kernel) (fun _ _ _ _=>(xP 0 (show(List.Nodup (α:=PySem.Str) ["_law_k","_law_letters","_law_cell"]) from by decide +kernel))) (fun _ _ _ _=>yK) (fun _ _ _ _=>(xN (zS 1) (uK (zC (oE T) (hr.mono (by omega)) T.m_law_mix T.F_law_mix.kp T.b_law_mix rfl (zY (zS 2) (zY (pB zV (lP (zS 0) (zS 0))) zW))) zV))))) yI)))))))
theorem sc_law_rows:FnScope ["_law_word_here","_law_dims","_law_joined_here","_law_parts","_law_rows_here","_law_corner","_law_turn_here","_law_back","_law_signs","_law_row"] ["_law_word_here","_law_dims","_law_joined_here","_law_parts"] (zX vJ):=⟨rfl,rfl,rfl,by decide +kernel,rfl,by decide +kernel,by decide +kernel⟩
def pH:Sf:=(mB 4 (eV 9))
def pD:Sf:=(zH (sIf (tB1 (eV 7)) (yZ 9 (yM (eV 9) (eC (.str " back")))) yE)
   (pH))
def pE:Sf:=(zH (yZ 9 (yM (yM (yM (eC (.str "part ")) (wK (eC (.str "")) (yV (iT (eV 5)) 1 [] (gN 0) tOK (wH (eV 0))))) (eC (.str " "))) (eV 8)))
   (pD))
def vV:Sf:=(zH (yZ 8 (wK (eC (.str "")) (yV (iT (eV 6)) 2 [] (gT (zP (gN 0) (zP (gN 1) yH))) tOK (yM (eIx (eC (.str "+-")) (eV 1)) (eIx (eC (.str "xyz")) (eV 0))))))
   (pE))
def iV:Sf:=(eQ 4)
def mT:Sf:=(zH (rM (iL (eV 3)) (gT (zP (gN 5) (zP (gN 6) (zP (gN 7) yH)))) (vV))
   (iV))
def oC:Sf:=(zH (xC 4 (yY (zZ (yM (yM (yM (yM (yM (eC (.str "curve ")) (eV 0)) (eC (.str " "))) (eIx (eL (yY (zZ (eC (.str "loose")) (zZ (eC (.str "joined")) zT)))) (nH (eV 2)))) (eC (.str " "))) (wH (eV 1))) zT)))
   (mT))
def b_law_rows:Sf :=
   (oC)
def nJ:List D->Option (List D):=fnL 10 b_law_rows
theorem zYs (T:Txt w K mg):FnOk P w K mg base CX0 1 T.f_law_rows T.fd_law_rows ["_law_word_here","_law_dims","_law_joined_here","_law_parts"] (spL K 4 nJ) :=
 jF (k:=0) T.F_law_rows sc_law_rows fun cdv A outer s H E hr =>
   (zU (f:=(xC 4 (yY (zZ (yM (yM (yM (yM (yM (eC (.str "curve ")) (eV 0)) (eC (.str " "))) (eIx (eL (yY (zZ (eC (.str "loose")) (zZ (eC (.str "joined")) zT)))) (nH (eV 2)))) (eC (.str " "))) (wH (eV 1))) zT)))) (g:=(mT)) (tN 4 sc_law_rows.nd (yD (zY (tZ (tZ (tZ (tZ (tZ xW (zS 0)) xW) (xN (w8 (yD (zY xW (zY xW zW)))) (zXH rfl T.z_int (zS 2)))) xW) (bM rfl T.z_str (zS 1))) zW)))
     (zU (f:=(rM (iL (eV 3)) (gT (zP (gN 5) (zP (gN 6) (zP (gN 7) yH)))) (vV))) (g:=(iV)) (mQ PassesOwn.never rfl (zX6 (zS 3)) (oN 3 rfl (zG (xP 5 sc_law_rows.nd) (zG (xP 6 sc_law_rows.nd) (zG (xP 7 sc_law_rows.nd) xR))) (yT (yT (yT xA)))) (zU (f:=(yZ 8 (wK (eC (.str "")) (yV (iT (eV 6)) 2 [] (gT (zP (gN 0) (zP (gN 1) yH))) tOK (yM (eIx (eC (.str "+-")) (eV 1)) (eIx (eC (.str "xyz")) (eV 0))))))) (g:=(pE)) (zA 8 sc_law_rows.nd (rO (uV PySem.F.plainAttrs_str PySem.F.slot_str_join PySem.F.type_str_join rS xW (yW (pS (wW (zX vJ) ["_law_word_here","_law_dims","_law_joined_here","_law_parts","_law_rows_here","_law_corner","_law_turn_here","_law_back","_law_signs","_law_row"] ["_law_axis","_law_flip"] [] [] (cO (xV (vT 0) (xV (vT 1) tT))) (zXk (zS 6)) rfl rfl rfl (by decide +kernel) (fun _ _ _ _=>(oN 2 rfl (zG (xP 0 (show(List.Nodup (α:=PySem.Str) ["_law_axis","_law_flip"]) from by decide +kernel)) (zG (xP 1 (show(List.Nodup (α:=PySem.Str) ["_law_axis","_law_flip"]) from by decide +kernel)) xR)) (yT (yT xA)))) (fun _ _ _ _=>yK) (fun _ _ _ _=>(tZ (xN xW (zS 1)) (xN xW (zS 0)))))) yI))))
     (zU (f:=(yZ 9 (yM (yM (yM (eC (.str "part ")) (wK (eC (.str "")) (yV (iT (eV 5)) 1 [] (gN 0) tOK (wH (eV 0))))) (eC (.str " "))) (eV 8)))) (g:=(pD)) (zA 9 sc_law_rows.nd (tZ (tZ (tZ xW (rO (uV PySem.F.plainAttrs_str PySem.F.slot_str_join PySem.F.type_str_join rS xW (yW (pS (wW (zX vJ) ["_law_word_here","_law_dims","_law_joined_here","_law_parts","_law_rows_here","_law_corner","_law_turn_here","_law_back","_law_signs","_law_row"] ["_law_bit"] [] [] (vT 0) (zXk (zS 5)) rfl rfl rfl (by decide +kernel) (fun _ _ _ _=>(xP 0 (show(List.Nodup (α:=PySem.Str) ["_law_bit"]) from by decide +kernel))) (fun _ _ _ _=>yK) (fun _ _ _ _=>(bM rfl T.z_str (zS 0))))) yI)))) xW) (zS 8)))
     (zU (f:=(sIf (tB1 (eV 7)) (yZ 9 (yM (eV 9) (eC (.str " back")))) yE)) (g:=(pH)) (yA (xK (zS 7)) (zR (zA 9 sc_law_rows.nd (tZ (zS 9) xW))) yR)
     (zR (fW 4 (uV PySem.F.plainAttrs_list PySem.F.slot_list_append PySem.F.type_list_append sW (pv 4) (yW (zS 9) yI))))))))
     (zR (iP 4))))
theorem cT:FnScope ["corner"] ["corner"] (zX wJ):=⟨rfl,rfl,rfl,by decide +kernel,rfl,by decide +kernel,by decide +kernel⟩
def eH:Sf:=(yG (wK (eC (.str "")) (yV (iT (eV 0)) 1 [] (gN 0) tOK (eIx (eC (.str "01")) (eV 0)))))
def b_corner_text:Sf :=
   (eH)
def pC:List D->Option D:=fnF 1 b_corner_text
theorem dH (T:Txt w K mg):FnOk P w K mg base CX0 1 T.f_corner_text T.fd_corner_text ["corner"] (spF K 1 pC) :=
 wY (k:=0) T.F_corner_text cT fun cdv A outer s H E hr =>
   (zR (z0 (rO (uV PySem.F.plainAttrs_str PySem.F.slot_str_join PySem.F.type_str_join rS xW (yW (pS (wW (zX wJ) ["corner"] ["bit"] [] [] (vT 0) (zXk (zS 0)) rfl rfl rfl (by decide +kernel) (fun _ _ _ _=>(xP 0 (show(List.Nodup (α:=PySem.Str) ["bit"]) from by decide +kernel))) (fun _ _ _ _=>yK) (fun _ _ _ _=>(xN (oF rfl T.c_BITS) (zS 0))))) yI)))))
theorem zYu:FnScope ["turn"] ["turn"] (zX vI):=⟨rfl,rfl,rfl,by decide +kernel,rfl,by decide +kernel,by decide +kernel⟩
def aE:Sf:=(yG (wK (eC (.str "")) (yV (iT (eV 0)) 2 [] (gT (zP (gN 0) (zP (gN 1) yH))) tOK (yM (eIx (eC (.str "+-")) (eV 1)) (eIx (eC (.str "xyz")) (eV 0))))))
def b_turn_text:Sf :=
   (aE)
def lZ:List D->Option D:=fnF 1 b_turn_text
theorem zYv (T:Txt w K mg):FnOk P w K mg base CX0 1 T.f_turn_text T.fd_turn_text ["turn"] (spF K 1 lZ) :=
 wY (k:=0) T.F_turn_text zYu fun cdv A outer s H E hr =>
   (zR (z0 (rO (uV PySem.F.plainAttrs_str PySem.F.slot_str_join PySem.F.type_str_join rS xW (yW (pS (wW (zX vI) ["turn"] ["axis","flip"] [] [] (cO (xV (vT 0) (xV (vT 1) tT))) (zXk (zS 0)) rfl rfl rfl (by decide +kernel) (fun _ _ _ _=>(oN 2 rfl (zG (xP 0 (show(List.Nodup (α:=PySem.Str) ["axis","flip"]) from by decide +kernel)) (zG (xP 1 (show(List.Nodup (α:=PySem.Str) ["axis","flip"]) from by decide +kernel)) xR)) (yT (yT xA)))) (fun _ _ _ _=>yK) (fun _ _ _ _=>(tZ (xN (oF rfl T.c_FLIPS) (zS 1)) (xN (oF rfl T.c_AXES) (zS 0)))))) yI)))))
theorem sc_part_row:FnScope ["part","words"] ["part"] (zX sY):=⟨rfl,rfl,rfl,by decide +kernel,rfl,by decide +kernel,by decide +kernel⟩
def iD:Sf:=(oW 1 (yG (wK (eC (.str " ")) (iL (eV 1)))))
def jB:Sf:=(zH (sIf (tB1 (yO "Part" "back" (eV 0))) (mB 1 (eC (.str "back"))) yE)
   (iD))
def zY7:Sf:=(zH (xC 1 (yY (zZ (eC (.str "part")) (zZ (zM 1 pC (zZ (yO "Part" "corner" (eV 0)) zT)) (zZ (zM 1 lZ (zZ (yO "Part" "turn" (eV 0)) zT)) zT)))))
   (jB))
def b_part_row:Sf :=
   (zY7)
def xY:List D->Option D:=fnF 2 b_part_row
theorem zXw (T:Txt w K mg):FnOk P w K mg base CX0 2 T.f_part_row T.fd_part_row ["part"] (spF K 1 xY) :=
 wY (k:=1) T.F_part_row sc_part_row fun cdv A outer s H E hr =>
   (zU (f:=(xC 1 (yY (zZ (eC (.str "part")) (zZ (zM 1 pC (zZ (yO "Part" "corner" (eV 0)) zT)) (zZ (zM 1 lZ (zZ (yO "Part" "turn" (eV 0)) zT)) zT)))))) (g:=(jB)) (tN 1 sc_part_row.nd (yD (zY xW (zY (zC (dH T) (hr.mono (by omega)) T.m_corner_text T.F_corner_text.kp T.b_corner_text rfl (zY (xF T.ca_Part T.cl_Part T.n_Part_corner (zS 0)) zW)) (zY (zC (zYv T) (hr.mono (by omega)) T.m_turn_text T.F_turn_text.kp T.b_turn_text rfl (zY (xF T.ca_Part T.cl_Part T.n_Part_turn (zS 0)) zW)) zW)))))
     (zU (f:=(sIf (tB1 (yO "Part" "back" (eV 0))) (mB 1 (eC (.str "back"))) yE)) (g:=(iD)) (yA (xK (xF T.ca_Part T.cl_Part T.n_Part_back (zS 0))) (zR (fW 1 (uV PySem.F.plainAttrs_list PySem.F.slot_list_append PySem.F.type_list_append sW (pv 1) (yW xW yI)))) yR)
     (zR (rY 1 (z0 (rO (uV PySem.F.plainAttrs_str PySem.F.slot_str_join PySem.F.type_str_join rS xW (yW (kL (zS 1)) yI))))))))
theorem sc_curve_rows:FnScope ["curve","promise","head"] ["curve"] (zX w6):=⟨rfl,rfl,rfl,by decide +kernel,rfl,by decide +kernel,by decide +kernel⟩
def qP:Sf:=(bU (rJ (yY (zZ (eV 2) zT)) (yV (iL (yO "Curve" "parts" (eV 0))) 1 [] (gN 0) tOK (zM 1 xY (zZ (eV 0) zT)))))
def rB:Sf:=(zH (yZ 2 (wK (eC (.str " ")) (yY (zZ (eC (.str "curve")) (zZ (yO "Curve" "name" (eV 0)) (zZ (eV 1) (zZ (wH (yO "Curve" "dims" (eV 0))) zT)))))))
   (qP))
def qI:Sf:=(zH (yZ 1 (eIf (tB1 (yO "Curve" "joined" (eV 0))) (eC (.str "joined")) (eC (.str "loose"))))
   (rB))
def b_curve_rows:Sf :=
   (qI)
def xG:List D->Option (List D):=fnL 3 b_curve_rows
theorem sN (T:Txt w K mg):FnOk P w K mg base CX0 3 T.f_curve_rows T.fd_curve_rows ["curve"] (spL K 1 xG) :=
 jF (k:=2) T.F_curve_rows sc_curve_rows fun cdv A outer s H E hr =>
   (zU (f:=(yZ 1 (eIf (tB1 (yO "Curve" "joined" (eV 0))) (eC (.str "joined")) (eC (.str "loose"))))) (g:=(rB)) (zA 1 sc_curve_rows.nd (zVr (xK (xF T.ca_Curve T.cl_Curve T.n_Curve_joined (zS 0))) xW xW))
     (zU (f:=(yZ 2 (wK (eC (.str " ")) (yY (zZ (eC (.str "curve")) (zZ (yO "Curve" "name" (eV 0)) (zZ (eV 1) (zZ (wH (yO "Curve" "dims" (eV 0))) zT)))))))) (g:=(qP)) (zA 2 sc_curve_rows.nd (rO (uV PySem.F.plainAttrs_str PySem.F.slot_str_join PySem.F.type_str_join rS xW (yW (pS (yD (zY xW (zY (xF T.ca_Curve T.cl_Curve T.n_Curve_name (zS 0)) (zY (zS 1) (zY (bM rfl T.z_str (xF T.ca_Curve T.cl_Curve T.n_Curve_dims (zS 0))) zW)))))) yI))))
     (zR (zZf (zW4 (yD (zY (zS 2) zW)) (wW (zX w6) ["curve","promise","head"] ["part"] [] [] (vT 0) (zX6 (xF T.ca_Curve T.cl_Curve T.n_Curve_parts (zS 0))) rfl rfl rfl (by decide +kernel) (fun _ _ _ _=>(xP 0 (show(List.Nodup (α:=PySem.Str) ["part"]) from by decide +kernel))) (fun _ _ _ _=>yK) (fun _ _ _ _=>(zC (zXw T) (hr.mono (by omega)) T.m_part_row T.F_part_row.kp T.b_part_row rfl (zY (zS 0) zW)))))))))
theorem sc_law_base:FnScope ["_law_dims","_law_plain","_law_parts"] ["_law_dims"] (zX sV):=⟨rfl,rfl,rfl,by decide +kernel,rfl,by decide +kernel,by decide +kernel⟩
def hJ:Sf:=(oW 2 (bU (rJ (iL (eV 2)) (yY (zZ (zK (zZ (zK (zZ (eC (.int 1)) (zZ (eC (.int 0)) (zZ (eC (.int 0)) zT)))) (zZ (zK (zZ (zK (zZ (eC (.int 1)) (zZ (eC (.int 1)) zT))) (zZ (zK (zZ (eC (.int 0)) (zZ (eC (.int 1)) zT))) (zZ (zK (zZ (eC (.int 2)) (zZ (eC (.int 0)) zT))) zT)))) zT))) zT)))))
def jC:Sf:=(zH (oW 2 (xC 2 (rJ (iL (eV 2)) (yY (zZ (zK (zZ (zK (zZ (eC (.int 1)) (zZ (eC (.int 1)) (zZ (eC (.int 1)) zT)))) (zZ (eV 1) zT))) (zZ (zK (zZ (zK (zZ (eC (.int 1)) (zZ (eC (.int 1)) (zZ (eC (.int 0)) zT)))) (zZ (zK (zZ (zK (zZ (eC (.int 1)) (zZ (eC (.int 1)) zT))) (zZ (zK (zZ (eC (.int 2)) (zZ (eC (.int 0)) zT))) (zZ (zK (zZ (eC (.int 0)) (zZ (eC (.int 1)) zT))) zT)))) zT))) zT))))))
   (hJ))
def iZ:Sf:=(zH (oW 2 (xC 2 (rJ (iL (eV 2)) (yY (zZ (zK (zZ (zK (zZ (eC (.int 0)) (zZ (eC (.int 0)) (zZ (eC (.int 1)) zT)))) (zZ (zK (zZ (zK (zZ (eC (.int 1)) (zZ (eC (.int 1)) zT))) (zZ (zK (zZ (eC (.int 2)) (zZ (eC (.int 1)) zT))) (zZ (zK (zZ (eC (.int 0)) (zZ (eC (.int 0)) zT))) zT)))) zT))) (zZ (zK (zZ (zK (zZ (eC (.int 1)) (zZ (eC (.int 0)) (zZ (eC (.int 1)) zT)))) (zZ (zK (zZ (zK (zZ (eC (.int 1)) (zZ (eC (.int 0)) zT))) (zZ (zK (zZ (eC (.int 2)) (zZ (eC (.int 1)) zT))) (zZ (zK (zZ (eC (.int 0)) (zZ (eC (.int 1)) zT))) zT)))) zT))) zT))))))
   (jC))
def iC:Sf:=(zH (xC 2 (yY (zZ (zK (zZ (zK (zZ (eC (.int 0)) (zZ (eC (.int 0)) (zZ (eC (.int 0)) zT)))) (zZ (zK (zZ (zK (zZ (eC (.int 1)) (zZ (eC (.int 0)) zT))) (zZ (zK (zZ (eC (.int 0)) (zZ (eC (.int 0)) zT))) (zZ (zK (zZ (eC (.int 2)) (zZ (eC (.int 0)) zT))) zT)))) zT))) (zZ (zK (zZ (zK (zZ (eC (.int 0)) (zZ (eC (.int 1)) (zZ (eC (.int 0)) zT)))) (zZ (zK (zZ (zK (zZ (eC (.int 1)) (zZ (eC (.int 0)) zT))) (zZ (zK (zZ (eC (.int 2)) (zZ (eC (.int 0)) zT))) (zZ (zK (zZ (eC (.int 0)) (zZ (eC (.int 0)) zT))) zT)))) zT))) (zZ (zK (zZ (zK (zZ (eC (.int 0)) (zZ (eC (.int 1)) (zZ (eC (.int 1)) zT)))) (zZ (eV 1) zT))) zT)))))
   (iZ))
def iY:Sf:=(zH (yZ 1 (zK (zZ (zK (zZ (eC (.int 0)) (zZ (eC (.int 0)) zT))) (zZ (zK (zZ (eC (.int 1)) (zZ (eC (.int 0)) zT))) (zZ (zK (zZ (eC (.int 2)) (zZ (eC (.int 0)) zT))) zT)))))
   (iC))
def zYR:Sf:=(zH (sIf (eB2 gEq (eV 0) (eC (.int 2))) (zH (yZ 1 (zK (zZ (zK (zZ (eC (.int 0)) (zZ (eC (.int 0)) zT))) (zZ (zK (zZ (eC (.int 1)) (zZ (eC (.int 0)) zT))) zT))))
   (zH (xC 2 (yY (zZ (zK (zZ (zK (zZ (eC (.int 0)) (zZ (eC (.int 0)) zT))) (zZ (zK (zZ (zK (zZ (eC (.int 1)) (zZ (eC (.int 0)) zT))) (zZ (zK (zZ (eC (.int 0)) (zZ (eC (.int 0)) zT))) zT))) zT))) (zZ (zK (zZ (zK (zZ (eC (.int 0)) (zZ (eC (.int 1)) zT))) (zZ (eV 1) zT))) (zZ (zK (zZ (zK (zZ (eC (.int 1)) (zZ (eC (.int 1)) zT))) (zZ (eV 1) zT))) (zZ (zK (zZ (zK (zZ (eC (.int 1)) (zZ (eC (.int 0)) zT))) (zZ (zK (zZ (zK (zZ (eC (.int 1)) (zZ (eC (.int 1)) zT))) (zZ (zK (zZ (eC (.int 0)) (zZ (eC (.int 1)) zT))) zT))) zT))) zT))))))
   (eQ 2))) yE)
   (iY))
def b_law_base:Sf :=
   (zYR)
def nU:List D->Option (List D):=fnL 3 b_law_base
theorem zYp (T:Txt w K mg):FnOk P w K mg base CX0 1 T.f_law_base T.fd_law_base ["_law_dims"] (spL K 1 nU) :=
 jF (k:=0) T.F_law_base sc_law_base fun cdv A outer s H E hr =>
   (zU (f:=(sIf (eB2 gEq (eV 0) (eC (.int 2))) (zH (yZ 1 (zK (zZ (zK (zZ (eC (.int 0)) (zZ (eC (.int 0)) zT))) (zZ (zK (zZ (eC (.int 1)) (zZ (eC (.int 0)) zT))) zT))))
   (zH (xC 2 (yY (zZ (zK (zZ (zK (zZ (eC (.int 0)) (zZ (eC (.int 0)) zT))) (zZ (zK (zZ (zK (zZ (eC (.int 1)) (zZ (eC (.int 0)) zT))) (zZ (zK (zZ (eC (.int 0)) (zZ (eC (.int 0)) zT))) zT))) zT))) (zZ (zK (zZ (zK (zZ (eC (.int 0)) (zZ (eC (.int 1)) zT))) (zZ (eV 1) zT))) (zZ (zK (zZ (zK (zZ (eC (.int 1)) (zZ (eC (.int 1)) zT))) (zZ (eV 1) zT))) (zZ (zK (zZ (zK (zZ (eC (.int 1)) (zZ (eC (.int 0)) zT))) (zZ (zK (zZ (zK (zZ (eC (.int 1)) (zZ (eC (.int 1)) zT))) (zZ (zK (zZ (eC (.int 0)) (zZ (eC (.int 1)) zT))) zT))) zT))) zT))))))
   (eQ 2))) yE)) (g:=(iY)) (yA (xZ mP (zS 0) zV) (zU (zA 1 sc_law_base.nd (zI (zY (zI (zY zV (zY zV zW))) (zY (zI (zY zV (zY zV zW))) zW))))
     (zU (tN 2 sc_law_base.nd (yD (zY (zI (zY (zI (zY zV (zY zV zW))) (zY (zI (zY (zI (zY zV (zY zV zW))) (zY (zI (zY zV (zY zV zW))) zW))) zW))) (zY (zI (zY (zI (zY zV (zY zV zW))) (zY (zS 1) zW))) (zY (zI (zY (zI (zY zV (zY zV zW))) (zY (zS 1) zW))) (zY (zI (zY (zI (zY zV (zY zV zW))) (zY (zI (zY (zI (zY zV (zY zV zW))) (zY (zI (zY zV (zY zV zW))) zW))) zW))) zW))))))
     (zR (iP 2)))) yR)
     (zU (f:=(yZ 1 (zK (zZ (zK (zZ (eC (.int 0)) (zZ (eC (.int 0)) zT))) (zZ (zK (zZ (eC (.int 1)) (zZ (eC (.int 0)) zT))) (zZ (zK (zZ (eC (.int 2)) (zZ (eC (.int 0)) zT))) zT)))))) (g:=(iC)) (zA 1 sc_law_base.nd (zI (zY (zI (zY zV (zY zV zW))) (zY (zI (zY zV (zY zV zW))) (zY (zI (zY zV (zY zV zW))) zW)))))
     (zU (f:=(xC 2 (yY (zZ (zK (zZ (zK (zZ (eC (.int 0)) (zZ (eC (.int 0)) (zZ (eC (.int 0)) zT)))) (zZ (zK (zZ (zK (zZ (eC (.int 1)) (zZ (eC (.int 0)) zT))) (zZ (zK (zZ (eC (.int 0)) (zZ (eC (.int 0)) zT))) (zZ (zK (zZ (eC (.int 2)) (zZ (eC (.int 0)) zT))) zT)))) zT))) (zZ (zK (zZ (zK (zZ (eC (.int 0)) (zZ (eC (.int 1)) (zZ (eC (.int 0)) zT)))) (zZ (zK (zZ (zK (zZ (eC (.int 1)) (zZ (eC (.int 0)) zT))) (zZ (zK (zZ (eC (.int 2)) (zZ (eC (.int 0)) zT))) (zZ (zK (zZ (eC (.int 0)) (zZ (eC (.int 0)) zT))) zT)))) zT))) (zZ (zK (zZ (zK (zZ (eC (.int 0)) (zZ (eC (.int 1)) (zZ (eC (.int 1)) zT)))) (zZ (eV 1) zT))) zT)))))) (g:=(iZ)) (tN 2 sc_law_base.nd (yD (zY (zI (zY (zI (zY zV (zY zV (zY zV zW)))) (zY (zI (zY (zI (zY zV (zY zV zW))) (zY (zI (zY zV (zY zV zW))) (zY (zI (zY zV (zY zV zW))) zW)))) zW))) (zY (zI (zY (zI (zY zV (zY zV (zY zV zW)))) (zY (zI (zY (zI (zY zV (zY zV zW))) (zY (zI (zY zV (zY zV zW))) (zY (zI (zY zV (zY zV zW))) zW)))) zW))) (zY (zI (zY (zI (zY zV (zY zV (zY zV zW)))) (zY (zS 1) zW))) zW)))))
     (zU (f:=(oW 2 (xC 2 (rJ (iL (eV 2)) (yY (zZ (zK (zZ (zK (zZ (eC (.int 0)) (zZ (eC (.int 0)) (zZ (eC (.int 1)) zT)))) (zZ (zK (zZ (zK (zZ (eC (.int 1)) (zZ (eC (.int 1)) zT))) (zZ (zK (zZ (eC (.int 2)) (zZ (eC (.int 1)) zT))) (zZ (zK (zZ (eC (.int 0)) (zZ (eC (.int 0)) zT))) zT)))) zT))) (zZ (zK (zZ (zK (zZ (eC (.int 1)) (zZ (eC (.int 0)) (zZ (eC (.int 1)) zT)))) (zZ (zK (zZ (zK (zZ (eC (.int 1)) (zZ (eC (.int 0)) zT))) (zZ (zK (zZ (eC (.int 2)) (zZ (eC (.int 1)) zT))) (zZ (zK (zZ (eC (.int 0)) (zZ (eC (.int 1)) zT))) zT)))) zT))) zT))))))) (g:=(jC)) (rY 2 (tN 2 sc_law_base.nd (iG (kL (zS 2)) (pS (yD (zY (zI (zY (zI (zY zV (zY zV (zY zV zW)))) (zY (zI (zY (zI (zY zV (zY zV zW))) (zY (zI (zY zV (zY zV zW))) (zY (zI (zY zV (zY zV zW))) zW)))) zW))) (zY (zI (zY (zI (zY zV (zY zV (zY zV zW)))) (zY (zI (zY (zI (zY zV (zY zV zW))) (zY (zI (zY zV (zY zV zW))) (zY (zI (zY zV (zY zV zW))) zW)))) zW))) zW)))))))
     (zU (f:=(oW 2 (xC 2 (rJ (iL (eV 2)) (yY (zZ (zK (zZ (zK (zZ (eC (.int 1)) (zZ (eC (.int 1)) (zZ (eC (.int 1)) zT)))) (zZ (eV 1) zT))) (zZ (zK (zZ (zK (zZ (eC (.int 1)) (zZ (eC (.int 1)) (zZ (eC (.int 0)) zT)))) (zZ (zK (zZ (zK (zZ (eC (.int 1)) (zZ (eC (.int 1)) zT))) (zZ (zK (zZ (eC (.int 2)) (zZ (eC (.int 0)) zT))) (zZ (zK (zZ (eC (.int 0)) (zZ (eC (.int 1)) zT))) zT)))) zT))) zT))))))) (g:=(hJ)) (rY 2 (tN 2 sc_law_base.nd (iG (kL (zS 2)) (pS (yD (zY (zI (zY (zI (zY zV (zY zV (zY zV zW)))) (zY (zS 1) zW))) (zY (zI (zY (zI (zY zV (zY zV (zY zV zW)))) (zY (zI (zY (zI (zY zV (zY zV zW))) (zY (zI (zY zV (zY zV zW))) (zY (zI (zY zV (zY zV zW))) zW)))) zW))) zW)))))))
     (zR (rY 2 (zZf (iG (kL (zS 2)) (pS (yD (zY (zI (zY (zI (zY zV (zY zV (zY zV zW)))) (zY (zI (zY (zI (zY zV (zY zV zW))) (zY (zI (zY zV (zY zV zW))) (zY (zI (zY zV (zY zV zW))) zW)))) zW))) zW))))))))))))
theorem zYM:FnScope ["_law_one","_law_other"] ["_law_one","_law_other"] (zX vM):=⟨rfl,rfl,rfl,by decide +kernel,rfl,by decide +kernel,by decide +kernel⟩
def aT:Sf:=(yG (wA (eL (yV (iT (eV 0)) 2 [1] (gT (zP (gN 0) (zP (gN 1) yH))) tOK (zK (zZ (eIx (eIx (eV 2) (eV 0)) (eC (.int 0))) (zZ (zYW (eIx (eIx (eV 2) (eV 0)) (eC (.int 1))) (eV 1)) zT)))))))
def b_law_after:Sf :=
   (aT)
def xQ:List D->Option D:=fnF 2 b_law_after
theorem uD (T:Txt w K mg):FnOk P w K mg base CX0 1 T.f_law_after T.fd_law_after ["_law_one","_law_other"] (spF K 2 xQ) :=
 wY (k:=0) T.F_law_after zYM fun cdv A outer s H E hr =>
   (zR (z0 (uR rfl T.z_tuple (w8 (wW (zX vM) ["_law_one","_law_other"] ["_law_axis","_law_flip"] ["_law_other"] [1] (cO (xV (vT 0) (xV (vT 1) tT))) (zXk (zS 0)) rfl rfl rfl (by decide +kernel) (fun _ _ _ _=>(oN 2 rfl (zG (xP 0 (show(List.Nodup (α:=PySem.Str) ["_law_axis","_law_flip","_law_other"]) from by decide +kernel)) (zG (xP 1 (show(List.Nodup (α:=PySem.Str) ["_law_axis","_law_flip","_law_other"]) from by decide +kernel)) xR)) (yT (yT xA)))) (fun _ _ _ _=>yK) (fun _ _ _ _=>(zI (zY (xN (xN (zS 2) (zS 0)) zV) (zY (zZb (xN (xN (zS 2) (zS 0)) zV) (zS 1)) zW)))))))))
theorem sc_law_undone:FnScope ["_law_turn_here","_law_back","_law_k"] ["_law_turn_here"] (zX uW):=⟨rfl,rfl,rfl,by decide +kernel,rfl,by decide +kernel,by decide +kernel⟩
def mO:Sf:=(zXU 1 (eIx (eIx (eV 0) (eV 2)) (eC (.int 0))) (zK (zZ (eV 2) (zZ (eIx (eIx (eV 0) (eV 2)) (eC (.int 1))) zT))))
def lC:Sf:=(oW 1 (yG (wA (eV 1))))
def lU:Sf:=(zH (rM (iR (xJ (eV 0))) (gN 2) (mO))
   (lC))
def dF:Sf:=(zH (xC 1 (zRn (yY (zZ (eC .non) zT)) (xJ (eV 0))))
   (lU))
def b_law_undone:Sf :=
   (dF)
def wO:List D->Option D:=fnF 3 b_law_undone
theorem jV (T:Txt w K mg):FnOk P w K mg base CX0 1 T.f_law_undone T.fd_law_undone ["_law_turn_here"] (spF K 1 wO) :=
 wY (k:=0) T.F_law_undone sc_law_undone fun cdv A outer s H E hr =>
   (zU (f:=(xC 1 (zRn (yY (zZ (eC .non) zT)) (xJ (eV 0))))) (g:=(lU)) (tN 1 sc_law_undone.nd (zPU (yD (zY uA zW)) (uU rfl T.z_len (zS 0))))
     (zU (f:=(rM (iR (xJ (eV 0))) (gN 2) (mO))) (g:=(lC)) (mQ PassesOwn.never rfl (zX4 rfl T.z_range (uU rfl T.z_len (zS 0))) (xP 2 sc_law_undone.nd) (zR (zVA 1 (zI (zY (zS 2) (zY (xN (xN (zS 0) (zS 2)) zV) zW))) (xN (xN (zS 0) (zS 2)) zV))))
     (zR (rY 1 (z0 (uR rfl T.z_tuple (zS 1)))))))
theorem aL:FnScope ["_law_turn_here","_law_corner"] ["_law_turn_here","_law_corner"] (zX w4):=⟨rfl,rfl,rfl,by decide +kernel,rfl,by decide +kernel,by decide +kernel⟩
def cB:Sf:=(yG (wA (eL (yV (iT (eV 0)) 2 [1] (gT (zP (gN 0) (zP (gN 1) yH))) tOK (zYW (eIx (eV 2) (eV 0)) (eV 1))))))
def b_law_turned:Sf :=
   (cB)
def tU:List D->Option D:=fnF 2 b_law_turned
theorem aJ (T:Txt w K mg):FnOk P w K mg base CX0 1 T.f_law_turned T.fd_law_turned ["_law_turn_here","_law_corner"] (spF K 2 tU) :=
 wY (k:=0) T.F_law_turned aL fun cdv A outer s H E hr =>
   (zR (z0 (uR rfl T.z_tuple (w8 (wW (zX w4) ["_law_turn_here","_law_corner"] ["_law_axis","_law_flip"] ["_law_corner"] [1] (cO (xV (vT 0) (xV (vT 1) tT))) (zXk (zS 0)) rfl rfl rfl (by decide +kernel) (fun _ _ _ _=>(oN 2 rfl (zG (xP 0 (show(List.Nodup (α:=PySem.Str) ["_law_axis","_law_flip","_law_corner"]) from by decide +kernel)) (zG (xP 1 (show(List.Nodup (α:=PySem.Str) ["_law_axis","_law_flip","_law_corner"]) from by decide +kernel)) xR)) (yT (yT xA)))) (fun _ _ _ _=>yK) (fun _ _ _ _=>(zZb (xN (zS 2) (zS 0)) (zS 1))))))))
theorem sc_law_joined:FnScope ["_law_dims","_law_number","_law_base_here","_law_turn_here","_law_mirror","_law_parts","_law_bits","_law_corner","_law_inner","_law_lies"] ["_law_dims","_law_number"] (zX vY):=⟨rfl,rfl,rfl,by decide +kernel,rfl,by decide +kernel,by decide +kernel⟩
def mG:Sf:=(yZ 6 (uN (eV 6) (eC (.int 2))))
def uO:Sf:=(zH (mB 5 (zK (zZ (zM 2 tU (zZ (eV 3) (zZ (eV 7) zT))) (zZ (eV 9) (zZ (xE (eB2 gEq (wC (eV 6) (eC (.int 2))) (eC (.int 1)))) zT)))))
   (mG))
def rV:Sf:=(zH (sIf (eB2 gEq (wC (eV 6) (eC (.int 2))) (eC (.int 1))) (yZ 9 (zM 2 xQ (zZ (eV 9) (zZ (eV 4) zT)))) yE)
   (uO))
def wQ:Sf:=(zH (yZ 9 (zM 2 xQ (zZ (eV 3) (zZ (zM 2 xQ (zZ (eV 8) (zZ (zM 1 wO (zZ (eV 3) zT)) zT))) zT))))
   (rV))
def mC:Sf:=(eQ 5)
def qK:Sf:=(zH (rM (iL (eV 2)) (gT (zP (gN 7) (zP (gN 8) yH))) (wQ))
   (mC))
def qJ:Sf:=(zH (yZ 6 (uN (eV 1) (eC (.int 96))))
   (qK))
def qT:Sf:=(zH (xC 5 (yY zT))
   (qJ))
def qC:Sf:=(zH (yZ 4 (zM 2 xQ (zZ (eV 3) (zZ (zM 2 xQ (zZ (eV 4) (zZ (zM 1 wO (zZ (eV 3) zT)) zT))) zT))))
   (qT))
def tO:Sf:=(zH (yZ 4 (wA (eL (yV (iR (eV 0)) 1 [] (gN 0) tOK (zK (zZ (eV 0) (zZ (nH (xE (eB2 gEq (eV 0) (eC (.int 0))))) zT)))))))
   (qC))
def qH:Sf:=(zH (sIf (eB2 gEq (wC (uN (eV 1) (eC (.int 48))) (eC (.int 2))) (eC (.int 1))) (yZ 2 (eL (zY4 (iL (eV 2))))) yE)
   (tO))
def qU:Sf:=(zH (yZ 3 (zM 2 xH (zZ (eV 1) (zZ (eV 0) zT))))
   (qH))
def qF:Sf:=(zH (yZ 2 (eL (xD 1 nU (zZ (eV 0) zT))))
   (qU))
def b_law_joined:Sf :=
   (qF)
def tY:List D->Option (List D):=fnL 10 b_law_joined
theorem aX (T:Txt w K mg):FnOk P w K mg base CX0 2 T.f_law_joined T.fd_law_joined ["_law_dims","_law_number"] (spL K 2 tY) :=
 jF (k:=1) T.F_law_joined sc_law_joined fun cdv A outer s H E hr =>
   (zU (f:=(yZ 2 (eL (xD 1 nU (zZ (eV 0) zT))))) (g:=(qU)) (zA 2 sc_law_joined.nd (w8 (tM (zYp T) (hr.mono (by omega)) T.m_law_base T.F_law_base.kp T.b_law_base rfl (zY (zS 0) zW))))
     (zU (f:=(yZ 3 (zM 2 xH (zZ (eV 1) (zZ (eV 0) zT))))) (g:=(qH)) (zA 3 sc_law_joined.nd (zC (fL T) (hr.mono (by omega)) T.m_law_turn T.F_law_turn.kp T.b_law_turn rfl (zY (zS 1) (zY (zS 0) zW))))
     (zU (f:=(sIf (eB2 gEq (wC (uN (eV 1) (eC (.int 48))) (eC (.int 2))) (eC (.int 1))) (yZ 2 (eL (zY4 (iL (eV 2))))) yE)) (g:=(tO)) (yA (xZ mP (uK (sC (zS 1) zV) zV) zV) (zR (zA 2 sc_law_joined.nd (w8 (zWF rfl rfl T.z_list rfl T.z_reversed (kL (zS 2)))))) yR)
     (zU (f:=(yZ 4 (wA (eL (yV (iR (eV 0)) 1 [] (gN 0) tOK (zK (zZ (eV 0) (zZ (nH (xE (eB2 gEq (eV 0) (eC (.int 0))))) zT)))))))) (g:=(qC)) (zA 4 sc_law_joined.nd (uR rfl T.z_tuple (w8 (wW (zX vY) ["_law_dims","_law_number","_law_base_here","_law_turn_here","_law_mirror","_law_parts","_law_bits","_law_corner","_law_inner","_law_lies"] ["_law_axis"] [] [] (vT 0) (zX4 rfl T.z_range (zS 0)) rfl rfl rfl (by decide +kernel) (fun _ _ _ _=>(xP 0 (show(List.Nodup (α:=PySem.Str) ["_law_axis"]) from by decide +kernel))) (fun _ _ _ _=>yK) (fun _ _ _ _=>(zI (zY (zS 0) (zY (zXH rfl T.z_int (tD mP (zS 0) zV)) zW))))))))
     (zU (f:=(yZ 4 (zM 2 xQ (zZ (eV 3) (zZ (zM 2 xQ (zZ (eV 4) (zZ (zM 1 wO (zZ (eV 3) zT)) zT))) zT))))) (g:=(qT)) (zA 4 sc_law_joined.nd (zC (uD T) (hr.mono (by omega)) T.m_law_after T.F_law_after.kp T.b_law_after rfl (zY (zS 3) (zY (zC (uD T) (hr.mono (by omega)) T.m_law_after T.F_law_after.kp T.b_law_after rfl (zY (zS 4) (zY (zC (jV T) (hr.mono (by omega)) T.m_law_undone T.F_law_undone.kp T.b_law_undone rfl (zY (zS 3) zW)) zW))) zW))))
     (zU (f:=(xC 5 (yY zT))) (g:=(qJ)) (tN 5 sc_law_joined.nd (yD zW))
     (zU (f:=(yZ 6 (uN (eV 1) (eC (.int 96))))) (g:=(qK)) (zA 6 sc_law_joined.nd (sC (zS 1) zV))
     (zU (f:=(rM (iL (eV 2)) (gT (zP (gN 7) (zP (gN 8) yH))) (wQ))) (g:=(mC)) (mQ PassesOwn.never rfl (zX6 (zS 2)) (oN 2 rfl (zG (xP 7 sc_law_joined.nd) (zG (xP 8 sc_law_joined.nd) xR)) (yT (yT xA))) (zU (f:=(yZ 9 (zM 2 xQ (zZ (eV 3) (zZ (zM 2 xQ (zZ (eV 8) (zZ (zM 1 wO (zZ (eV 3) zT)) zT))) zT))))) (g:=(rV)) (zA 9 sc_law_joined.nd (zC (uD T) (hr.mono (by omega)) T.m_law_after T.F_law_after.kp T.b_law_after rfl (zY (zS 3) (zY (zC (uD T) (hr.mono (by omega)) T.m_law_after T.F_law_after.kp T.b_law_after rfl (zY (zS 8) (zY (zC (jV T) (hr.mono (by omega)) T.m_law_undone T.F_law_undone.kp T.b_law_undone rfl (zY (zS 3) zW)) zW))) zW))))
     (zU (f:=(sIf (eB2 gEq (wC (eV 6) (eC (.int 2))) (eC (.int 1))) (yZ 9 (zM 2 xQ (zZ (eV 9) (zZ (eV 4) zT)))) yE)) (g:=(uO)) (yA (xZ mP (uK (zS 6) zV) zV) (zR (zA 9 sc_law_joined.nd (zC (uD T) (hr.mono (by omega)) T.m_law_after T.F_law_after.kp T.b_law_after rfl (zY (zS 9) (zY (zS 4) zW))))) yR)
     (zU (f:=(mB 5 (zK (zZ (zM 2 tU (zZ (eV 3) (zZ (eV 7) zT))) (zZ (eV 9) (zZ (xE (eB2 gEq (wC (eV 6) (eC (.int 2))) (eC (.int 1)))) zT)))))) (g:=(mG)) (fW 5 (uV PySem.F.plainAttrs_list PySem.F.slot_list_append PySem.F.type_list_append sW (pv 5) (yW (zI (zY (zC (aJ T) (hr.mono (by omega)) T.m_law_turned T.F_law_turned.kp T.b_law_turned rfl (zY (zS 3) (zY (zS 7) zW))) (zY (zS 9) (zY (tD mP (uK (zS 6) zV) zV) zW)))) yI)))
     (zR (zA 6 sc_law_joined.nd (sC (zS 6) zV)))))))
     (zR (iP 5))))))))))
theorem sc_law_same:FnScope ["_law_found","_law_due","_law_k"] ["_law_found","_law_due"] (zX sU):=⟨rfl,rfl,rfl,by decide +kernel,rfl,by decide +kernel,by decide +kernel⟩
def uS (self:List D->Option D):Sf:=(sIf (wU (tB1 (zM 2 self (zZ (eIx (eV 0) (eV 2)) (zZ (eIx (eV 1) (eV 2)) zT))))) (yG (eC (.bl false))) yE)
def oG (self:List D->Option D):Sf:=(yG (eC (.bl true)))
def uC (self:List D->Option D):Sf:=(zH (rM (iR (xJ (eV 1))) (gN 2) (uS self))
   (oG self))
def rN (self:List D->Option D):Sf:=(zH (sIf (eB2 gNe (xJ (eV 0)) (xJ (eV 1))) (yG (eC (.bl false))) yE)
   (uC self))
def rQ (self:List D->Option D):Sf:=(zH (sIf (fB (tB1 (rL mL (eV 1))) (wU (tB1 (rL mL (eV 0))))) (yG (eC (.bl false))) yE)
   (rN self))
def rR (self:List D->Option D):Sf:=(zH (sIf (fB (tB1 (rL mM (eV 1))) (wU (tB1 (rL mM (eV 0))))) (yG (eC (.bl false))) yE)
   (rQ self))
def tV (self:List D->Option D):Sf:=(zH (sIf (tB1 (rL oY (eV 1))) (yG (mJ (rL oY (eV 0)) (xE (eB2 gEq (eV 0) (eV 1))))) yE)
   (rR self))
def vF (self:List D->Option D):Sf:=(zH (sIf (tB1 (rL isInt (eV 1))) (yG (mJ (rL isInt (eV 0)) (mJ (xE (wU (tB1 (rL nP (eV 0))))) (xE (eB2 gEq (eV 0) (eV 1)))))) yE)
   (tV self))
def vE (self:List D->Option D):Sf:=(zH (sIf (eB2 qE (eV 1) (eC (.bl false))) (yG (xE (eB2 qE (eV 0) (eC (.bl false))))) yE)
   (vF self))
def vC (self:List D->Option D):Sf:=(zH (sIf (eB2 qE (eV 1) (eC (.bl true))) (yG (xE (eB2 qE (eV 0) (eC (.bl true))))) yE)
   (vE self))
def wX (self:List D->Option D):Sf:=(zH (sIf (eB2 qE (eV 1) (eC .non)) (yG (xE (eB2 qE (eV 0) (eC .non)))) yE)
   (vC self))
def b_law_same (self:List D->Option D):Sf :=
   (wX self)
def yS:Nat->List D->Option D
 | 0,_=>none
 | n+1,ds=>fnF 3 (b_law_same (yS n)) ds
abbrev xO:List D->Option D:=yS 7
theorem hW (T:Txt w K mg):∀n:Nat,FnOk P w K mg base CX0 (1+n) T.f_law_same T.fd_law_same ["_law_found","_law_due"] (spF K 2 (yS n))
 | 0=>zSG
 | n+1=>by
   have IH:=hW T n
   exact wY (k:=1+n) (body:=b_law_same (yS n)) T.F_law_same sc_law_same fun cdv A outer s H E hr=>(zU (f:=(sIf (eB2 qE (eV 1) (eC .non)) (yG (xE (eB2 qE (eV 0) (eC .non)))) yE)) (g:=(vC (yS n))) (yA (xZ mW (zS 1) uA) (zR (z0 (tD mW (zS 0) uA))) yR)
     (zU (f:=(sIf (eB2 qE (eV 1) (eC (.bl true))) (yG (xE (eB2 qE (eV 0) (eC (.bl true))))) yE)) (g:=(vE (yS n))) (yA (xZ mW (zS 1) tW) (zR (z0 (tD mW (zS 0) tW))) yR)
     (zU (f:=(sIf (eB2 qE (eV 1) (eC (.bl false))) (yG (xE (eB2 qE (eV 0) (eC (.bl false))))) yE)) (g:=(vF (yS n))) (yA (xZ mW (zS 1) tW) (zR (z0 (tD mW (zS 0) tW))) yR)
     (zU (f:=(sIf (tB1 (rL isInt (eV 1))) (yG (mJ (rL isInt (eV 0)) (mJ (xE (wU (tB1 (rL nP (eV 0))))) (xE (eB2 gEq (eV 0) (eV 1)))))) yE)) (g:=(tV (yS n))) (yA (xK (nB (T:="int") (TT:="int") rfl zSo rfl T.z_isinstance rfl T.z_int (zS 1))) (zR (z0 (zZh (nB (T:="int") (TT:="int") rfl zSo rfl T.z_isinstance rfl T.z_int (zS 0)) (zZh (zP2 (nB (T:="bool") (TT:="bool") rfl zR1 rfl T.z_isinstance rfl T.z_bool (zS 0))) (zWL (tD mP (zS 0) (zS 1))))))) yR)
     (zU (f:=(sIf (tB1 (rL oY (eV 1))) (yG (mJ (rL oY (eV 0)) (xE (eB2 gEq (eV 0) (eV 1))))) yE)) (g:=(rR (yS n))) (yA (xK (nB (T:="str") (TT:="str") rfl zT9 rfl T.z_isinstance rfl T.z_str (zS 1))) (zR (z0 (zZh (nB (T:="str") (TT:="str") rfl zT9 rfl T.z_isinstance rfl T.z_str (zS 0)) (zWL (tD mP (zS 0) (zS 1)))))) yR)
     (zU (f:=(sIf (fB (tB1 (rL mM (eV 1))) (wU (tB1 (rL mM (eV 0))))) (yG (eC (.bl false))) yE)) (g:=(rQ (yS n))) (yA (bB (zVY (xK (nB (T:="list") (TT:="list") rfl zS2 rfl T.z_isinstance rfl T.z_list (zS 1))) (zYi (uE (xK (nB (T:="list") (TT:="list") rfl zS2 rfl T.z_isinstance rfl T.z_list (zS 0))))))) (zR (z0 tW)) yR)
     (zU (f:=(sIf (fB (tB1 (rL mL (eV 1))) (wU (tB1 (rL mL (eV 0))))) (yG (eC (.bl false))) yE)) (g:=(rN (yS n))) (yA (bB (zVY (xK (nB (T:="tuple") (TT:="tuple") rfl zTI rfl T.z_isinstance rfl T.z_tuple (zS 1))) (zYi (uE (xK (nB (T:="tuple") (TT:="tuple") rfl zTI rfl T.z_isinstance rfl T.z_tuple (zS 0))))))) (zR (z0 tW)) yR)
     (zU (f:=(sIf (eB2 gNe (xJ (eV 0)) (xJ (eV 1))) (yG (eC (.bl false))) yE)) (g:=(uC (yS n))) (yA (xZ zXq (uU rfl T.z_len (zS 0)) (uU rfl T.z_len (zS 1))) (zR (z0 tW)) yR)
     (zU (f:=(rM (iR (xJ (eV 1))) (gN 2) (uS (yS n)))) (g:=(oG (yS n))) (mQ PassesOwn.never rfl (zX4 rfl T.z_range (uU rfl T.z_len (zS 1))) (xP 2 sc_law_same.nd) (zR (yA (uE (xK (zC IH (hr.mono (by omega)) T.m_law_same T.F_law_same.kp T.b_law_same rfl (zY (xN (zS 0) (zS 2)) (zY (xN (zS 1) (zS 2)) zW))))) (zR (z0 tW)) yR)))
     (zR (z0 tW)))))))))))
theorem sK (T:Txt w K mg):FnOk P w K mg base CX0 8 T.f_law_same T.fd_law_same ["_law_found","_law_due"] (spF K 2 xO):=hW T 7
theorem sc_law_alike:FnScope ["_law_curve","_law_word_here","_law_dims","_law_joined_here","_law_parts","_law_told"] ["_law_curve","_law_word_here","_law_dims","_law_joined_here","_law_parts"] (zX vL):=⟨rfl,rfl,rfl,by decide +kernel,rfl,by decide +kernel,by decide +kernel⟩
def pI:Sf:=(oW 5 (yG (zM 2 xO (zZ (eL (yY (zZ (yO "Curve" "name" (eV 0)) (zZ (yO "Curve" "dims" (eV 0)) (zZ (yO "Curve" "joined" (eV 0)) (zZ (eV 5) zT)))))) (zZ (eL (yY (zZ (eV 1) (zZ (eV 2) (zZ (eV 3) (zZ (eV 4) zT)))))) zT)))))
def pA:Sf:=(zH (xC 5 (yV (iL (yO "Curve" "parts" (eV 0))) 1 [] (gN 0) tOK (zK (zZ (yO "Part" "corner" (eV 0)) (zZ (yO "Part" "turn" (eV 0)) (zZ (yO "Part" "back" (eV 0)) zT))))))
   (pI))
def b_law_alike:Sf :=
   (pA)
def vK:List D->Option D:=fnF 6 b_law_alike
theorem nQ (T:Txt w K mg):FnOk P w K mg base CX0 9 T.f_law_alike T.fd_law_alike ["_law_curve","_law_word_here","_law_dims","_law_joined_here","_law_parts"] (spF K 5 vK) :=
 wY (k:=8) T.F_law_alike sc_law_alike fun cdv A outer s H E hr =>
   (zU (f:=(xC 5 (yV (iL (yO "Curve" "parts" (eV 0))) 1 [] (gN 0) tOK (zK (zZ (yO "Part" "corner" (eV 0)) (zZ (yO "Part" "turn" (eV 0)) (zZ (yO "Part" "back" (eV 0)) zT))))))) (g:=(pI)) (sR (zX vL) ["_law_curve","_law_word_here","_law_dims","_law_joined_here","_law_parts","_law_told"] ["_law_part"] [] [] (vT 0) 5 sc_law_alike.nd rfl rfl (zX6 (xF T.ca_Curve T.cl_Curve T.n_Curve_parts (zS 0))) rfl rfl rfl (by decide +kernel) (fun _ _ _ _=>(xP 0 (show(List.Nodup (α:=PySem.Str) ["_law_part"]) from by decide +kernel))) (fun _ _ _ _=>yK) (fun _ _ _ _=>(zI (zY (xF T.ca_Part T.cl_Part T.n_Part_corner (zS 0)) (zY (xF T.ca_Part T.cl_Part T.n_Part_turn (zS 0)) (zY (xF T.ca_Part T.cl_Part T.n_Part_back (zS 0)) zW))))))
     (zR (rY 5 (z0 (zC (sK T) (hr.mono (by omega)) T.m_law_same T.F_law_same.kp T.b_law_same rfl (zY (w8 (yD (zY (xF T.ca_Curve T.cl_Curve T.n_Curve_name (zS 0)) (zY (xF T.ca_Curve T.cl_Curve T.n_Curve_dims (zS 0)) (zY (xF T.ca_Curve T.cl_Curve T.n_Curve_joined (zS 0)) (zY (zS 5) zW)))))) (zY (w8 (yD (zY (zS 1) (zY (zS 2) (zY (zS 3) (zY (zS 4) zW)))))) zW)))))))
theorem aF:FnScope ["text","signs","longest"] ["text","signs","longest"] (zX vZ):=⟨rfl,rfl,rfl,by decide +kernel,rfl,by decide +kernel,by decide +kernel⟩
def cJ:Sf:=(yG (mJ (xE (eB3 gLe gLe (eC (.int 1)) (xJ (eV 0)) (eV 2))) (zUX (eL (yV (iS (eV 0)) 1 [1] (gN 0) tOK (xE (eB2 gIn (eV 0) (eV 1))))))))
def b_is_made_of:Sf :=
   (cJ)
def rK:List D->Option D:=fnF 3 b_is_made_of
theorem aR (T:Txt w K mg):FnOk P w K mg base CX0 1 T.f_is_made_of T.fd_is_made_of ["text","signs","longest"] (spF K 3 rK) :=
 wY (k:=0) T.F_is_made_of aF fun cdv A outer s H E hr =>
   (zR (z0 (zZh (zSk zQH zQH zV (uU rfl T.z_len (zS 0)) (zS 2)) (zWL (zPx rfl rfl T.z_all (w8 (wW (zX vZ) ["text","signs","longest"] ["sign"] ["signs"] [1] (vT 0) (zRR (zS 0)) rfl rfl rfl (by decide +kernel) (fun _ _ _ _=>(xP 0 (show(List.Nodup (α:=PySem.Str) ["sign","signs"]) from by decide +kernel))) (fun _ _ _ _=>yK) (fun _ _ _ _=>(tD zOU (zS 0) (zS 1))))))))))
theorem zWx:FnScope ["text"] ["text"] (zX rE):=⟨rfl,rfl,rfl,by decide +kernel,rfl,by decide +kernel,by decide +kernel⟩
def zXL:Sf:=(yG (zM 3 rK (zZ (eV 0) (zZ (eC (.str "abcdefghijklmnopqrstuvwxyz")) (zZ (eC (.int 12)) zT)))))
def b_is_word:Sf :=
   (zXL)
def kX:List D->Option D:=fnF 1 b_is_word
theorem zWB (T:Txt w K mg):FnOk P w K mg base CX0 2 T.f_is_word T.fd_is_word ["text"] (spF K 1 kX) :=
 wY (k:=1) T.F_is_word zWx fun cdv A outer s H E hr =>
   (zR (z0 (zC (aR T) (hr.mono (by omega)) T.m_is_made_of T.F_is_made_of.kp T.b_is_made_of rfl (zY (zS 0) (zY (oF rfl T.c_LETTERS) (zY (zRF rfl T.c_LONGEST_WORD) zW))))))
theorem zYG:FnScope ["words"] ["words"] (zX uJ):=⟨rfl,rfl,rfl,by decide +kernel,rfl,by decide +kernel,by decide +kernel⟩
def kG:Sf:=(yG (zK (zZ (eIx (eV 0) (eC (.int 1))) (zZ (zQS [("joined",.bl true),("loose",.bl false)] (eIx (eV 0) (eC (.int 2)))) (zZ (zQS [("2",.int 2),("3",.int 3)] (eIx (eV 0) (eC (.int 3)))) zT)))))
def jW:Sf:=(zH (sIf (sD (zWI false [("joined",.bl true),("loose",.bl false)] (eIx (eV 0) (eC (.int 2)))) (zWI false [("2",.int 2),("3",.int 3)] (eIx (eV 0) (eC (.int 3))))) (fun _=>none) yE)
   (kG))
def pK:Sf:=(zH (sIf (sD (eB2 gNe (xJ (eV 0)) (eC (.int 4))) (sD (eB2 gNe (eIx (eV 0) (eC (.int 0))) (eC (.str "curve"))) (wU (tB1 (zM 1 kX (zZ (eIx (eV 0) (eC (.int 1))) zT)))))) (fun _=>none) yE)
   (jW))
def b_read_head:Sf :=
   (pK)
def sI:List D->Option D:=fnF 1 b_read_head
theorem zYP (T:Txt w K mg):FnOk P w K mg base CX0 3 T.f_read_head T.fd_read_head ["words"] (spF K 1 sI) :=
 wY (k:=2) T.F_read_head zYG fun cdv A outer s H E hr =>
   (zU (f:=(sIf (sD (eB2 gNe (xJ (eV 0)) (eC (.int 4))) (sD (eB2 gNe (eIx (eV 0) (eC (.int 0))) (eC (.str "curve"))) (wU (tB1 (zM 1 kX (zZ (eIx (eV 0) (eC (.int 1))) zT)))))) (fun _=>none) yE)) (g:=(jW)) (yA (bB (oZ (xZ zXq (uU rfl T.z_len (zS 0)) zV) (oZ (xZ zXq (xN (zS 0) zV) xW) (rP (uE (xK (zC (zWB T) (hr.mono (by omega)) T.m_is_word T.F_is_word.kp T.b_is_word rfl (zY (xN (zS 0) zV) zW)))))))) (zR sE) yR)
     (zU (f:=(sIf (sD (zWI false [("joined",.bl true),("loose",.bl false)] (eIx (eV 0) (eC (.int 2)))) (zWI false [("2",.int 2),("3",.int 3)] (eIx (eV 0) (eC (.int 3))))) (fun _=>none) yE)) (g:=(kG)) (yA (bB (oZ (zZk T.dc_PROMISES rfl T.c_PROMISES (xN (zS 0) zV)) (rP (zZk T.dc_DIMS rfl T.c_DIMS (xN (zS 0) zV))))) (zR sE) yR)
     (zR (z0 (zI (zY (xN (zS 0) zV) (zY (zSF T.dc_PROMISES rfl T.c_PROMISES (xN (zS 0) zV)) (zY (zSF T.dc_DIMS rfl T.c_DIMS (xN (zS 0) zV)) zW))))))))
theorem zYd:FnScope ["rows","row"] ["rows","row"] (zX sO):=⟨rfl,rfl,rfl,by decide +kernel,rfl,by decide +kernel,by decide +kernel⟩
def nW:Sf:=(bU (jL (eIx (eV 0) (oO (eV 1) (eC (.int 1)))) (eC (.str " "))))
def oA:Sf:=(zH (sIf (eB2 gGt (eV 1) (xJ (eV 0))) (fun _=>none) yE)
   (nW))
def b_words_at:Sf :=
   (oA)
def wE:List D->Option (List D):=fnL 2 b_words_at
theorem fF (T:Txt w K mg):FnOk P w K mg base CX0 3 T.f_words_at T.fd_words_at ["rows","row"] (spL K 2 wE) :=
 jF (k:=2) T.F_words_at zYd fun cdv A outer s H E hr =>
   (zU (f:=(sIf (eB2 gGt (eV 1) (xJ (eV 0))) (fun _=>none) yE)) (g:=(nW)) (yA (xZ zQL (zS 1) (uU rfl T.z_len (zS 0))) (zR sE) yR)
     (zR (zZf (zXx (uV PySem.F.plainAttrs_str PySem.F.slot_str_split PySem.F.type_str_split zYc (xN (zS 0) (fU (zS 1) zV)) (yW xW yI))))))
theorem sc_corner_of:FnScope ["text","dims","bits"] ["text","dims"] (zX vH):=⟨rfl,rfl,rfl,by decide +kernel,rfl,by decide +kernel,by decide +kernel⟩
def kD:Sf:=(yG (wA (eV 2)))
def kK:Sf:=(zH (oW 2 (sIf (sD (eB2 gNe (xJ (eV 2)) (eV 1)) (eB2 zWZ (zUP (eC (.int 1))) (eV 2))) (yG (eC .non)) yE))
   (kD))
def aQ:Sf:=(zH (xC 2 (yV (iS (eV 0)) 1 [] (gN 0) tOK (fN (eC (.str "01")) (eV 0))))
   (kK))
def b_corner_of:Sf :=
   (aQ)
def lI:List D->Option D:=fnF 3 b_corner_of
theorem zY5 (T:Txt w K mg):FnOk P w K mg base CX0 1 T.f_corner_of T.fd_corner_of ["text","dims"] (spF K 2 lI) :=
 wY (k:=0) T.F_corner_of sc_corner_of fun cdv A outer s H E hr =>
   (zU (f:=(xC 2 (yV (iS (eV 0)) 1 [] (gN 0) tOK (fN (eC (.str "01")) (eV 0))))) (g:=(kK)) (sR (zX vH) ["text","dims","bits"] ["sign"] [] [] (vT 0) 2 sc_corner_of.nd rfl rfl (zRR (zS 0)) rfl rfl rfl (by decide +kernel) (fun _ _ _ _=>(xP 0 (show(List.Nodup (α:=PySem.Str) ["sign"]) from by decide +kernel))) (fun _ _ _ _=>yK) (fun _ _ _ _=>(zY8 (uV PySem.F.plainAttrs_str PySem.F.slot_str_find PySem.F.type_str_find zYY (oF rfl T.c_BITS) (yW (zS 0) yI)))))
     (zU (f:=(oW 2 (sIf (sD (eB2 gNe (xJ (eV 2)) (eV 1)) (eB2 zWZ (zUP (eC (.int 1))) (eV 2))) (yG (eC .non)) yE))) (g:=(kD)) (rY 2 (yA (bB (oZ (xZ zXq (uU rfl T.z_len (zS 2)) (zS 1)) (rP (xZ zTq (zSO zV) (zS 2))))) (zR (z0 uA)) yR))
     (zR (z0 (uR rfl T.z_tuple (zS 2))))))
theorem sc_turn_of:FnScope ["text","dims","flips","axes"] ["text","dims"] (zX uG):=⟨rfl,rfl,rfl,by decide +kernel,rfl,by decide +kernel,by decide +kernel⟩
def fP:Sf:=(yG (zZd (eV 3) (eV 2)))
def fQ:Sf:=(zH (oW 2 (oW 3 (sIf (sD (eB2 zWZ (zUP (eC (.int 1))) (eV 2)) (eB2 jA (eL (dU (iL (eV 3)))) (eL (zYL (eV 1))))) (yG (eC .non)) yE)))
   (fP))
def fA:Sf:=(zH (xC 3 (yV (iS (zZ1 (eV 0) (eC (.int 1)) (eC (.int 2)))) 1 [] (gN 0) tOK (fN (eC (.str "xyz")) (eV 0))))
   (fQ))
def eU:Sf:=(zH (xC 2 (yV (iS (zZ1 (eV 0) (eC (.int 0)) (eC (.int 2)))) 1 [] (gN 0) tOK (fN (eC (.str "+-")) (eV 0))))
   (fA))
def zXV:Sf:=(zH (sIf (eB2 jA (xJ (eV 0)) (lW (eC (.int 2)) (eV 1))) (yG (eC .non)) yE)
   (eU))
def b_turn_of:Sf :=
   (zXV)
def fX:List D->Option D:=fnF 4 b_turn_of
theorem zW2 (T:Txt w K mg):FnOk P w K mg base CX0 1 T.f_turn_of T.fd_turn_of ["text","dims"] (spF K 2 fX) :=
 wY (k:=0) T.F_turn_of sc_turn_of fun cdv A outer s H E hr =>
   (zU (f:=(sIf (eB2 jA (xJ (eV 0)) (lW (eC (.int 2)) (eV 1))) (yG (eC .non)) yE)) (g:=(eU)) (yA (xZ (bP hr) (uU rfl T.z_len (zS 0)) (lP zV (zS 1))) (zR (z0 uA)) yR)
     (zU (f:=(xC 2 (yV (iS (zZ1 (eV 0) (eC (.int 0)) (eC (.int 2)))) 1 [] (gN 0) tOK (fN (eC (.str "+-")) (eV 0))))) (g:=(fA)) (sR (zX uG) ["text","dims","flips","axes"] ["sign"] [] [] (vT 0) 2 sc_turn_of.nd rfl rfl (zRR (zXZ (zS 0) zV zV)) rfl rfl rfl (by decide +kernel) (fun _ _ _ _=>(xP 0 (show(List.Nodup (α:=PySem.Str) ["sign"]) from by decide +kernel))) (fun _ _ _ _=>yK) (fun _ _ _ _=>(zY8 (uV PySem.F.plainAttrs_str PySem.F.slot_str_find PySem.F.type_str_find zYY (oF rfl T.c_FLIPS) (yW (zS 0) yI)))))
     (zU (f:=(xC 3 (yV (iS (zZ1 (eV 0) (eC (.int 1)) (eC (.int 2)))) 1 [] (gN 0) tOK (fN (eC (.str "xyz")) (eV 0))))) (g:=(fQ)) (sR (zX uG) ["text","dims","flips","axes"] ["letter"] [] [] (vT 0) 3 sc_turn_of.nd rfl rfl (zRR (zXZ (zS 0) zV zV)) rfl rfl rfl (by decide +kernel) (fun _ _ _ _=>(xP 0 (show(List.Nodup (α:=PySem.Str) ["letter"]) from by decide +kernel))) (fun _ _ _ _=>yK) (fun _ _ _ _=>(zY8 (uV PySem.F.plainAttrs_str PySem.F.slot_str_find PySem.F.type_str_find zYY (oF rfl T.c_AXES) (yW (zS 0) yI)))))
     (zU (f:=(oW 2 (oW 3 (sIf (sD (eB2 zWZ (zUP (eC (.int 1))) (eV 2)) (eB2 jA (eL (dU (iL (eV 3)))) (eL (zYL (eV 1))))) (yG (eC .non)) yE)))) (g:=(fP)) (rY 2 (rY 3 (yA (bB (oZ (xZ zTq (zSO zV) (zS 2)) (rP (xZ (bP hr) (w8 (zU8 rfl T.z_sorted (kL (zS 3)))) (w8 (zTP rfl rfl T.z_list rfl T.z_range (zS 1))))))) (zR (z0 uA)) yR)))
     (zR (z0 (zVa rfl rfl T.z_tuple rfl T.z_zip (zS 3) (zS 2))))))))
theorem sc_read_part:FnScope ["words","dims","row","back","corner","turn"] ["words","dims","row"] (zX uH):=⟨rfl,rfl,rfl,by decide +kernel,rfl,by decide +kernel,by decide +kernel⟩
def jX:Sf:=(yG (lH "Part" ["corner","turn","back"] 3 kQ (zZ (eV 4) (zZ (eV 5) (zZ (eV 3) zT)))))
def jY:Sf:=(zH (sIf (sD (eB2 qE (eV 4) (eC .non)) (eB2 qE (eV 5) (eC .non))) (fun _=>none) yE)
   (jX))
def jR:Sf:=(zH (yZ 5 (zM 2 fX (zZ (eIx (eV 0) (eC (.int 2))) (zZ (eV 1) zT))))
   (jY))
def kJ:Sf:=(zH (yZ 4 (zM 2 lI (zZ (eIx (eV 0) (eC (.int 1))) (zZ (eV 1) zT))))
   (jR))
def jS:Sf:=(zH (sIf (sD (eB2 jA (eIx (eV 0) (eC (.int 0))) (eC (.str "part"))) (eB2 jA (xJ (eV 0)) (eIf (tB1 (eV 3)) (eC (.int 4)) (eC (.int 3))))) (fun _=>none) yE)
   (kJ))
def aO:Sf:=(zH (yZ 3 (xE (eB2 cQ (eL (pO (eV 0) (mH (eC (.int 3))) oNo)) (eL (yY (zZ (eC (.str "back")) zT))))))
   (jS))
def b_read_part:Sf :=
   (aO)
def xX:List D->Option D:=fnF 6 b_read_part
theorem zYJ (T:Txt w K mg):FnOk P w K mg base CX0 3 T.f_read_part T.fd_read_part ["words","dims","row"] (spF K 3 xX) :=
 wY (k:=2) T.F_read_part sc_read_part fun cdv A outer s H E hr =>
   (zU (f:=(yZ 3 (xE (eB2 cQ (eL (pO (eV 0) (mH (eC (.int 3))) oNo)) (eL (yY (zZ (eC (.str "back")) zT))))))) (g:=(jS)) (zA 3 sc_read_part.nd (tD (zW0 hr) (w8 (zX3 (zS 0) (zV7 zV) zQM)) (w8 (yD (zY xW zW)))))
     (zU (f:=(sIf (sD (eB2 jA (eIx (eV 0) (eC (.int 0))) (eC (.str "part"))) (eB2 jA (xJ (eV 0)) (eIf (tB1 (eV 3)) (eC (.int 4)) (eC (.int 3))))) (fun _=>none) yE)) (g:=(kJ)) (yA (bB (oZ (xZ (bP hr) (xN (zS 0) zV) xW) (rP (xZ (bP hr) (uU rfl T.z_len (zS 0)) (zVr (xK (zS 3)) zV zV))))) (zR sE) yR)
     (zU (f:=(yZ 4 (zM 2 lI (zZ (eIx (eV 0) (eC (.int 1))) (zZ (eV 1) zT))))) (g:=(jR)) (zA 4 sc_read_part.nd (zC (zY5 T) (hr.mono (by omega)) T.m_corner_of T.F_corner_of.kp T.b_corner_of rfl (zY (xN (zS 0) zV) (zY (zS 1) zW))))
     (zU (f:=(yZ 5 (zM 2 fX (zZ (eIx (eV 0) (eC (.int 2))) (zZ (eV 1) zT))))) (g:=(jY)) (zA 5 sc_read_part.nd (zC (zW2 T) (hr.mono (by omega)) T.m_turn_of T.F_turn_of.kp T.b_turn_of rfl (zY (xN (zS 0) zV) (zY (zS 1) zW))))
     (zU (f:=(sIf (sD (eB2 qE (eV 4) (eC .non)) (eB2 qE (eV 5) (eC .non))) (fun _=>none) yE)) (g:=(jX)) (yA (bB (oZ (xZ mW (zS 4) uA) (rP (xZ mW (zS 5) uA)))) (zR sE) yR)
     (zR (z0 (zYx T.ca_Part T.mk_Part (zX2 T) (hr.mono (by omega)) T.mc_Part T.bi_Part rfl (zY (zS 4) (zY (zS 5) (zY (zS 3) zW)))))))))))
theorem sc_full:FnScope ["dims","level","places","halving"] ["dims","level"] (zX gC):=⟨rfl,rfl,rfl,by decide +kernel,rfl,by decide +kernel,by decide +kernel⟩
def zZ5:Sf:=(yZ 2 (lW (eV 2) (eC (.int 2))))
def zXR:Sf:=(yG (eV 2))
def zX8:Sf:=(zH (rM (iR (lW (eV 0) (eV 1))) (gN 3) (zZ5))
   (zXR))
def zUi:Sf:=(zH (yZ 2 (eC (.int 1)))
   (zX8))
def b_full:Sf :=
   (zUi)
def gB:List D->Option D:=fnF 4 b_full
theorem zQU (T:Txt w K mg):FnOk P w K mg base CX0 1 T.f_full T.fd_full ["dims","level"] (spF K 2 gB) :=
 wY (k:=0) T.F_full sc_full fun cdv A outer s H E hr =>
   (zU (f:=(yZ 2 (eC (.int 1)))) (g:=(zX8)) (zA 2 sc_full.nd zV)
     (zU (f:=(rM (iR (lW (eV 0) (eV 1))) (gN 3) (zZ5))) (g:=(zXR)) (mQ PassesOwn.never rfl (zX4 rfl T.z_range (lP (zS 0) (zS 1))) (xP 3 sc_full.nd) (zR (zA 2 sc_full.nd (lP (zS 2) zV))))
     (zR (z0 (zS 2)))))
theorem sc_curve_from:FnScope ["rows","name","joined","dims","parts","seen","row","part"] ["rows"] (zX uZ):=⟨rfl,rfl,rfl,by decide +kernel,rfl,by decide +kernel,by decide +kernel⟩
def sA:Sf:=(mB 4 (eV 7))
def rZ:Sf:=(zH (kF 5 (yO "Part" "corner" (eV 7)) (eC (.bl true)))
   (sA))
def sB:Sf:=(zH (sIf (dB 5 (yO "Part" "corner" (eV 7))) (fun _=>none) yE)
   (rZ))
def vX:Sf:=(zH (yZ 7 (zM 3 xX (zZ (eL (xD 2 wE (zZ (eV 0) (zZ (eV 6) zT)))) (zZ (eV 3) (zZ (eV 6) zT)))))
   (sB))
def lD:Sf:=(oW 4 (yG (lH "Curve" ["name","dims","joined","parts"] 4 iM (zZ (eV 1) (zZ (eV 3) (zZ (eV 2) (zZ (eV 4) zT)))))))
def qM:Sf:=(zH (rM (iR2 (eC (.int 2)) (sZ (eC (.int 2)) (zM 2 gB (zZ (eV 3) (zZ (eC (.int 1)) zT))))) (gN 6) (vX))
   (lD))
def qA:Sf:=(zH (zX0 5)
   (qM))
def qZ:Sf:=(zH (xC 4 (yY zT))
   (qA))
def qB:Sf:=(zH (rT (zM 1 sI (zZ (eL (xD 2 wE (zZ (eV 0) (zZ (eC (.int 1)) zT)))) zT)) (gT (zP (gN 1) (zP (gN 2) (zP (gN 3) yH)))))
   (qZ))
def b_curve_from:Sf :=
   (qB)
def w9:List D->Option D:=fnF 8 b_curve_from
theorem jT (T:Txt w K mg):FnOk P w K mg base CX0 4 T.f_curve_from T.fd_curve_from ["rows"] (spF K 1 w9) :=
 wY (k:=3) T.F_curve_from sc_curve_from fun cdv A outer s H E hr =>
   (zU (f:=(rT (zM 1 sI (zZ (eL (xD 2 wE (zZ (eV 0) (zZ (eC (.int 1)) zT)))) zT)) (gT (zP (gN 1) (zP (gN 2) (zP (gN 3) yH)))))) (g:=(qZ)) (nL (zC (zYP T) (hr.mono (by omega)) T.m_read_head T.F_read_head.kp T.b_read_head rfl (zY (w8 (tM (fF T) (hr.mono (by omega)) T.m_words_at T.F_words_at.kp T.b_words_at rfl (zY (zS 0) (zY zV zW)))) zW)) (oN 3 rfl (zG (xP 1 sc_curve_from.nd) (zG (xP 2 sc_curve_from.nd) (zG (xP 3 sc_curve_from.nd) xR))) (yT (yT (yT xA)))))
     (zU (f:=(xC 4 (yY zT))) (g:=(qA)) (tN 4 sc_curve_from.nd (yD zW))
     (zU (f:=(zX0 5)) (g:=(qM)) (zVL 5 sc_curve_from.nd)
     (zU (f:=(rM (iR2 (eC (.int 2)) (sZ (eC (.int 2)) (zM 2 gB (zZ (eV 3) (zZ (eC (.int 1)) zT))))) (gN 6) (vX))) (g:=(lD)) (mQ PassesOwn.never rfl (zPe rfl T.z_range zV (pB zV (zC (zQU T) (hr.mono (by omega)) T.m_full T.F_full.kp T.b_full rfl (zY (zS 3) (zY zV zW))))) (xP 6 sc_curve_from.nd) (zU (f:=(yZ 7 (zM 3 xX (zZ (eL (xD 2 wE (zZ (eV 0) (zZ (eV 6) zT)))) (zZ (eV 3) (zZ (eV 6) zT)))))) (g:=(sB)) (zA 7 sc_curve_from.nd (zC (zYJ T) (hr.mono (by omega)) T.m_read_part T.F_read_part.kp T.b_read_part rfl (zY (w8 (tM (fF T) (hr.mono (by omega)) T.m_words_at T.F_words_at.kp T.b_words_at rfl (zY (zS 0) (zY (zS 6) zW)))) (zY (zS 3) (zY (zS 6) zW)))))
     (zU (f:=(sIf (dB 5 (yO "Part" "corner" (eV 7))) (fun _=>none) yE)) (g:=(rZ)) (yA (zTy 5 hr (xF T.ca_Part T.cl_Part T.n_Part_corner (zS 7))) (zR sE) yR)
     (zU (f:=(kF 5 (yO "Part" "corner" (eV 7)) (eC (.bl true)))) (g:=(sA)) (zVm 5 hr tW (xF T.ca_Part T.cl_Part T.n_Part_corner (zS 7)))
     (zR (fW 4 (uV PySem.F.plainAttrs_list PySem.F.slot_list_append PySem.F.type_list_append sW (pv 4) (yW (zS 7) yI))))))))
     (zR (rY 4 (z0 (zYx T.ca_Curve T.mk_Curve (zUz T) (hr.mono (by omega)) T.mc_Curve T.bi_Curve rfl (zY (zS 1) (zY (zS 3) (zY (zS 2) (zY (zS 4) zW))))))))))))
theorem zUh:FnScope ["dims"] ["dims"] (zX mY):=⟨rfl,rfl,rfl,by decide +kernel,rfl,by decide +kernel,by decide +kernel⟩
def zUW:Sf:=(yG (wA (eL (yV (iR (eV 0)) 1 [] (gN 0) tOK (zK (zZ (eV 0) (zZ (eC (.int 0)) zT)))))))
def b_still:Sf :=
   (zUW)
def zVx:List D->Option D:=fnF 1 b_still
theorem zSM (T:Txt w K mg):FnOk P w K mg base CX0 1 T.f_still T.fd_still ["dims"] (spF K 1 zVx) :=
 wY (k:=0) T.F_still zUh fun cdv A outer s H E hr =>
   (zR (z0 (uR rfl T.z_tuple (w8 (wW (zX mY) ["dims"] ["axis"] [] [] (vT 0) (zX4 rfl T.z_range (zS 0)) rfl rfl rfl (by decide +kernel) (fun _ _ _ _=>(xP 0 (show(List.Nodup (α:=PySem.Str) ["axis"]) from by decide +kernel))) (fun _ _ _ _=>yK) (fun _ _ _ _=>(zI (zY (zS 0) (zY zV zW)))))))))
theorem bV:FnScope ["dims"] ["dims"] (zX vW):=⟨rfl,rfl,rfl,by decide +kernel,rfl,by decide +kernel,by decide +kernel⟩
def eG:Sf:=(yG (zK (zZ (zM 1 zVx (zZ (eV 0) zT)) (zZ (eC (.bl false)) zT))))
def b_first_state:Sf :=
   (eG)
def sM:List D->Option D:=fnF 1 b_first_state
theorem cH (T:Txt w K mg):FnOk P w K mg base CX0 2 T.f_first_state T.fd_first_state ["dims"] (spF K 1 sM) :=
 wY (k:=1) T.F_first_state bV fun cdv A outer s H E hr =>
   (zR (z0 (zI (zY (zC (zSM T) (hr.mono (by omega)) T.m_still T.F_still.kp T.b_still rfl (zY (zS 0) zW)) (zY tW zW)))))
theorem zU9:FnScope ["curve","back","number"] ["curve","back","number"] (zX oM):=⟨rfl,rfl,rfl,by decide +kernel,rfl,by decide +kernel,by decide +kernel⟩
def zWa:Sf:=(yG (eIf (tB1 (eV 1)) (oO (oO (xJ (yO "Curve" "parts" (eV 0))) (eC (.int 1))) (eV 2)) (eV 2)))
def b_walked:Sf :=
   (zWa)
def oQ:List D->Option D:=fnF 3 b_walked
theorem zUr (T:Txt w K mg):FnOk P w K mg base CX0 1 T.f_walked T.fd_walked ["curve","back","number"] (spF K 3 oQ) :=
 wY (k:=0) T.F_walked zU9 fun cdv A outer s H E hr =>
   (zR (z0 (zVr (xK (zS 1)) (fU (fU (uU rfl T.z_len (xF T.ca_Curve T.cl_Curve T.n_Curve_parts (zS 0))) zV) (zS 2)) (zS 2))))
theorem zSu:FnScope ["one","other"] ["one","other"] (zX nV):=⟨rfl,rfl,rfl,by decide +kernel,rfl,by decide +kernel,by decide +kernel⟩
def zZO:Sf:=(yG (wA (eL (yV (iT (eV 0)) 2 [1] (gT (zP (gN 0) (zP (gN 1) yH))) tOK (zK (zZ (eIx (eIx (eV 2) (eV 0)) (eC (.int 0))) (zZ (zYW (eIx (eIx (eV 2) (eV 0)) (eC (.int 1))) (eV 1)) zT)))))))
def b_after:Sf :=
   (zZO)
def pU:List D->Option D:=fnF 2 b_after
theorem zSS (T:Txt w K mg):FnOk P w K mg base CX0 1 T.f_after T.fd_after ["one","other"] (spF K 2 pU) :=
 wY (k:=0) T.F_after zSu fun cdv A outer s H E hr =>
   (zR (z0 (uR rfl T.z_tuple (w8 (wW (zX nV) ["one","other"] ["axis","flip"] ["other"] [1] (cO (xV (vT 0) (xV (vT 1) tT))) (zXk (zS 0)) rfl rfl rfl (by decide +kernel) (fun _ _ _ _=>(oN 2 rfl (zG (xP 0 (show(List.Nodup (α:=PySem.Str) ["axis","flip","other"]) from by decide +kernel)) (zG (xP 1 (show(List.Nodup (α:=PySem.Str) ["axis","flip","other"]) from by decide +kernel)) xR)) (yT (yT xA)))) (fun _ _ _ _=>yK) (fun _ _ _ _=>(zI (zY (xN (xN (zS 2) (zS 0)) zV) (zY (zZb (xN (xN (zS 2) (zS 0)) zV) (zS 1)) zW)))))))))
theorem zUo:FnScope ["turn","corner"] ["turn","corner"] (zX pY):=⟨rfl,rfl,rfl,by decide +kernel,rfl,by decide +kernel,by decide +kernel⟩
def bK:Sf:=(yG (wA (eL (yV (iT (eV 0)) 2 [1] (gT (zP (gN 0) (zP (gN 1) yH))) tOK (zYW (eIx (eV 2) (eV 0)) (eV 1))))))
def b_turned:Sf :=
   (bK)
def qO:List D->Option D:=fnF 2 b_turned
theorem zUn (T:Txt w K mg):FnOk P w K mg base CX0 1 T.f_turned T.fd_turned ["turn","corner"] (spF K 2 qO) :=
 wY (k:=0) T.F_turned zUo fun cdv A outer s H E hr =>
   (zR (z0 (uR rfl T.z_tuple (w8 (wW (zX pY) ["turn","corner"] ["axis","flip"] ["corner"] [1] (cO (xV (vT 0) (xV (vT 1) tT))) (zXk (zS 0)) rfl rfl rfl (by decide +kernel) (fun _ _ _ _=>(oN 2 rfl (zG (xP 0 (show(List.Nodup (α:=PySem.Str) ["axis","flip","corner"]) from by decide +kernel)) (zG (xP 1 (show(List.Nodup (α:=PySem.Str) ["axis","flip","corner"]) from by decide +kernel)) xR)) (yT (yT xA)))) (fun _ _ _ _=>yK) (fun _ _ _ _=>(zZb (xN (zS 2) (zS 0)) (zS 1))))))))
theorem sc_part_at:FnScope ["curve","state","digit","turn","back","part","inner"] ["curve","state","digit"] (zX rF):=⟨rfl,rfl,rfl,by decide +kernel,rfl,by decide +kernel,by decide +kernel⟩
def lT:Sf:=(yG (zK (zZ (zM 2 qO (zZ (eV 3) (zZ (yO "Part" "corner" (eV 5)) zT))) (zZ (eV 6) zT))))
def lS:Sf:=(zH (yZ 6 (zK (zZ (zM 2 pU (zZ (eV 3) (zZ (yO "Part" "turn" (eV 5)) zT))) (zZ (xE (eB2 gNe (eV 4) (yO "Part" "back" (eV 5)))) zT))))
   (lT))
def lF:Sf:=(zH (yZ 5 (eIx (yO "Curve" "parts" (eV 0)) (zM 3 oQ (zZ (eV 0) (zZ (eV 4) (zZ (eV 2) zT))))))
   (lS))
def zYe:Sf:=(zH (rT (eV 1) (gT (zP (gN 3) (zP (gN 4) yH))))
   (lF))
def b_part_at:Sf :=
   (zYe)
def xI:List D->Option D:=fnF 7 b_part_at
theorem nI (T:Txt w K mg):FnOk P w K mg base CX0 2 T.f_part_at T.fd_part_at ["curve","state","digit"] (spF K 3 xI) :=
 wY (k:=1) T.F_part_at sc_part_at fun cdv A outer s H E hr =>
   (zU (f:=(rT (eV 1) (gT (zP (gN 3) (zP (gN 4) yH))))) (g:=(lF)) (nL (zS 1) (oN 2 rfl (zG (xP 3 sc_part_at.nd) (zG (xP 4 sc_part_at.nd) xR)) (yT (yT xA))))
     (zU (f:=(yZ 5 (eIx (yO "Curve" "parts" (eV 0)) (zM 3 oQ (zZ (eV 0) (zZ (eV 4) (zZ (eV 2) zT))))))) (g:=(lS)) (zA 5 sc_part_at.nd (xN (xF T.ca_Curve T.cl_Curve T.n_Curve_parts (zS 0)) (zC (zUr T) (hr.mono (by omega)) T.m_walked T.F_walked.kp T.b_walked rfl (zY (zS 0) (zY (zS 4) (zY (zS 2) zW))))))
     (zU (f:=(yZ 6 (zK (zZ (zM 2 pU (zZ (eV 3) (zZ (yO "Part" "turn" (eV 5)) zT))) (zZ (xE (eB2 gNe (eV 4) (yO "Part" "back" (eV 5)))) zT))))) (g:=(lT)) (zA 6 sc_part_at.nd (zI (zY (zC (zSS T) (hr.mono (by omega)) T.m_after T.F_after.kp T.b_after rfl (zY (zS 3) (zY (xF T.ca_Part T.cl_Part T.n_Part_turn (zS 5)) zW))) (zY (tD zXq (zS 4) (xF T.ca_Part T.cl_Part T.n_Part_back (zS 5))) zW))))
     (zR (z0 (zI (zY (zC (zUn T) (hr.mono (by omega)) T.m_turned T.F_turned.kp T.b_turned rfl (zY (zS 3) (zY (xF T.ca_Part T.cl_Part T.n_Part_corner (zS 5)) zW))) (zY (zS 6) zW))))))))
theorem zWs:FnScope ["one","other"] ["one","other"] (zX sP):=⟨rfl,rfl,rfl,by decide +kernel,rfl,by decide +kernel,by decide +kernel⟩
def zXi:Sf:=(yG (xE (eB2 gEq (zSP (yV (zRC (eV 0) (eV 1)) 2 [] (gT (zP (gN 0) (zP (gN 1) yH))) tOK (zQD (oO (eV 0) (eV 1))))) (eC (.int 1)))))
def b_next_to:Sf :=
   (zXi)
def sX:List D->Option D:=fnF 2 b_next_to
theorem zWt (T:Txt w K mg):FnOk P w K mg base CX0 1 T.f_next_to T.fd_next_to ["one","other"] (spF K 2 sX) :=
 wY (k:=0) T.F_next_to zWs fun cdv A outer s H E hr =>
   (zR (z0 (tD mP (zR4 rfl rfl T.z_sum (pS (wW (zX sP) ["one","other"] ["along","across"] [] [] (cO (xV (vT 0) (xV (vT 1) tT))) (zSU rfl T.z_zip (zS 0) (zS 1)) rfl rfl rfl (by decide +kernel) (fun _ _ _ _=>(oN 2 rfl (zG (xP 0 (show(List.Nodup (α:=PySem.Str) ["along","across"]) from by decide +kernel)) (zG (xP 1 (show(List.Nodup (α:=PySem.Str) ["along","across"]) from by decide +kernel)) xR)) (yT (yT xA)))) (fun _ _ _ _=>yK) (fun _ _ _ _=>(zP0 rfl T.z_abs (fU (zS 0) (zS 1))))))) zV)))
theorem zUT:FnScope ["place","corner"] ["place","corner"] (zX qW):=⟨rfl,rfl,rfl,by decide +kernel,rfl,by decide +kernel,by decide +kernel⟩
def zWR:Sf:=(yG (wA (eL (yV (zRC (eV 0) (eV 1)) 2 [] (gT (zP (gN 0) (zP (gN 1) yH))) tOK (sZ (lW (eC (.int 2)) (eV 0)) (eV 1))))))
def b_deeper:Sf :=
   (zWR)
def vG:List D->Option D:=fnF 2 b_deeper
theorem zZs (T:Txt w K mg):FnOk P w K mg base CX0 1 T.f_deeper T.fd_deeper ["place","corner"] (spF K 2 vG) :=
 wY (k:=0) T.F_deeper zUT fun cdv A outer s H E hr =>
   (zR (z0 (uR rfl T.z_tuple (w8 (wW (zX qW) ["place","corner"] ["along","bit"] [] [] (cO (xV (vT 0) (xV (vT 1) tT))) (zSU rfl T.z_zip (zS 0) (zS 1)) rfl rfl rfl (by decide +kernel) (fun _ _ _ _=>(oN 2 rfl (zG (xP 0 (show(List.Nodup (α:=PySem.Str) ["along","bit"]) from by decide +kernel)) (zG (xP 1 (show(List.Nodup (α:=PySem.Str) ["along","bit"]) from by decide +kernel)) xR)) (yT (yT xA)))) (fun _ _ _ _=>yK) (fun _ _ _ _=>(pB (lP zV (zS 0)) (zS 1))))))))
theorem sc_unmet_at:FnScope ["curve","first","whole","end","ending","start","starting","level","seen","corner"] ["curve","first"] (zX sQ):=⟨rfl,rfl,rfl,by decide +kernel,rfl,by decide +kernel,by decide +kernel⟩
def nD:Sf:=(yG (eV 7))
def nR:Sf:=(zH (uT (tB1 (zM 2 sX (zZ (eV 3) (zZ (eV 5) zT)))) (zH (sIf (dB 8 (zK (zZ (eV 4) (zZ (eV 6) zT)))) (yG (eC .non)) yE)
   (zH (kF 8 (zK (zZ (eV 4) (zZ (eV 6) zT))) (eC (.bl true)))
   (zH (rT (zM 3 xI (zZ (eV 0) (zZ (eV 4) (zZ (oO (xJ (yO "Curve" "parts" (eV 0))) (eC (.int 1))) zT)))) (gT (zP (gN 9) (zP (gN 4) yH))))
   (zH (yZ 3 (zM 2 vG (zZ (eV 3) (zZ (eV 9) zT))))
   (zH (rT (zM 3 xI (zZ (eV 0) (zZ (eV 6) (zZ (eC (.int 0)) zT)))) (gT (zP (gN 9) (zP (gN 6) yH))))
   (zH (yZ 5 (zM 2 vG (zZ (eV 5) (zZ (eV 9) zT))))
   (yZ 7 (sZ (eV 7) (eC (.int 1)))))))))) 10000)
   (nD))
def nA:Sf:=(zH (zX0 8)
   (nR))
def mR:Sf:=(zH (yZ 7 (eC (.int 1)))
   (nA))
def nZ:Sf:=(zH (rT (zM 3 xI (zZ (eV 0) (zZ (eV 2) (zZ (sZ (eV 1) (eC (.int 1))) zT)))) (gT (zP (gN 5) (zP (gN 6) yH))))
   (mR))
def mV:Sf:=(zH (rT (zM 3 xI (zZ (eV 0) (zZ (eV 2) (zZ (eV 1) zT)))) (gT (zP (gN 3) (zP (gN 4) yH))))
   (nZ))
def nC:Sf:=(zH (yZ 2 (zM 1 sM (zZ (yO "Curve" "dims" (eV 0)) zT)))
   (mV))
def b_unmet_at:Sf :=
   (nC)
def pX:List D->Option D:=fnF 10 b_unmet_at
theorem zXQ (T:Txt w K mg):FnOk P w K mg base CX0 3 T.f_unmet_at T.fd_unmet_at ["curve","first"] (spF K 2 pX) :=
 wY (k:=2) T.F_unmet_at sc_unmet_at fun cdv A outer s H E hr =>
   (zU (f:=(yZ 2 (zM 1 sM (zZ (yO "Curve" "dims" (eV 0)) zT)))) (g:=(mV)) (zA 2 sc_unmet_at.nd (zC (cH T) (hr.mono (by omega)) T.m_first_state T.F_first_state.kp T.b_first_state rfl (zY (xF T.ca_Curve T.cl_Curve T.n_Curve_dims (zS 0)) zW)))
     (zU (f:=(rT (zM 3 xI (zZ (eV 0) (zZ (eV 2) (zZ (eV 1) zT)))) (gT (zP (gN 3) (zP (gN 4) yH))))) (g:=(nZ)) (nL (zC (nI T) (hr.mono (by omega)) T.m_part_at T.F_part_at.kp T.b_part_at rfl (zY (zS 0) (zY (zS 2) (zY (zS 1) zW)))) (oN 2 rfl (zG (xP 3 sc_unmet_at.nd) (zG (xP 4 sc_unmet_at.nd) xR)) (yT (yT xA))))
     (zU (f:=(rT (zM 3 xI (zZ (eV 0) (zZ (eV 2) (zZ (sZ (eV 1) (eC (.int 1))) zT)))) (gT (zP (gN 5) (zP (gN 6) yH))))) (g:=(mR)) (nL (zC (nI T) (hr.mono (by omega)) T.m_part_at T.F_part_at.kp T.b_part_at rfl (zY (zS 0) (zY (zS 2) (zY (pB (zS 1) zV) zW)))) (oN 2 rfl (zG (xP 5 sc_unmet_at.nd) (zG (xP 6 sc_unmet_at.nd) xR)) (yT (yT xA))))
     (zU (f:=(yZ 7 (eC (.int 1)))) (g:=(nA)) (zA 7 sc_unmet_at.nd zV)
     (zU (f:=(zX0 8)) (g:=(nR)) (zVL 8 sc_unmet_at.nd)
     (zU (f:=(uT (tB1 (zM 2 sX (zZ (eV 3) (zZ (eV 5) zT)))) (zH (sIf (dB 8 (zK (zZ (eV 4) (zZ (eV 6) zT)))) (yG (eC .non)) yE)
   (zH (kF 8 (zK (zZ (eV 4) (zZ (eV 6) zT))) (eC (.bl true)))
   (zH (rT (zM 3 xI (zZ (eV 0) (zZ (eV 4) (zZ (oO (xJ (yO "Curve" "parts" (eV 0))) (eC (.int 1))) zT)))) (gT (zP (gN 9) (zP (gN 4) yH))))
   (zH (yZ 3 (zM 2 vG (zZ (eV 3) (zZ (eV 9) zT))))
   (zH (rT (zM 3 xI (zZ (eV 0) (zZ (eV 6) (zZ (eC (.int 0)) zT)))) (gT (zP (gN 9) (zP (gN 6) yH))))
   (zH (yZ 5 (zM 2 vG (zZ (eV 5) (zZ (eV 9) zT))))
   (yZ 7 (sZ (eV 7) (eC (.int 1)))))))))) 10000)) (g:=(nD)) (zZ6 10000 PassesOwn.never (xK (zC (zWt T) (hr.mono (by omega)) T.m_next_to T.F_next_to.kp T.b_next_to rfl (zY (zS 3) (zY (zS 5) zW)))) (zU (yA (zTy 8 hr (zI (zY (zS 4) (zY (zS 6) zW)))) (zR (z0 uA)) yR)
     (zU (zVm 8 hr tW (zI (zY (zS 4) (zY (zS 6) zW))))
     (zU (nL (zC (nI T) (hr.mono (by omega)) T.m_part_at T.F_part_at.kp T.b_part_at rfl (zY (zS 0) (zY (zS 4) (zY (fU (uU rfl T.z_len (xF T.ca_Curve T.cl_Curve T.n_Curve_parts (zS 0))) zV) zW)))) (oN 2 rfl (zG (xP 9 sc_unmet_at.nd) (zG (xP 4 sc_unmet_at.nd) xR)) (yT (yT xA))))
     (zU (zA 3 sc_unmet_at.nd (zC (zZs T) (hr.mono (by omega)) T.m_deeper T.F_deeper.kp T.b_deeper rfl (zY (zS 3) (zY (zS 9) zW))))
     (zU (nL (zC (nI T) (hr.mono (by omega)) T.m_part_at T.F_part_at.kp T.b_part_at rfl (zY (zS 0) (zY (zS 6) (zY zV zW)))) (oN 2 rfl (zG (xP 9 sc_unmet_at.nd) (zG (xP 6 sc_unmet_at.nd) xR)) (yT (yT xA))))
     (zU (zA 5 sc_unmet_at.nd (zC (zZs T) (hr.mono (by omega)) T.m_deeper T.F_deeper.kp T.b_deeper rfl (zY (zS 5) (zY (zS 9) zW))))
     (zR (zA 7 sc_unmet_at.nd (pB (zS 7) zV))))))))))
     (zR (z0 (zS 7)))))))))
theorem sc_meeting_of:FnScope ["curve","levels","least"] ["curve"] (zX wM):=⟨rfl,rfl,rfl,by decide +kernel,rfl,by decide +kernel,by decide +kernel⟩
def mD:Sf:=(yG (zK (zZ (zWn (iL (eV 1)) (eV 2)) (zZ (eV 2) zT))))
def mF:Sf:=(zH (sIf (eB2 qE (eV 2) (eC .non)) (yG (eC .non)) yE)
   (mD))
def qX:Sf:=(zH (oW 1 (yZ 2 (zZT (yV (iL (eV 1)) 1 [] (gN 0) (eB2 pF (eV 0) (eC .non)) (eV 0)))))
   (mF))
def rC:Sf:=(zH (xC 1 (yV (iR (oO (xJ (yO "Curve" "parts" (eV 0))) (eC (.int 1)))) 1 [0] (gN 0) tOK (zM 2 pX (zZ (eV 1) (zZ (eV 0) zT)))))
   (qX))
def b_meeting_of:Sf :=
   (rC)
def tL:List D->Option D:=fnF 3 b_meeting_of
theorem aD (T:Txt w K mg):FnOk P w K mg base CX0 4 T.f_meeting_of T.fd_meeting_of ["curve"] (spF K 1 tL) :=
 wY (k:=3) T.F_meeting_of sc_meeting_of fun cdv A outer s H E hr =>
   (zU (f:=(xC 1 (yV (iR (oO (xJ (yO "Curve" "parts" (eV 0))) (eC (.int 1)))) 1 [0] (gN 0) tOK (zM 2 pX (zZ (eV 1) (zZ (eV 0) zT)))))) (g:=(qX)) (sR (zX wM) ["curve","levels","least"] ["first"] ["curve"] [0] (vT 0) 1 sc_meeting_of.nd rfl rfl (zX4 rfl T.z_range (fU (uU rfl T.z_len (xF T.ca_Curve T.cl_Curve T.n_Curve_parts (zS 0))) zV)) rfl rfl rfl (by decide +kernel) (fun _ _ _ _=>(xP 0 (show(List.Nodup (α:=PySem.Str) ["first","curve"]) from by decide +kernel))) (fun _ _ _ _=>yK) (fun _ _ _ _=>(zC (zXQ T) (hr.mono (by omega)) T.m_unmet_at T.F_unmet_at.kp T.b_unmet_at rfl (zY (zS 1) (zY (zS 0) zW)))))
     (zU (f:=(oW 1 (yZ 2 (zZT (yV (iL (eV 1)) 1 [] (gN 0) (eB2 pF (eV 0) (eC .non)) (eV 0)))))) (g:=(mF)) (rY 1 (zA 2 sc_meeting_of.nd (zSd rfl rfl T.z_min (pS (wW (zX wM) ["curve","levels","least"] ["level"] [] [] (vT 0) (zX6 (zS 1)) rfl rfl rfl (by decide +kernel) (fun _ _ _ _=>(xP 0 (show(List.Nodup (α:=PySem.Str) ["level"]) from by decide +kernel))) (fun _ _ _ _=>(zUF (xZ zXv (zS 0) uA))) (fun _ _ _ _=>(zS 0)))))))
     (zU (f:=(sIf (eB2 qE (eV 2) (eC .non)) (yG (eC .non)) yE)) (g:=(mD)) (yA (xZ mW (zS 2) uA) (zR (z0 uA)) yR)
     (zR (z0 (zI (zY (zTg hr (uV PySem.F.plainAttrs_list PySem.F.slot_list_index PySem.F.type_list_index (zSJ hr) (kL (zS 1)) (yW (zS 2) yI))) (zY (zS 2) zW))))))))
theorem sc_fitted:FnScope ["curve","unmet","first","level"] ["curve"] (zX oI):=⟨rfl,rfl,rfl,by decide +kernel,rfl,by decide +kernel,by decide +kernel⟩
def cE:Sf:=(yG (eV 0))
def bH:Sf:=(zH (sIf (eB2 pF (eV 1) (eC .non)) (zH (rT (eV 1) (gT (zP (gN 2) (zP (gN 3) yH))))
   (fun _=>none)) yE)
   (cE))
def jK:Sf:=(zH (yZ 1 (eIf (tB1 (yO "Curve" "joined" (eV 0))) (zM 1 tL (zZ (eV 0) zT)) (eC .non)))
   (bH))
def b_fitted:Sf :=
   (jK)
def qQ:List D->Option D:=fnF 4 b_fitted
theorem aB (T:Txt w K mg):FnOk P w K mg base CX0 5 T.f_fitted T.fd_fitted ["curve"] (spF K 1 qQ) :=
 wY (k:=4) T.F_fitted sc_fitted fun cdv A outer s H E hr =>
   (zU (f:=(yZ 1 (eIf (tB1 (yO "Curve" "joined" (eV 0))) (zM 1 tL (zZ (eV 0) zT)) (eC .non)))) (g:=(bH)) (zA 1 sc_fitted.nd (zVr (xK (xF T.ca_Curve T.cl_Curve T.n_Curve_joined (zS 0))) (zC (aD T) (hr.mono (by omega)) T.m_meeting_of T.F_meeting_of.kp T.b_meeting_of rfl (zY (zS 0) zW)) uA))
     (zU (f:=(sIf (eB2 pF (eV 1) (eC .non)) (zH (rT (eV 1) (gT (zP (gN 2) (zP (gN 3) yH))))
   (fun _=>none)) yE)) (g:=(cE)) (yA (xZ zXv (zS 1) uA) (zU (nL (zS 1) (oN 2 rfl (zG (xP 2 sc_fitted.nd) (zG (xP 3 sc_fitted.nd) xR)) (yT (yT xA))))
     (zR sE)) yR)
     (zR (z0 (zS 0)))))
theorem sc_curve_of:FnScope ["text","rows","curve","told"] ["text"] (zX tG):=⟨rfl,rfl,rfl,by decide +kernel,rfl,by decide +kernel,by decide +kernel⟩
def nG:Sf:=(yG (zM 1 qQ (zZ (eV 2) zT)))
def mZ:Sf:=(zH (sIf (eB2 gGt (xJ (eV 1)) (eV 3)) (fun _=>none) yE)
   (nG))
def mU:Sf:=(zH (yZ 3 (sZ (eC (.int 1)) (xJ (yO "Curve" "parts" (eV 2)))))
   (mZ))
def mS:Sf:=(zH (yZ 2 (zM 1 w9 (zZ (eV 1) zT)))
   (mU))
def nM:Sf:=(zH (yZ 1 (eL (jL (eV 0) (eC (.str "\n")))))
   (mS))
def b_curve_of:Sf :=
   (nM)
def nK:List D->Option D:=fnF 4 b_curve_of
theorem zXe (T:Txt w K mg):FnOk P w K mg base CX0 6 T.f_curve_of T.fd_curve_of ["text"] (spF K 1 nK) :=
 wY (k:=5) T.F_curve_of sc_curve_of fun cdv A outer s H E hr =>
   (zU (f:=(yZ 1 (eL (jL (eV 0) (eC (.str "\n")))))) (g:=(mS)) (zA 1 sc_curve_of.nd (w8 (zXx (uV PySem.F.plainAttrs_str PySem.F.slot_str_split PySem.F.type_str_split zYc (zS 0) (yW xW yI)))))
     (zU (f:=(yZ 2 (zM 1 w9 (zZ (eV 1) zT)))) (g:=(mU)) (zA 2 sc_curve_of.nd (zC (jT T) (hr.mono (by omega)) T.m_curve_from T.F_curve_from.kp T.b_curve_from rfl (zY (zS 1) zW)))
     (zU (f:=(yZ 3 (sZ (eC (.int 1)) (xJ (yO "Curve" "parts" (eV 2)))))) (g:=(mZ)) (zA 3 sc_curve_of.nd (pB zV (uU rfl T.z_len (xF T.ca_Curve T.cl_Curve T.n_Curve_parts (zS 2)))))
     (zU (f:=(sIf (eB2 gGt (xJ (eV 1)) (eV 3)) (fun _=>none) yE)) (g:=(nG)) (yA (xZ zQL (uU rfl T.z_len (zS 1)) (zS 3)) (zR sE) yR)
     (zR (z0 (zC (aB T) (hr.mono (by omega)) T.m_fitted T.F_fitted.kp T.b_fitted rfl (zY (zS 2) zW))))))))
theorem aG:FnScope ["curve"] ["curve"] (zX vA):=⟨rfl,rfl,rfl,by decide +kernel,rfl,by decide +kernel,by decide +kernel⟩
def dR:Sf:=(yG (wK (eC (.str "\n")) (xD 1 xG (zZ (eV 0) zT))))
def b_curve_text:Sf :=
   (dR)
def uX:List D->Option D:=fnF 1 b_curve_text
theorem kA (T:Txt w K mg):FnOk P w K mg base CX0 4 T.f_curve_text T.fd_curve_text ["curve"] (spF K 1 uX) :=
 wY (k:=3) T.F_curve_text aG fun cdv A outer s H E hr =>
   (zR (z0 (rO (uV PySem.F.plainAttrs_str PySem.F.slot_str_join PySem.F.type_str_join rS xW (yW (pS (tM (sN T) (hr.mono (by omega)) T.m_curve_rows T.F_curve_rows.kp T.b_curve_rows rfl (zY (zS 0) zW))) yI)))))
theorem sc_law:FnScope ["_law_script","_law_cell","_law_number","_law_dims","_law_parts","_law_joined_here","_law_word_here","_law_handed","_law_curve","_law_rows_here","_law_text","_law_found","_law_longer"] ["_law_script"] (zX kB):=⟨rfl,rfl,rfl,by decide +kernel,rfl,by decide +kernel,by decide +kernel⟩
def gP:Sf:=(sIf (wU (tB1 (zM 5 vK (zZ (zM 1 qQ (zZ (eV 8) zT)) (zZ (eV 6) (zZ (eV 3) (zZ (eV 5) (zZ (eV 4) zT)))))))) (yG (eC (.bl false))) yE)
def gK:Sf:=(zH (sIf (sD (wU (tB1 (zM 5 vK (zZ (zM 1 w9 (zZ (eV 12) zT)) (zZ (eV 6) (zZ (eV 3) (zZ (eV 5) (zZ (eV 4) zT)))))))) (eB2 jA (eV 12) (eL (rJ (iL (eV 9)) (yY (zZ (eC (.str "floor 3 4")) (zZ (eC (.str "part")) zT))))))) (yG (eC (.bl false))) yE)
   (gP))
def gR:Sf:=(zH (yZ 12 (eL (rJ (iL (eV 9)) (yY (zZ (eC (.str "floor 3 4")) (zZ (eC (.str "part")) zT))))))
   (gK))
def gG:Sf:=(zH (sIf (wU (tB1 (zM 5 vK (zZ (zM 1 nK (zZ (eV 10) zT)) (zZ (eV 6) (zZ (eV 3) (zZ (eV 5) (zZ (eV 4) zT)))))))) (yG (eC (.bl false))) yE)
   (gR))
def gL:Sf:=(zH (sIf (sD (wU (tB1 (zM 2 xO (zZ (eL (xD 1 xG (zZ (eV 8) zT))) (zZ (eV 9) zT))))) (wU (tB1 (zM 2 xO (zZ (zM 1 uX (zZ (eV 8) zT)) (zZ (eV 10) zT)))))) (yG (eC (.bl false))) yE)
   (gG))
def gI:Sf:=(zH (mB 11 (eV 10))
   (gL))
def fT:Sf:=(zH (zXU 11 (eC (.int 0)) (eC (.str "")))
   (gI))
def gW:Sf:=(zH (xC 11 (xD 1 xG (zZ (eV 8) zT)))
   (fT))
def fV:Sf:=(zH (sIf (sD (wU (tB1 (zM 2 xO (zZ (zM 1 uX (zZ (eV 8) zT)) (zZ (eV 10) zT))))) (wU (tB1 (zM 2 xO (zZ (eL (xD 1 xG (zZ (eV 8) zT))) (zZ (eV 9) zT)))))) (yG (eC (.bl false))) yE)
   (gW))
def gS:Sf:=(zH (yZ 10 (wK (eC (.str "\n")) (iL (eV 9))))
   (fV))
def bO:Sf:=(zH (yZ 9 (eL (xD 4 nJ (zZ (eV 6) (zZ (eV 3) (zZ (eV 5) (zZ (eV 4) zT)))))))
   (gS))
def dN:Sf:=(zH (zVk 7)
   (bO))
def cS:Sf:=(zH (yZ 8 (jM 7 "Curve" ["name","dims","joined"] "parts" 4 iO kY (zZ (eV 6) (zZ (eV 3) (zZ (eV 5) (zZ (eV 7) zT))))))
   (dN))
def bW:Sf:=(zH (xC 7 (yV (iL (eV 4)) 3 [] (gT (zP (gN 0) (zP (gN 1) (zP (gN 2) yH)))) tOK (lH "Part" ["corner","turn","back"] 3 kQ (zZ (eV 0) (zZ (eV 1) (zZ (eV 2) zT))))))
   (cS))
def lY:Sf:=(zH (yZ 6 (zM 1 nF (zZ (eV 1) zT)))
   (bW))
def bS:Sf:=(zH (sIf (eB2 cQ (wC (uN (eV 2) (eC (.int 2))) (eC (.int 2))) (eC (.int 1))) (zH (yZ 4 (eL (xD 2 tY (zZ (eV 3) (zZ (uN (eV 2) (eC (.int 8))) zT)))))
   (yZ 5 (xE (eB2 cQ (wC (uN (eV 2) (eC (.int 4))) (eC (.int 2))) (eC (.int 1)))))) yE)
   (lY))
def dG:Sf:=(zH (yZ 5 (eC (.bl false)))
   (bS))
def mE:Sf:=(zH (yZ 4 (eL (xD 2 pQ (zZ (eV 3) (zZ (eV 1) zT)))))
   (dG))
def bJ:Sf:=(zH (yZ 3 (sZ (eC (.int 2)) (wC (eV 2) (eC (.int 2)))))
   (mE))
def oR:Sf:=(zH (yZ 2 (zM 2 xB (zZ (eV 1) (zZ (eC (.int 69621)) zT))))
   (bJ))
def zYC:Sf:=(yG (eC (.bl true)))
def zRV:Sf:=(zH (rM (rJ (pO (eV 0) oNo (mH (eC (.int 20)))) (yY (zZ (eC (.int 9)) zT))) (gN 1) (oR))
   (zYC))
def zTd:Sf :=
   (zRV)
def zZV:List D->Option D:=fnF 13 zTd
theorem zQu (T:Txt w K mg):FnOk P w K mg base CX0 10 T.f_law T.fd_law ["_law_script"] (spF K 1 zZV) :=
 wY (k:=9) T.F_law sc_law fun cdv A outer s H E hr =>
   (zU (f:=(rM (rJ (pO (eV 0) oNo (mH (eC (.int 20)))) (yY (zZ (eC (.int 9)) zT))) (gN 1) (oR))) (g:=(zYC)) (mQ PassesOwn.never rfl (zOy (zW4 (zX3 (zS 0) zQM (zV7 zV)) (yD (zY zV zW)))) (xP 1 sc_law.nd) (zU (f:=(yZ 2 (zM 2 xB (zZ (eV 1) (zZ (eC (.int 69621)) zT))))) (g:=(bJ)) (zA 2 sc_law.nd (zC (oE T) (hr.mono (by omega)) T.m_law_mix T.F_law_mix.kp T.b_law_mix rfl (zY (zS 1) (zY zV zW))))
     (zU (f:=(yZ 3 (sZ (eC (.int 2)) (wC (eV 2) (eC (.int 2)))))) (g:=(mE)) (zA 3 sc_law.nd (pB zV (uK (zS 2) zV)))
     (zU (f:=(yZ 4 (eL (xD 2 pQ (zZ (eV 3) (zZ (eV 1) zT)))))) (g:=(dG)) (zA 4 sc_law.nd (w8 (tM (zYN T) (hr.mono (by omega)) T.m_law_loose T.F_law_loose.kp T.b_law_loose rfl (zY (zS 3) (zY (zS 1) zW)))))
     (zU (f:=(yZ 5 (eC (.bl false)))) (g:=(bS)) (zA 5 sc_law.nd tW)
     (zU (f:=(sIf (eB2 cQ (wC (uN (eV 2) (eC (.int 2))) (eC (.int 2))) (eC (.int 1))) (zH (yZ 4 (eL (xD 2 tY (zZ (eV 3) (zZ (uN (eV 2) (eC (.int 8))) zT)))))
   (yZ 5 (xE (eB2 cQ (wC (uN (eV 2) (eC (.int 4))) (eC (.int 2))) (eC (.int 1)))))) yE)) (g:=(lY)) (yA (xZ (zW0 hr) (uK (sC (zS 2) zV) zV) zV) (zU (zA 4 sc_law.nd (w8 (tM (aX T) (hr.mono (by omega)) T.m_law_joined T.F_law_joined.kp T.b_law_joined rfl (zY (zS 3) (zY (sC (zS 2) zV) zW)))))
     (zR (zA 5 sc_law.nd (tD (zW0 hr) (uK (sC (zS 2) zV) zV) zV)))) yR)
     (zU (f:=(yZ 6 (zM 1 nF (zZ (eV 1) zT)))) (g:=(bW)) (zA 6 sc_law.nd (zC (zXM T) (hr.mono (by omega)) T.m_law_word T.F_law_word.kp T.b_law_word rfl (zY (zS 1) zW)))
     (zU (f:=(xC 7 (yV (iL (eV 4)) 3 [] (gT (zP (gN 0) (zP (gN 1) (zP (gN 2) yH)))) tOK (lH "Part" ["corner","turn","back"] 3 kQ (zZ (eV 0) (zZ (eV 1) (zZ (eV 2) zT))))))) (g:=(cS)) (sR (zX kB) ["_law_script","_law_cell","_law_number","_law_dims","_law_parts","_law_joined_here","_law_word_here","_law_handed","_law_curve","_law_rows_here","_law_text","_law_found","_law_longer"] ["_law_corner","_law_turn_here","_law_back"] [] [] (cO (xV (vT 0) (xV (vT 1) (xV (vT 2) tT)))) 7 sc_law.nd rfl rfl (zX6 (zS 4)) rfl rfl rfl (by decide +kernel) (fun _ _ _ _=>(oN 3 rfl (zG (xP 0 (show(List.Nodup (α:=PySem.Str) ["_law_corner","_law_turn_here","_law_back"]) from by decide +kernel)) (zG (xP 1 (show(List.Nodup (α:=PySem.Str) ["_law_corner","_law_turn_here","_law_back"]) from by decide +kernel)) (zG (xP 2 (show(List.Nodup (α:=PySem.Str) ["_law_corner","_law_turn_here","_law_back"]) from by decide +kernel)) xR))) (yT (yT (yT xA))))) (fun _ _ _ _=>yK) (fun _ _ _ _=>(zYx T.ca_Part T.mk_Part (zX2 T) (hr.mono (by omega)) T.mc_Part T.bi_Part rfl (zY (zS 0) (zY (zS 1) (zY (zS 2) zW))))))
     (zU (f:=(yZ 8 (jM 7 "Curve" ["name","dims","joined"] "parts" 4 iO kY (zZ (eV 6) (zZ (eV 3) (zZ (eV 5) (zZ (eV 7) zT))))))) (g:=(dN)) (zA 8 sc_law.nd (zSR 7 T.ca_Curve T.mk_Curve (zWq T) (hr.mono (by omega)) T.mc_Curve T.bi_Curve rfl (zY (zS 6) (zY (zS 3) (zY (zS 5) (zY (zS 7) zW))))))
     (zU (f:=(zVk 7)) (g:=(bO)) (zSA 7 (zPG PySem.F.plainAttrs_list PySem.F.slot_list_pop PySem.F.type_list_pop zPI (pv 7)))
     (zU (f:=(yZ 9 (eL (xD 4 nJ (zZ (eV 6) (zZ (eV 3) (zZ (eV 5) (zZ (eV 4) zT)))))))) (g:=(gS)) (zA 9 sc_law.nd (w8 (tM (zYs T) (hr.mono (by omega)) T.m_law_rows T.F_law_rows.kp T.b_law_rows rfl (zY (zS 6) (zY (zS 3) (zY (zS 5) (zY (zS 4) zW)))))))
     (zU (f:=(yZ 10 (wK (eC (.str "\n")) (iL (eV 9))))) (g:=(fV)) (zA 10 sc_law.nd (rO (uV PySem.F.plainAttrs_str PySem.F.slot_str_join PySem.F.type_str_join rS xW (yW (kL (zS 9)) yI))))
     (zU (f:=(sIf (sD (wU (tB1 (zM 2 xO (zZ (zM 1 uX (zZ (eV 8) zT)) (zZ (eV 10) zT))))) (wU (tB1 (zM 2 xO (zZ (eL (xD 1 xG (zZ (eV 8) zT))) (zZ (eV 9) zT)))))) (yG (eC (.bl false))) yE)) (g:=(gW)) (yA (bB (oZ (uE (xK (zC (sK T) (hr.mono (by omega)) T.m_law_same T.F_law_same.kp T.b_law_same rfl (zY (zC (kA T) (hr.mono (by omega)) T.m_curve_text T.F_curve_text.kp T.b_curve_text rfl (zY (zS 8) zW)) (zY (zS 10) zW))))) (rP (uE (xK (zC (sK T) (hr.mono (by omega)) T.m_law_same T.F_law_same.kp T.b_law_same rfl (zY (w8 (tM (sN T) (hr.mono (by omega)) T.m_curve_rows T.F_curve_rows.kp T.b_curve_rows rfl (zY (zS 8) zW))) (zY (zS 9) zW)))))))) (zR (z0 tW)) yR)
     (zU (f:=(xC 11 (xD 1 xG (zZ (eV 8) zT)))) (g:=(fT)) (tN 11 sc_law.nd (tM (sN T) (hr.mono (by omega)) T.m_curve_rows T.F_curve_rows.kp T.b_curve_rows rfl (zY (zS 8) zW)))
     (zU (f:=(zXU 11 (eC (.int 0)) (eC (.str "")))) (g:=(gI)) (zVA 11 xW zV)
     (zU (f:=(mB 11 (eV 10))) (g:=(gL)) (fW 11 (uV PySem.F.plainAttrs_list PySem.F.slot_list_append PySem.F.type_list_append sW (pv 11) (yW (zS 10) yI)))
     (zU (f:=(sIf (sD (wU (tB1 (zM 2 xO (zZ (eL (xD 1 xG (zZ (eV 8) zT))) (zZ (eV 9) zT))))) (wU (tB1 (zM 2 xO (zZ (zM 1 uX (zZ (eV 8) zT)) (zZ (eV 10) zT)))))) (yG (eC (.bl false))) yE)) (g:=(gG)) (yA (bB (oZ (uE (xK (zC (sK T) (hr.mono (by omega)) T.m_law_same T.F_law_same.kp T.b_law_same rfl (zY (w8 (tM (sN T) (hr.mono (by omega)) T.m_curve_rows T.F_curve_rows.kp T.b_curve_rows rfl (zY (zS 8) zW))) (zY (zS 9) zW))))) (rP (uE (xK (zC (sK T) (hr.mono (by omega)) T.m_law_same T.F_law_same.kp T.b_law_same rfl (zY (zC (kA T) (hr.mono (by omega)) T.m_curve_text T.F_curve_text.kp T.b_curve_text rfl (zY (zS 8) zW)) (zY (zS 10) zW)))))))) (zR (z0 tW)) yR)
     (zU (f:=(sIf (wU (tB1 (zM 5 vK (zZ (zM 1 nK (zZ (eV 10) zT)) (zZ (eV 6) (zZ (eV 3) (zZ (eV 5) (zZ (eV 4) zT)))))))) (yG (eC (.bl false))) yE)) (g:=(gR)) (yA (uE (xK (zC (nQ T) (hr.mono (by omega)) T.m_law_alike T.F_law_alike.kp T.b_law_alike rfl (zY (zC (zXe T) (hr.mono (by omega)) T.m_curve_of T.F_curve_of.kp T.b_curve_of rfl (zY (zS 10) zW)) (zY (zS 6) (zY (zS 3) (zY (zS 5) (zY (zS 4) zW)))))))) (zR (z0 tW)) yR)
     (zU (f:=(yZ 12 (eL (rJ (iL (eV 9)) (yY (zZ (eC (.str "floor 3 4")) (zZ (eC (.str "part")) zT))))))) (g:=(gK)) (zA 12 sc_law.nd (w8 (iG (kL (zS 9)) (pS (yD (zY xW (zY xW zW)))))))
     (zU (f:=(sIf (sD (wU (tB1 (zM 5 vK (zZ (zM 1 w9 (zZ (eV 12) zT)) (zZ (eV 6) (zZ (eV 3) (zZ (eV 5) (zZ (eV 4) zT)))))))) (eB2 jA (eV 12) (eL (rJ (iL (eV 9)) (yY (zZ (eC (.str "floor 3 4")) (zZ (eC (.str "part")) zT))))))) (yG (eC (.bl false))) yE)) (g:=(gP)) (yA (bB (oZ (uE (xK (zC (nQ T) (hr.mono (by omega)) T.m_law_alike T.F_law_alike.kp T.b_law_alike rfl (zY (zC (jT T) (hr.mono (by omega)) T.m_curve_from T.F_curve_from.kp T.b_curve_from rfl (zY (zS 12) zW)) (zY (zS 6) (zY (zS 3) (zY (zS 5) (zY (zS 4) zW)))))))) (rP (xZ (bP hr) (zS 12) (w8 (iG (kL (zS 9)) (pS (yD (zY xW (zY xW zW)))))))))) (zR (z0 tW)) yR)
     (zR (yA (uE (xK (zC (nQ T) (hr.mono (by omega)) T.m_law_alike T.F_law_alike.kp T.b_law_alike rfl (zY (zC (aB T) (hr.mono (by omega)) T.m_fitted T.F_fitted.kp T.b_fitted rfl (zY (zS 8) zW)) (zY (zS 6) (zY (zS 3) (zY (zS 5) (zY (zS 4) zW)))))))) (zR (z0 tW)) yR))))))))))))))))))))))
     (zR (z0 tW)))
end
open PySem.W
theorem zQx {l:OpenLaw}{w:World}{K:Frag}{h:Heap}{mg:Str->Option Value}{fa:Addr}
   {f0:Addr} {od0 an0:Option Addr} {sl0:Array (Option Value)} {oc0 kV0 dc0 pm0 cd0 ct0:Value}
   {f1:Addr} {od1 an1:Option Addr} {sl1:Array (Option Value)} {oc1 kV1 dc1 pm1 cd1 ct1:Value}
   {f2:Addr} {od2 an2:Option Addr} {sl2:Array (Option Value)} {oc2 kV2 dc2 pm2 cd2 ct2:Value}
   {f3:Addr} {od3 an3:Option Addr} {sl3:Array (Option Value)} {oc3 kV3 dc3 pm3 cd3 ct3:Value}
   {f4:Addr} {od4 an4:Option Addr} {sl4:Array (Option Value)} {oc4 kV4 dc4 pm4 cd4 ct4:Value}
   {f5:Addr} {od5 an5:Option Addr} {sl5:Array (Option Value)} {oc5 kV5 dc5 pm5 cd5 ct5:Value}
   {f6:Addr} {od6 an6:Option Addr} {sl6:Array (Option Value)} {oc6 kV6 dc6 pm6 cd6 ct6:Value}
   {f7:Addr} {od7 an7:Option Addr} {sl7:Array (Option Value)} {oc7 kV7 dc7 pm7 cd7 ct7:Value}
   {f8:Addr} {od8 an8:Option Addr} {sl8:Array (Option Value)} {oc8 kV8 dc8 pm8 cd8 ct8:Value}
   {f9:Addr} {od9 an9:Option Addr} {sl9:Array (Option Value)} {oc9 kV9 dc9 pm9 cd9 ct9:Value}
   {f10:Addr} {od10 an10:Option Addr} {sl10:Array (Option Value)} {oc10 kV10 dc10 pm10 cd10 ct10:Value}
   {f11:Addr} {od11 an11:Option Addr} {sl11:Array (Option Value)} {oc11 kV11 dc11 pm11 cd11 ct11:Value}
   {f12:Addr} {od12 an12:Option Addr} {sl12:Array (Option Value)} {oc12 kV12 dc12 pm12 cd12 ct12:Value}
   {f13:Addr} {od13 an13:Option Addr} {sl13:Array (Option Value)} {oc13 kV13 dc13 pm13 cd13 ct13:Value}
   {f14:Addr} {od14 an14:Option Addr} {sl14:Array (Option Value)} {oc14 kV14 dc14 pm14 cd14 ct14:Value}
   {f15:Addr} {od15 an15:Option Addr} {sl15:Array (Option Value)} {oc15 kV15 dc15 pm15 cd15 ct15:Value}
   {f16:Addr} {od16 an16:Option Addr} {sl16:Array (Option Value)} {oc16 kV16 dc16 pm16 cd16 ct16:Value}
   {f17:Addr} {od17 an17:Option Addr} {sl17:Array (Option Value)} {oc17 kV17 dc17 pm17 cd17 ct17:Value}
   {f18:Addr} {od18 an18:Option Addr} {sl18:Array (Option Value)} {oc18 kV18 dc18 pm18 cd18 ct18:Value}
   {f19:Addr} {od19 an19:Option Addr} {sl19:Array (Option Value)} {oc19 kV19 dc19 pm19 cd19 ct19:Value}
   {f20:Addr} {od20 an20:Option Addr} {sl20:Array (Option Value)} {oc20 kV20 dc20 pm20 cd20 ct20:Value}
   {f21:Addr} {od21 an21:Option Addr} {sl21:Array (Option Value)} {oc21 kV21 dc21 pm21 cd21 ct21:Value}
   {f22:Addr} {od22 an22:Option Addr} {sl22:Array (Option Value)} {oc22 kV22 dc22 pm22 cd22 ct22:Value}
   {f23:Addr} {od23 an23:Option Addr} {sl23:Array (Option Value)} {oc23 kV23 dc23 pm23 cd23 ct23:Value}
   {f24:Addr} {od24 an24:Option Addr} {sl24:Array (Option Value)} {oc24 kV24 dc24 pm24 cd24 ct24:Value}
   {f25:Addr} {od25 an25:Option Addr} {sl25:Array (Option Value)} {oc25 kV25 dc25 pm25 cd25 ct25:Value}
   {f26:Addr} {od26 an26:Option Addr} {sl26:Array (Option Value)} {oc26 kV26 dc26 pm26 cd26 ct26:Value}
   {f27:Addr} {od27 an27:Option Addr} {sl27:Array (Option Value)} {oc27 kV27 dc27 pm27 cd27 ct27:Value}
   {f28:Addr} {od28 an28:Option Addr} {sl28:Array (Option Value)} {oc28 kV28 dc28 pm28 cd28 ct28:Value}
   {f29:Addr} {od29 an29:Option Addr} {sl29:Array (Option Value)} {oc29 kV29 dc29 pm29 cd29 ct29:Value}
   {f30:Addr} {od30 an30:Option Addr} {sl30:Array (Option Value)} {oc30 kV30 dc30 pm30 cd30 ct30:Value}
   {f31:Addr} {od31 an31:Option Addr} {sl31:Array (Option Value)} {oc31 kV31 dc31 pm31 cd31 ct31:Value}
   {f32:Addr} {od32 an32:Option Addr} {sl32:Array (Option Value)} {oc32 kV32 dc32 pm32 cd32 ct32:Value}
   {f33:Addr} {od33 an33:Option Addr} {sl33:Array (Option Value)} {oc33 kV33 dc33 pm33 cd33 ct33:Value}
   {f34:Addr} {od34 an34:Option Addr} {sl34:Array (Option Value)} {oc34 kV34 dc34 pm34 cd34 ct34:Value}
   {f35:Addr} {od35 an35:Option Addr} {sl35:Array (Option Value)} {oc35 kV35 dc35 pm35 cd35 ct35:Value}
   {f36:Addr} {od36 an36:Option Addr} {sl36:Array (Option Value)} {oc36 kV36 dc36 pm36 cd36 ct36:Value}
   {f37:Addr} {od37 an37:Option Addr} {sl37:Array (Option Value)} {oc37 kV37 dc37 pm37 cd37 ct37:Value}
   {f38:Addr} {od38 an38:Option Addr} {sl38:Array (Option Value)} {oc38 kV38 dc38 pm38 cd38 ct38:Value}
   {f39:Addr} {od39 an39:Option Addr} {sl39:Array (Option Value)} {oc39 kV39 dc39 pm39 cd39 ct39:Value}
   {cC0 cF0:Addr} {codi0 cani0:Option Addr} {csl0:Array (Option Value)} {coc0 ckV0 cdc0 cpm0 ccd0 cct0:Value}
   {cC1 cF1:Addr} {codi1 cani1:Option Addr} {csl1:Array (Option Value)} {coc1 ckV1 cdc1 cpm1 ccd1 cct1:Value}
   {t_BITS:Tok}
   {t_FLIPS:Tok}
   {t_AXES:Tok}
   {t_LETTERS:Tok}
   {t_LONGEST_WORD:Tok}
   {da_PROMISES:Addr} {dn_PROMISES:Nat} {dt_PROMISES_0  dt_PROMISES_1  : Tok}
   {da_DIMS:Addr} {dn_DIMS:Nat} {dt_DIMS_0 dv_DIMS_0 dt_DIMS_1 dv_DIMS_1:Tok} (X:K.In h) (G:h.Ns mainGlobals mg) (hfa:mg "law"=some (.ref fa))
   (a0:nsIn K mainGlobals "_law_mix"=some (some (.ref f0))) (l0:K.lookup f0=some ⟨oc0,od0,.func (fnOf "_law_mix" "_law_mix" (zO rD) (zQ rD) (zX rD) .none kV0 dc0 pm0 an0 cd0 ct0),sl0⟩) (c0:codeIn K cd0 "_law_mix"=true) (k0:keepIn K (.ref f0)=true)
   (a1:nsIn K mainGlobals "_law_corners"=some (some (.ref f1))) (l1:K.lookup f1=some ⟨oc1,od1,.func (fnOf "_law_corners" "_law_corners" (zO wT) (zQ wT) (zX wT) .none kV1 dc1 pm1 an1 cd1 ct1),sl1⟩) (c1:codeIn K cd1 "_law_corners"=true) (k1:keepIn K (.ref f1)=true)
   (a2:nsIn K mainGlobals "_law_turn"=some (some (.ref f2))) (l2:K.lookup f2=some ⟨oc2,od2,.func (fnOf "_law_turn" "_law_turn" (zO uM) (zQ uM) (zX uM) .none kV2 dc2 pm2 an2 cd2 ct2),sl2⟩) (c2:codeIn K cd2 "_law_turn"=true) (k2:keepIn K (.ref f2)=true)
   (a3:nsIn K mainGlobals "_law_loose"=some (some (.ref f3))) (l3:K.lookup f3=some ⟨oc3,od3,.func (fnOf "_law_loose" "_law_loose" (zO uI) (zQ uI) (zX uI) .none kV3 dc3 pm3 an3 cd3 ct3),sl3⟩) (c3:codeIn K cd3 "_law_loose"=true) (k3:keepIn K (.ref f3)=true)
   (a4:nsIn K mainGlobals "_law_word"=some (some (.ref f4))) (l4:K.lookup f4=some ⟨oc4,od4,.func (fnOf "_law_word" "_law_word" (zO uL) (zQ uL) (zX uL) .none kV4 dc4 pm4 an4 cd4 ct4),sl4⟩) (c4:codeIn K cd4 "_law_word"=true) (k4:keepIn K (.ref f4)=true)
   (a5:nsIn K mainGlobals "_law_rows"=some (some (.ref f5))) (l5:K.lookup f5=some ⟨oc5,od5,.func (fnOf "_law_rows" "_law_rows" (zO vJ) (zQ vJ) (zX vJ) .none kV5 dc5 pm5 an5 cd5 ct5),sl5⟩) (c5:codeIn K cd5 "_law_rows"=true) (k5:keepIn K (.ref f5)=true)
   (a6:nsIn K mainGlobals "corner_text"=some (some (.ref f6))) (l6:K.lookup f6=some ⟨oc6,od6,.func (fnOf "corner_text" "corner_text" (zO wJ) (zQ wJ) (zX wJ) .none kV6 dc6 pm6 an6 cd6 ct6),sl6⟩) (c6:codeIn K cd6 "corner_text"=true) (k6:keepIn K (.ref f6)=true)
   (a7:nsIn K mainGlobals "turn_text"=some (some (.ref f7))) (l7:K.lookup f7=some ⟨oc7,od7,.func (fnOf "turn_text" "turn_text" (zO vI) (zQ vI) (zX vI) .none kV7 dc7 pm7 an7 cd7 ct7),sl7⟩) (c7:codeIn K cd7 "turn_text"=true) (k7:keepIn K (.ref f7)=true)
   (a8:nsIn K mainGlobals "part_row"=some (some (.ref f8))) (l8:K.lookup f8=some ⟨oc8,od8,.func (fnOf "part_row" "part_row" (zO sY) (zQ sY) (zX sY) .none kV8 dc8 pm8 an8 cd8 ct8),sl8⟩) (c8:codeIn K cd8 "part_row"=true) (k8:keepIn K (.ref f8)=true)
   (a9:nsIn K mainGlobals "curve_rows"=some (some (.ref f9))) (l9:K.lookup f9=some ⟨oc9,od9,.func (fnOf "curve_rows" "curve_rows" (zO w6) (zQ w6) (zX w6) .none kV9 dc9 pm9 an9 cd9 ct9),sl9⟩) (c9:codeIn K cd9 "curve_rows"=true) (k9:keepIn K (.ref f9)=true)
   (a10:nsIn K mainGlobals "_law_base"=some (some (.ref f10))) (l10:K.lookup f10=some ⟨oc10,od10,.func (fnOf "_law_base" "_law_base" (zO sV) (zQ sV) (zX sV) .none kV10 dc10 pm10 an10 cd10 ct10),sl10⟩) (c10:codeIn K cd10 "_law_base"=true) (k10:keepIn K (.ref f10)=true)
   (a11:nsIn K mainGlobals "_law_after"=some (some (.ref f11))) (l11:K.lookup f11=some ⟨oc11,od11,.func (fnOf "_law_after" "_law_after" (zO vM) (zQ vM) (zX vM) .none kV11 dc11 pm11 an11 cd11 ct11),sl11⟩) (c11:codeIn K cd11 "_law_after"=true) (k11:keepIn K (.ref f11)=true)
   (a12:nsIn K mainGlobals "_law_undone"=some (some (.ref f12))) (l12:K.lookup f12=some ⟨oc12,od12,.func (fnOf "_law_undone" "_law_undone" (zO uW) (zQ uW) (zX uW) .none kV12 dc12 pm12 an12 cd12 ct12),sl12⟩) (c12:codeIn K cd12 "_law_undone"=true) (k12:keepIn K (.ref f12)=true)
   (a13:nsIn K mainGlobals "_law_turned"=some (some (.ref f13))) (l13:K.lookup f13=some ⟨oc13,od13,.func (fnOf "_law_turned" "_law_turned" (zO w4) (zQ w4) (zX w4) .none kV13 dc13 pm13 an13 cd13 ct13),sl13⟩) (c13:codeIn K cd13 "_law_turned"=true) (k13:keepIn K (.ref f13)=true)
   (a14:nsIn K mainGlobals "_law_joined"=some (some (.ref f14))) (l14:K.lookup f14=some ⟨oc14,od14,.func (fnOf "_law_joined" "_law_joined" (zO vY) (zQ vY) (zX vY) .none kV14 dc14 pm14 an14 cd14 ct14),sl14⟩) (c14:codeIn K cd14 "_law_joined"=true) (k14:keepIn K (.ref f14)=true)
   (a15:nsIn K mainGlobals "_law_same"=some (some (.ref f15))) (l15:K.lookup f15=some ⟨oc15,od15,.func (fnOf "_law_same" "_law_same" (zO sU) (zQ sU) (zX sU) .none kV15 dc15 pm15 an15 cd15 ct15),sl15⟩) (c15:codeIn K cd15 "_law_same"=true) (k15:keepIn K (.ref f15)=true)
   (a16:nsIn K mainGlobals "_law_alike"=some (some (.ref f16))) (l16:K.lookup f16=some ⟨oc16,od16,.func (fnOf "_law_alike" "_law_alike" (zO vL) (zQ vL) (zX vL) .none kV16 dc16 pm16 an16 cd16 ct16),sl16⟩) (c16:codeIn K cd16 "_law_alike"=true) (k16:keepIn K (.ref f16)=true)
   (a17:nsIn K mainGlobals "is_made_of"=some (some (.ref f17))) (l17:K.lookup f17=some ⟨oc17,od17,.func (fnOf "is_made_of" "is_made_of" (zO vZ) (zQ vZ) (zX vZ) .none kV17 dc17 pm17 an17 cd17 ct17),sl17⟩) (c17:codeIn K cd17 "is_made_of"=true) (k17:keepIn K (.ref f17)=true)
   (a18:nsIn K mainGlobals "is_word"=some (some (.ref f18))) (l18:K.lookup f18=some ⟨oc18,od18,.func (fnOf "is_word" "is_word" (zO rE) (zQ rE) (zX rE) .none kV18 dc18 pm18 an18 cd18 ct18),sl18⟩) (c18:codeIn K cd18 "is_word"=true) (k18:keepIn K (.ref f18)=true)
   (a19:nsIn K mainGlobals "read_head"=some (some (.ref f19))) (l19:K.lookup f19=some ⟨oc19,od19,.func (fnOf "read_head" "read_head" (zO uJ) (zQ uJ) (zX uJ) .none kV19 dc19 pm19 an19 cd19 ct19),sl19⟩) (c19:codeIn K cd19 "read_head"=true) (k19:keepIn K (.ref f19)=true)
   (a20:nsIn K mainGlobals "words_at"=some (some (.ref f20))) (l20:K.lookup f20=some ⟨oc20,od20,.func (fnOf "words_at" "words_at" (zO sO) (zQ sO) (zX sO) .none kV20 dc20 pm20 an20 cd20 ct20),sl20⟩) (c20:codeIn K cd20 "words_at"=true) (k20:keepIn K (.ref f20)=true)
   (a21:nsIn K mainGlobals "corner_of"=some (some (.ref f21))) (l21:K.lookup f21=some ⟨oc21,od21,.func (fnOf "corner_of" "corner_of" (zO vH) (zQ vH) (zX vH) .none kV21 dc21 pm21 an21 cd21 ct21),sl21⟩) (c21:codeIn K cd21 "corner_of"=true) (k21:keepIn K (.ref f21)=true)
   (a22:nsIn K mainGlobals "turn_of"=some (some (.ref f22))) (l22:K.lookup f22=some ⟨oc22,od22,.func (fnOf "turn_of" "turn_of" (zO uG) (zQ uG) (zX uG) .none kV22 dc22 pm22 an22 cd22 ct22),sl22⟩) (c22:codeIn K cd22 "turn_of"=true) (k22:keepIn K (.ref f22)=true)
   (a23:nsIn K mainGlobals "read_part"=some (some (.ref f23))) (l23:K.lookup f23=some ⟨oc23,od23,.func (fnOf "read_part" "read_part" (zO uH) (zQ uH) (zX uH) .none kV23 dc23 pm23 an23 cd23 ct23),sl23⟩) (c23:codeIn K cd23 "read_part"=true) (k23:keepIn K (.ref f23)=true)
   (a24:nsIn K mainGlobals "full"=some (some (.ref f24))) (l24:K.lookup f24=some ⟨oc24,od24,.func (fnOf "full" "full" (zO gC) (zQ gC) (zX gC) .none kV24 dc24 pm24 an24 cd24 ct24),sl24⟩) (c24:codeIn K cd24 "full"=true) (k24:keepIn K (.ref f24)=true)
   (a25:nsIn K mainGlobals "curve_from"=some (some (.ref f25))) (l25:K.lookup f25=some ⟨oc25,od25,.func (fnOf "curve_from" "curve_from" (zO uZ) (zQ uZ) (zX uZ) .none kV25 dc25 pm25 an25 cd25 ct25),sl25⟩) (c25:codeIn K cd25 "curve_from"=true) (k25:keepIn K (.ref f25)=true)
   (a26:nsIn K mainGlobals "still"=some (some (.ref f26))) (l26:K.lookup f26=some ⟨oc26,od26,.func (fnOf "still" "still" (zO mY) (zQ mY) (zX mY) .none kV26 dc26 pm26 an26 cd26 ct26),sl26⟩) (c26:codeIn K cd26 "still"=true) (k26:keepIn K (.ref f26)=true)
   (a27:nsIn K mainGlobals "first_state"=some (some (.ref f27))) (l27:K.lookup f27=some ⟨oc27,od27,.func (fnOf "first_state" "first_state" (zO vW) (zQ vW) (zX vW) .none kV27 dc27 pm27 an27 cd27 ct27),sl27⟩) (c27:codeIn K cd27 "first_state"=true) (k27:keepIn K (.ref f27)=true)
   (a28:nsIn K mainGlobals "walked"=some (some (.ref f28))) (l28:K.lookup f28=some ⟨oc28,od28,.func (fnOf "walked" "walked" (zO oM) (zQ oM) (zX oM) .none kV28 dc28 pm28 an28 cd28 ct28),sl28⟩) (c28:codeIn K cd28 "walked"=true) (k28:keepIn K (.ref f28)=true)
   (a29:nsIn K mainGlobals "after"=some (some (.ref f29))) (l29:K.lookup f29=some ⟨oc29,od29,.func (fnOf "after" "after" (zO nV) (zQ nV) (zX nV) .none kV29 dc29 pm29 an29 cd29 ct29),sl29⟩) (c29:codeIn K cd29 "after"=true) (k29:keepIn K (.ref f29)=true)
   (a30:nsIn K mainGlobals "turned"=some (some (.ref f30))) (l30:K.lookup f30=some ⟨oc30,od30,.func (fnOf "turned" "turned" (zO pY) (zQ pY) (zX pY) .none kV30 dc30 pm30 an30 cd30 ct30),sl30⟩) (c30:codeIn K cd30 "turned"=true) (k30:keepIn K (.ref f30)=true)
   (a31:nsIn K mainGlobals "part_at"=some (some (.ref f31))) (l31:K.lookup f31=some ⟨oc31,od31,.func (fnOf "part_at" "part_at" (zO rF) (zQ rF) (zX rF) .none kV31 dc31 pm31 an31 cd31 ct31),sl31⟩) (c31:codeIn K cd31 "part_at"=true) (k31:keepIn K (.ref f31)=true)
   (a32:nsIn K mainGlobals "next_to"=some (some (.ref f32))) (l32:K.lookup f32=some ⟨oc32,od32,.func (fnOf "next_to" "next_to" (zO sP) (zQ sP) (zX sP) .none kV32 dc32 pm32 an32 cd32 ct32),sl32⟩) (c32:codeIn K cd32 "next_to"=true) (k32:keepIn K (.ref f32)=true)
   (a33:nsIn K mainGlobals "deeper"=some (some (.ref f33))) (l33:K.lookup f33=some ⟨oc33,od33,.func (fnOf "deeper" "deeper" (zO qW) (zQ qW) (zX qW) .none kV33 dc33 pm33 an33 cd33 ct33),sl33⟩) (c33:codeIn K cd33 "deeper"=true) (k33:keepIn K (.ref f33)=true)
   (a34:nsIn K mainGlobals "unmet_at"=some (some (.ref f34))) (l34:K.lookup f34=some ⟨oc34,od34,.func (fnOf "unmet_at" "unmet_at" (zO sQ) (zQ sQ) (zX sQ) .none kV34 dc34 pm34 an34 cd34 ct34),sl34⟩) (c34:codeIn K cd34 "unmet_at"=true) (k34:keepIn K (.ref f34)=true)
   (a35:nsIn K mainGlobals "meeting_of"=some (some (.ref f35))) (l35:K.lookup f35=some ⟨oc35,od35,.func (fnOf "meeting_of" "meeting_of" (zO wM) (zQ wM) (zX wM) .none kV35 dc35 pm35 an35 cd35 ct35),sl35⟩) (c35:codeIn K cd35 "meeting_of"=true) (k35:keepIn K (.ref f35)=true)
   (a36:nsIn K mainGlobals "fitted"=some (some (.ref f36))) (l36:K.lookup f36=some ⟨oc36,od36,.func (fnOf "fitted" "fitted" (zO oI) (zQ oI) (zX oI) .none kV36 dc36 pm36 an36 cd36 ct36),sl36⟩) (c36:codeIn K cd36 "fitted"=true) (k36:keepIn K (.ref f36)=true)
   (a37:nsIn K mainGlobals "curve_of"=some (some (.ref f37))) (l37:K.lookup f37=some ⟨oc37,od37,.func (fnOf "curve_of" "curve_of" (zO tG) (zQ tG) (zX tG) .none kV37 dc37 pm37 an37 cd37 ct37),sl37⟩) (c37:codeIn K cd37 "curve_of"=true) (k37:keepIn K (.ref f37)=true)
   (a38:nsIn K mainGlobals "curve_text"=some (some (.ref f38))) (l38:K.lookup f38=some ⟨oc38,od38,.func (fnOf "curve_text" "curve_text" (zO vA) (zQ vA) (zX vA) .none kV38 dc38 pm38 an38 cd38 ct38),sl38⟩) (c38:codeIn K cd38 "curve_text"=true) (k38:keepIn K (.ref f38)=true)
   (a39:nsIn K mainGlobals "law"=some (some (.ref f39))) (l39:K.lookup f39=some ⟨oc39,od39,.func (fnOf "law" "law" (zO kB) (zQ kB) (zX kB) .none kV39 dc39 pm39 an39 cd39 ct39),sl39⟩) (c39:codeIn K cd39 "law"=true) (k39:keepIn K (.ref f39)=true)
   (ca0:nsIn K mainGlobals "Part"=some (some (.ref cC0))) (ci0:findIn K (.ref cC0) "__init__"=some (some (.ref cF0))) (cn0:isFn K (.ref cF0)=true) (cl0:K.lookup cF0=some ⟨coc0,codi0,.func (fnOf "__init__" "Part.__init__" (zO kW) (zQ kW) (zX kW) .none ckV0 cdc0 cpm0 cani0 ccd0 cct0),csl0⟩) (cc0:codeIn K ccd0 "Part.__init__"=true) (ck0:keepIn K (.ref cF0)=true)
   (cpg0:plainGet K cC0 Str.empty=true) (chd0:hasDictIn K cC0=true) (cpo0:plainOver K cC0=true) (csa0:findIn K (.ref cC0) "__setattr__"=some (some (.builtin "object.__setattr__"))) (cmk0:makesIn K cC0=true) (ckc0:keepIn K (.ref cC0)=true)
   (cf0_back:findIn K (.ref cC0) "back"=some none)
   (cf0_corner:findIn K (.ref cC0) "corner"=some none)
   (cf0_turn:findIn K (.ref cC0) "turn"=some none)
   (ca1:nsIn K mainGlobals "Curve"=some (some (.ref cC1))) (ci1:findIn K (.ref cC1) "__init__"=some (some (.ref cF1))) (cn1:isFn K (.ref cF1)=true) (cl1:K.lookup cF1=some ⟨coc1,codi1,.func (fnOf "__init__" "Curve.__init__" (zO oS) (zQ oS) (zX oS) .none ckV1 cdc1 cpm1 cani1 ccd1 cct1),csl1⟩) (cc1:codeIn K ccd1 "Curve.__init__"=true) (ck1:keepIn K (.ref cF1)=true)
   (cpg1:plainGet K cC1 Str.empty=true) (chd1:hasDictIn K cC1=true) (cpo1:plainOver K cC1=true) (csa1:findIn K (.ref cC1) "__setattr__"=some (some (.builtin "object.__setattr__"))) (cmk1:makesIn K cC1=true) (ckc1:keepIn K (.ref cC1)=true)
   (cf1_dims:findIn K (.ref cC1) "dims"=some none)
   (cf1_joined:findIn K (.ref cC1) "joined"=some none)
   (cf1_name:findIn K (.ref cC1) "name"=some none)
   (cf1_parts:findIn K (.ref cC1) "parts"=some none)
   (g_BITS:nsIn K mainGlobals "BITS"=some (some (.str "01" t_BITS)))
   (g_FLIPS:nsIn K mainGlobals "FLIPS"=some (some (.str "+-" t_FLIPS)))
   (g_AXES:nsIn K mainGlobals "AXES"=some (some (.str "xyz" t_AXES)))
   (g_LETTERS:nsIn K mainGlobals "LETTERS"=some (some (.str "abcdefghijklmnopqrstuvwxyz" t_LETTERS)))
   (g_LONGEST_WORD:nsIn K mainGlobals "LONGEST_WORD"=some (some (.int 12 t_LONGEST_WORD)))
   (g_PROMISES:nsIn K mainGlobals "PROMISES"=some (some (.ref da_PROMISES))) (dl_PROMISES:K.lookup da_PROMISES=some ⟨.type "dict",none,.dict #[⟨PyData.keyHash w.params "joined",.str "joined" dt_PROMISES_0,.bool true⟩,⟨PyData.keyHash w.params "loose",.str "loose" dt_PROMISES_1,.bool false⟩] dn_PROMISES,#[]⟩) (ds_PROMISES:(da_PROMISES==sysModules)=false)
   (g_DIMS:nsIn K mainGlobals "DIMS"=some (some (.ref da_DIMS))) (dl_DIMS:K.lookup da_DIMS=some ⟨.type "dict",none,.dict #[⟨PyData.keyHash w.params "2",.str "2" dt_DIMS_0,.int 2 dv_DIMS_0⟩,⟨PyData.keyHash w.params "3",.str "3" dt_DIMS_1,.int 3 dv_DIMS_1⟩] dn_DIMS,#[]⟩) (ds_DIMS:(da_DIMS==sysModules)=false)
   (z_abs:nsIn K mainGlobals "abs"=some none)
   (z_all:nsIn K mainGlobals "all"=some none)
   (z_bool:nsIn K mainGlobals "bool"=some none)
   (z_int:nsIn K mainGlobals "int"=some none)
   (z_isinstance:nsIn K mainGlobals "isinstance"=some none)
   (z_len:nsIn K mainGlobals "len"=some none)
   (z_list:nsIn K mainGlobals "list"=some none)
   (z_min:nsIn K mainGlobals "min"=some none)
   (z_range:nsIn K mainGlobals "range"=some none)
   (z_reversed:nsIn K mainGlobals "reversed"=some none)
   (z_sorted:nsIn K mainGlobals "sorted"=some none)
   (z_str:nsIn K mainGlobals "str"=some none)
   (z_sum:nsIn K mainGlobals "sum"=some none)
   (z_tuple:nsIn K mainGlobals "tuple"=some none)
   (z_zip:nsIn K mainGlobals "zip"=some none) :
   ∃fd:FuncData,(∀(s:Shared) (v:Value),BindsTo s fd ⟨[v],[]⟩ [("_law_script",v)])/\∀base:Heap,K.In base->base.Ns mainGlobals mg->FnOk l.prog w K mg base CX0 10 fa fd ["_law_script"] (spF K 1 zZV):=by
 have e:=hfa.symm.trans (mg_of X G a39)
 cases e
 have F0:=yJ (st:=rD) l0 c0 k0
 have b0:=F0.binds (ps:=["_law_cell","_law_factor"]) fun _ _ _ _ _ _ us hl=>match us,hl with | [_,_],_=>rfl
 have F1:=yJ (st:=wT) l1 c1 k1
 have b1:=F1.binds (ps:=["_law_dims"]) fun _ _ _ _ _ _ us hl=>match us,hl with | [_],_=>rfl
 have F2:=yJ (st:=uM) l2 c2 k2
 have b2:=F2.binds (ps:=["_law_number","_law_dims"]) fun _ _ _ _ _ _ us hl=>match us,hl with | [_,_],_=>rfl
 have F3:=yJ (st:=uI) l3 c3 k3
 have b3:=F3.binds (ps:=["_law_dims","_law_cell"]) fun _ _ _ _ _ _ us hl=>match us,hl with | [_,_],_=>rfl
 have F4:=yJ (st:=uL) l4 c4 k4
 have b4:=F4.binds (ps:=["_law_cell"]) fun _ _ _ _ _ _ us hl=>match us,hl with | [_],_=>rfl
 have F5:=yJ (st:=vJ) l5 c5 k5
 have b5:=F5.binds (ps:=["_law_word_here","_law_dims","_law_joined_here","_law_parts"]) fun _ _ _ _ _ _ us hl=>match us,hl with | [_,_,_,_],_=>rfl
 have F6:=yJ (st:=wJ) l6 c6 k6
 have b6:=F6.binds (ps:=["corner"]) fun _ _ _ _ _ _ us hl=>match us,hl with | [_],_=>rfl
 have F7:=yJ (st:=vI) l7 c7 k7
 have b7:=F7.binds (ps:=["turn"]) fun _ _ _ _ _ _ us hl=>match us,hl with | [_],_=>rfl
 have F8:=yJ (st:=sY) l8 c8 k8
 have b8:=F8.binds (ps:=["part"]) fun _ _ _ _ _ _ us hl=>match us,hl with | [_],_=>rfl
 have F9:=yJ (st:=w6) l9 c9 k9
 have b9:=F9.binds (ps:=["curve"]) fun _ _ _ _ _ _ us hl=>match us,hl with | [_],_=>rfl
 have F10:=yJ (st:=sV) l10 c10 k10
 have b10:=F10.binds (ps:=["_law_dims"]) fun _ _ _ _ _ _ us hl=>match us,hl with | [_],_=>rfl
 have F11:=yJ (st:=vM) l11 c11 k11
 have b11:=F11.binds (ps:=["_law_one","_law_other"]) fun _ _ _ _ _ _ us hl=>match us,hl with | [_,_],_=>rfl
 have F12:=yJ (st:=uW) l12 c12 k12
 have b12:=F12.binds (ps:=["_law_turn_here"]) fun _ _ _ _ _ _ us hl=>match us,hl with | [_],_=>rfl
 have F13:=yJ (st:=w4) l13 c13 k13
 have b13:=F13.binds (ps:=["_law_turn_here","_law_corner"]) fun _ _ _ _ _ _ us hl=>match us,hl with | [_,_],_=>rfl
 have F14:=yJ (st:=vY) l14 c14 k14
 have b14:=F14.binds (ps:=["_law_dims","_law_number"]) fun _ _ _ _ _ _ us hl=>match us,hl with | [_,_],_=>rfl
 have F15:=yJ (st:=sU) l15 c15 k15
 have b15:=F15.binds (ps:=["_law_found","_law_due"]) fun _ _ _ _ _ _ us hl=>match us,hl with | [_,_],_=>rfl
 have F16:=yJ (st:=vL) l16 c16 k16
 have b16:=F16.binds (ps:=["_law_curve","_law_word_here","_law_dims","_law_joined_here","_law_parts"]) fun _ _ _ _ _ _ us hl=>match us,hl with | [_,_,_,_,_],_=>rfl
 have F17:=yJ (st:=vZ) l17 c17 k17
 have b17:=F17.binds (ps:=["text","signs","longest"]) fun _ _ _ _ _ _ us hl=>match us,hl with | [_,_,_],_=>rfl
 have F18:=yJ (st:=rE) l18 c18 k18
 have b18:=F18.binds (ps:=["text"]) fun _ _ _ _ _ _ us hl=>match us,hl with | [_],_=>rfl
 have F19:=yJ (st:=uJ) l19 c19 k19
 have b19:=F19.binds (ps:=["words"]) fun _ _ _ _ _ _ us hl=>match us,hl with | [_],_=>rfl
 have F20:=yJ (st:=sO) l20 c20 k20
 have b20:=F20.binds (ps:=["rows","row"]) fun _ _ _ _ _ _ us hl=>match us,hl with | [_,_],_=>rfl
 have F21:=yJ (st:=vH) l21 c21 k21
 have b21:=F21.binds (ps:=["text","dims"]) fun _ _ _ _ _ _ us hl=>match us,hl with | [_,_],_=>rfl
 have F22:=yJ (st:=uG) l22 c22 k22
 have b22:=F22.binds (ps:=["text","dims"]) fun _ _ _ _ _ _ us hl=>match us,hl with | [_,_],_=>rfl
 have F23:=yJ (st:=uH) l23 c23 k23
 have b23:=F23.binds (ps:=["words","dims","row"]) fun _ _ _ _ _ _ us hl=>match us,hl with | [_,_,_],_=>rfl
 have F24:=yJ (st:=gC) l24 c24 k24
 have b24:=F24.binds (ps:=["dims","level"]) fun _ _ _ _ _ _ us hl=>match us,hl with | [_,_],_=>rfl
 have F25:=yJ (st:=uZ) l25 c25 k25
 have b25:=F25.binds (ps:=["rows"]) fun _ _ _ _ _ _ us hl=>match us,hl with | [_],_=>rfl
 have F26:=yJ (st:=mY) l26 c26 k26
 have b26:=F26.binds (ps:=["dims"]) fun _ _ _ _ _ _ us hl=>match us,hl with | [_],_=>rfl
 have F27:=yJ (st:=vW) l27 c27 k27
 have b27:=F27.binds (ps:=["dims"]) fun _ _ _ _ _ _ us hl=>match us,hl with | [_],_=>rfl
 have F28:=yJ (st:=oM) l28 c28 k28
 have b28:=F28.binds (ps:=["curve","back","number"]) fun _ _ _ _ _ _ us hl=>match us,hl with | [_,_,_],_=>rfl
 have F29:=yJ (st:=nV) l29 c29 k29
 have b29:=F29.binds (ps:=["one","other"]) fun _ _ _ _ _ _ us hl=>match us,hl with | [_,_],_=>rfl
 have F30:=yJ (st:=pY) l30 c30 k30
 have b30:=F30.binds (ps:=["turn","corner"]) fun _ _ _ _ _ _ us hl=>match us,hl with | [_,_],_=>rfl
 have F31:=yJ (st:=rF) l31 c31 k31
 have b31:=F31.binds (ps:=["curve","state","digit"]) fun _ _ _ _ _ _ us hl=>match us,hl with | [_,_,_],_=>rfl
 have F32:=yJ (st:=sP) l32 c32 k32
 have b32:=F32.binds (ps:=["one","other"]) fun _ _ _ _ _ _ us hl=>match us,hl with | [_,_],_=>rfl
 have F33:=yJ (st:=qW) l33 c33 k33
 have b33:=F33.binds (ps:=["place","corner"]) fun _ _ _ _ _ _ us hl=>match us,hl with | [_,_],_=>rfl
 have F34:=yJ (st:=sQ) l34 c34 k34
 have b34:=F34.binds (ps:=["curve","first"]) fun _ _ _ _ _ _ us hl=>match us,hl with | [_,_],_=>rfl
 have F35:=yJ (st:=wM) l35 c35 k35
 have b35:=F35.binds (ps:=["curve"]) fun _ _ _ _ _ _ us hl=>match us,hl with | [_],_=>rfl
 have F36:=yJ (st:=oI) l36 c36 k36
 have b36:=F36.binds (ps:=["curve"]) fun _ _ _ _ _ _ us hl=>match us,hl with | [_],_=>rfl
 have F37:=yJ (st:=tG) l37 c37 k37
 have b37:=F37.binds (ps:=["text"]) fun _ _ _ _ _ _ us hl=>match us,hl with | [_],_=>rfl
 have F38:=yJ (st:=vA) l38 c38 k38
 have b38:=F38.binds (ps:=["curve"]) fun _ _ _ _ _ _ us hl=>match us,hl with | [_],_=>rfl
 have F39:=yJ (st:=kB) l39 c39 k39
 have b39:=F39.binds (ps:=["_law_script"]) fun _ _ _ _ _ _ us hl=>match us,hl with | [_],_=>rfl
 have cFF0:=yJ (st:=kW) cl0 cc0 ck0
 have cb0:=cFF0.binds (ps:=["self","corner","turn","back"]) fun _ _ _ _ _ _ us hl=>match us,hl with | [_,_,_,_],_=>rfl
 have cFF1:=yJ (st:=oS) cl1 cc1 ck1
 have cb1:=cFF1.binds (ps:=["self","name","dims","joined","parts"]) fun _ _ _ _ _ _ us hl=>match us,hl with | [_,_,_,_,_],_=>rfl
 exact⟨fnOf "law" "law" (zO kB) (zQ kB) (zX kB) .none kV39 dc39 pm39 an39 cd39 ct39,fun s v=>.of_eq rfl,fun base _ _=>zQu ({ f_law_mix:=_,fd_law_mix:=_,F_law_mix:=F0,b_law_mix:=b0,m_law_mix:=mg_of X G a0,f_law_corners:=_,fd_law_corners:=_,F_law_corners:=F1,b_law_corners:=b1,m_law_corners:=mg_of X G a1,f_law_turn:=_,fd_law_turn:=_,F_law_turn:=F2,b_law_turn:=b2,m_law_turn:=mg_of X G a2,f_law_loose:=_,fd_law_loose:=_,F_law_loose:=F3,b_law_loose:=b3,m_law_loose:=mg_of X G a3,f_law_word:=_,fd_law_word:=_,F_law_word:=F4,b_law_word:=b4,m_law_word:=mg_of X G a4,f_law_rows:=_,fd_law_rows:=_,F_law_rows:=F5,b_law_rows:=b5,m_law_rows:=mg_of X G a5,f_corner_text:=_,fd_corner_text:=_,F_corner_text:=F6,b_corner_text:=b6,m_corner_text:=mg_of X G a6,f_turn_text:=_,fd_turn_text:=_,F_turn_text:=F7,b_turn_text:=b7,m_turn_text:=mg_of X G a7,f_part_row:=_,fd_part_row:=_,F_part_row:=F8,b_part_row:=b8,m_part_row:=mg_of X G a8,f_curve_rows:=_,fd_curve_rows:=_,F_curve_rows:=F9,b_curve_rows:=b9,m_curve_rows:=mg_of X G a9,f_law_base:=_,fd_law_base:=_,F_law_base:=F10,b_law_base:=b10,m_law_base:=mg_of X G a10,f_law_after:=_,fd_law_after:=_,F_law_after:=F11,b_law_after:=b11,m_law_after:=mg_of X G a11,f_law_undone:=_,fd_law_undone:=_,F_law_undone:=F12,b_law_undone:=b12,m_law_undone:=mg_of X G a12,f_law_turned:=_,fd_law_turned:=_,F_law_turned:=F13,b_law_turned:=b13,m_law_turned:=mg_of X G a13,f_law_joined:=_,fd_law_joined:=_,F_law_joined:=F14,b_law_joined:=b14,m_law_joined:=mg_of X G a14,f_law_same:=_,fd_law_same:=_,F_law_same:=F15,b_law_same:=b15,m_law_same:=mg_of X G a15,f_law_alike:=_,fd_law_alike:=_,F_law_alike:=F16,b_law_alike:=b16,m_law_alike:=mg_of X G a16,f_is_made_of:=_,fd_is_made_of:=_,F_is_made_of:=F17,b_is_made_of:=b17,m_is_made_of:=mg_of X G a17,f_is_word:=_,fd_is_word:=_,F_is_word:=F18,b_is_word:=b18,m_is_word:=mg_of X G a18,f_read_head:=_,fd_read_head:=_,F_read_head:=F19,b_read_head:=b19,m_read_head:=mg_of X G a19,f_words_at:=_,fd_words_at:=_,F_words_at:=F20,b_words_at:=b20,m_words_at:=mg_of X G a20,f_corner_of:=_,fd_corner_of:=_,F_corner_of:=F21,b_corner_of:=b21,m_corner_of:=mg_of X G a21,f_turn_of:=_,fd_turn_of:=_,F_turn_of:=F22,b_turn_of:=b22,m_turn_of:=mg_of X G a22,f_read_part:=_,fd_read_part:=_,F_read_part:=F23,b_read_part:=b23,m_read_part:=mg_of X G a23,f_full:=_,fd_full:=_,F_full:=F24,b_full:=b24,m_full:=mg_of X G a24,f_curve_from:=_,fd_curve_from:=_,F_curve_from:=F25,b_curve_from:=b25,m_curve_from:=mg_of X G a25,f_still:=_,fd_still:=_,F_still:=F26,b_still:=b26,m_still:=mg_of X G a26,f_first_state:=_,fd_first_state:=_,F_first_state:=F27,b_first_state:=b27,m_first_state:=mg_of X G a27,f_walked:=_,fd_walked:=_,F_walked:=F28,b_walked:=b28,m_walked:=mg_of X G a28,f_after:=_,fd_after:=_,F_after:=F29,b_after:=b29,m_after:=mg_of X G a29,f_turned:=_,fd_turned:=_,F_turned:=F30,b_turned:=b30,m_turned:=mg_of X G a30,f_part_at:=_,fd_part_at:=_,F_part_at:=F31,b_part_at:=b31,m_part_at:=mg_of X G a31,f_next_to:=_,fd_next_to:=_,F_next_to:=F32,b_next_to:=b32,m_next_to:=mg_of X G a32,f_deeper:=_,fd_deeper:=_,F_deeper:=F33,b_deeper:=b33,m_deeper:=mg_of X G a33,f_unmet_at:=_,fd_unmet_at:=_,F_unmet_at:=F34,b_unmet_at:=b34,m_unmet_at:=mg_of X G a34,f_meeting_of:=_,fd_meeting_of:=_,F_meeting_of:=F35,b_meeting_of:=b35,m_meeting_of:=mg_of X G a35,f_fitted:=_,fd_fitted:=_,F_fitted:=F36,b_fitted:=b36,m_fitted:=mg_of X G a36,f_curve_of:=_,fd_curve_of:=_,F_curve_of:=F37,b_curve_of:=b37,m_curve_of:=mg_of X G a37,f_curve_text:=_,fd_curve_text:=_,F_curve_text:=F38,b_curve_text:=b38,m_curve_text:=mg_of X G a38,f_law:=_,fd_law:=_,F_law:=F39,zTd:=b39,m_law:=mg_of X G a39,C_Part:=_,fi_Part:=_,fdi_Part:=_,ca_Part:=ca0,cl_Part:=⟨cpg0,chd0,cpo0,csa0⟩,mc_Part:=mg_of X G ca0,Fi_Part:=cFF0,bi_Part:=cb0,mk_Part:=⟨cmk0,ci0,cn0,ckc0⟩,n_Part_back:=cf0_back,n_Part_corner:=cf0_corner,n_Part_turn:=cf0_turn,C_Curve:=_,fi_Curve:=_,fdi_Curve:=_,ca_Curve:=ca1,cl_Curve:=⟨cpg1,chd1,cpo1,csa1⟩,mc_Curve:=mg_of X G ca1,Fi_Curve:=cFF1,bi_Curve:=cb1,mk_Curve:=⟨cmk1,ci1,cn1,ckc1⟩,n_Curve_dims:=cf1_dims,n_Curve_joined:=cf1_joined,n_Curve_name:=cf1_name,n_Curve_parts:=cf1_parts,t_BITS:=t_BITS,c_BITS:=mg_of X G g_BITS,t_FLIPS:=t_FLIPS,c_FLIPS:=mg_of X G g_FLIPS,t_AXES:=t_AXES,c_AXES:=mg_of X G g_AXES,t_LETTERS:=t_LETTERS,c_LETTERS:=mg_of X G g_LETTERS,t_LONGEST_WORD:=t_LONGEST_WORD,c_LONGEST_WORD:=mg_of X G g_LONGEST_WORD,da_PROMISES:=da_PROMISES,c_PROMISES:=mg_of X G g_PROMISES,dc_PROMISES:=zYo [("joined",dt_PROMISES_0,.bool true),("loose",dt_PROMISES_1,.bool false)] dl_PROMISES ds_PROMISES,da_DIMS:=da_DIMS,c_DIMS:=mg_of X G g_DIMS,dc_DIMS:=zYo [("2",dt_DIMS_0,.int 2 dv_DIMS_0),("3",dt_DIMS_1,.int 3 dv_DIMS_1)] dl_DIMS ds_DIMS,z_abs:=mg_none_of X G z_abs,z_all:=mg_none_of X G z_all,z_bool:=mg_none_of X G z_bool,z_int:=mg_none_of X G z_int,z_isinstance:=mg_none_of X G z_isinstance,z_len:=mg_none_of X G z_len,z_list:=mg_none_of X G z_list,z_min:=mg_none_of X G z_min,z_range:=mg_none_of X G z_range,z_reversed:=mg_none_of X G z_reversed,z_sorted:=mg_none_of X G z_sorted,z_str:=mg_none_of X G z_str,z_sum:=mg_none_of X G z_sum,z_tuple:=mg_none_of X G z_tuple,z_zip:=mg_none_of X G z_zip }:Txt w K mg)⟩
theorem zPX {K:Frag}{H:Hp}{a:Addr}{ns:List Int}(hS:SqL K H a (ns.map V.int))(h:zZV [.lst (ns.map .int)]=some (.bl true)):spF K 1 zZV [.ref a] H (fun v _=>v = .bl true) fun _ _ _=>False:=by
 have rs:∀ns:List Int,Reps K H (ns.map .int) (ns.map V.int):=fun ns=>by
   induction ns with
   | nil=>exact reps_nil.mpr rfl
   | cons n r ih=>exact reps_cons.mpr ⟨_,_,rfl,rep_int.mpr rfl,ih⟩
 exact⟨H,[.lst (ns.map .int)],.bl true,Same.refl _,reps_cons.mpr ⟨_,_,rfl,rep_lst.mpr ⟨a,_,rfl,hS,rs ns⟩,reps_nil.mpr rfl⟩,rfl,h,fun v H' G' _ r=>rep_bl.mp r⟩
end My
end
namespace My
open PySem L2
theorem zQR:pW 0 2=[.int 0,.int 1]:=rfl
theorem zOV:pW 0 3=[.int 0,.int 1,.int 2]:=rfl
theorem bit (x:Int):x % 2=0∨x % 2=1:=by omega
def zUx (a b c:Int):Prop:=(a=0/\b=1/\c=2)∨(a=0/\b=2/\c=1)∨(a=1/\b=0/\c=2)∨(a=1/\b=2/\c=0)∨(a=2/\b=0/\c=1)∨(a=2/\b=1/\c=0)
end My
namespace My
open PySem L2
abbrev Tn:=List (Int×Int)
def oH (p:Int×Int):D:=.tup [.int p.1,.int p.2]
def zB (t:Tn):D:=.tup (t.map oH)
def yQ (c:List Int):D:=.tup (c.map .int)
def zN (t:Tn)(c:List Int):List Int:=t.map fun p=>Builtin.bitXor (c.getD p.1.toNat 0) p.2
def yN (t u:Tn):Tn:=t.map fun p=>((u.getD p.1.toNat (0,0)).1,Builtin.bitXor (u.getD p.1.toNat (0,0)).2 p.2)
theorem jO {elt:Ef}{h:Int×Int->D}{rest:List B}:∀(t:Tn) (x0 x1:B) (acc:List D),(∀p∈t,elt (.fz (.int p.1) :: .fz (.int p.2)::rest)=some (h p)) ->
   vB (gT (zP (gN 0) (zP (gN 1) yH))) tOK elt (t.map oH) (x0::x1::rest) acc=some (acc++t.map h)
 | [],_,_,acc,_=>by simp[vB]
 | p::r,x0,x1,acc,hh=>by
   rw[List.map_cons]
   unfold vB
   have e1:gT (zP (gN 0) (zP (gN 1) yH)) (oH p) (x0::x1::rest)=some (.fz (.int p.1) :: .fz (.int p.2)::rest):=rfl
   rw[e1,Option.bind_some]
   have e2:tOK (.fz (.int p.1) :: .fz (.int p.2)::rest)=some true:=rfl
   rw[e2,Option.bind_some,if_pos rfl,hh p List.mem_cons_self,Option.bind_some,jO r _ _ _ fun q hq=>hh q (List.mem_cons_of_mem _ hq)]
   simp
theorem iE {α:Type}(xs:List α)(i:Int)(d:α)(h0:0<=i)(h1:i < xs.length):atI xs i=some (xs.getD i.toNat d):=by
 unfold atI ixN
 rw[if_pos h0,if_pos h1]
 have:i.toNat < xs.length:=by omega
 simp[List.getD,this]
def zQs (t:Tn)(n:Nat):Prop:=∀p∈t,0<=p.1/\p.1 < n
theorem zVT {t:List D}(h:t.length<=1000):okL t=some t:=by
 unfold okL
 rw[if_pos (Nat.le_trans h (by decide))]
theorem zYI {α β:Type}(f:α->β)(xs:List α)(i:Int):atI (xs.map f) i=(atI xs i).map f:=by
 unfold atI
 rw[List.length_map]
 cases ixN xs.length i with
 | none=>rfl
 | some j=>simp
theorem zZv (t:Tn)(c:List Int)(h:zQs t c.length)(hl:t.length<=1000):qO [zB t,yQ c]=some (yQ (zN t c)):=by
 have e1:qG 2 [zB t,yQ c]=[.fz (zB t),.fz (yQ c)]:=rfl
 have e2:=jO (elt:=zYW (eIx (eV 2) (eV 0)) (eV 1)) (h:=fun p=>.int (Builtin.bitXor (c.getD p.1.toNat 0) p.2)) (rest:=[.fz (yQ c)]) t .no .no [] fun p hp=>by
   obtain⟨h0,h1⟩:=h p hp
   simp[eI,eIx,eV,rW,yQ,atD,zYI,iE c p.1 0 h0 h1]
 have e3:okL (t.map oH)=some (t.map oH):=zVT (by rw[List.length_map];exact hl)
 have e4:upB 2 [1] [.fz (zB t),.fz (yQ c)]=[.no,.no,.fz (yQ c)]:=rfl
 unfold qO fnF
 rw[e1]
 have e5:yV (iT (eV 0)) 2 [1] (gT (zP (gN 0) (zP (gN 1) yH))) tOK (zYW (eIx (eV 2) (eV 0)) (eV 1)) [.fz (zB t),.fz (yQ c)]=some (t.map fun p=>D.int (Builtin.bitXor (c.getD p.1.toNat 0) p.2)):=by
   unfold yV
   have e6:iT (eV 0) [.fz (zB t),.fz (yQ c)]=some (t.map oH):=rfl
   rw[e6,Option.bind_some,e3,Option.bind_some,e4,e2]
   simp
 simp only[b_turned,bK,yG,wA,eL,e5,Option.map_some,Option.bind_some,zWf,vN]
 simp only[yQ,zN,List.map_map,Function.comp_def]
end My
namespace My
open PySem L2
theorem zXN (t u:Tn)(h:zQs t u.length)(hl:t.length<=1000):pU [zB t,zB u]=some (zB (yN t u)):=by
 have e1:qG 2 [zB t,zB u]=[.fz (zB t),.fz (zB u)]:=rfl
 have e2:=jO (elt:=zK (zZ (eIx (eIx (eV 2) (eV 0)) (eC (.int 0))) (zZ (zYW (eIx (eIx (eV 2) (eV 0)) (eC (.int 1))) (eV 1)) zT))) (h:=fun p=>oH ((u.getD p.1.toNat (0,0)).1,Builtin.bitXor (u.getD p.1.toNat (0,0)).2 p.2)) (rest:=[.fz (zB u)]) t .no .no [] fun p hp=>by
   obtain⟨h0,h1⟩:=h p hp
   have a0:∀x y:D,atI [x,y] 0=some x:=fun _ _=>rfl
   have a1:∀x y:D,atI [x,y] 1=some y:=fun _ _=>rfl
   simp[eI,eIx,eV,eC,rW,zB,atD,zYI,iE u p.1 (0,0) h0 h1,oH,zK,zZ,zT,okL,lim,a0,a1]
 have e3:okL (t.map oH)=some (t.map oH):=zVT (by rw[List.length_map];exact hl)
 have e4:upB 2 [1] [.fz (zB t),.fz (zB u)]=[.no,.no,.fz (zB u)]:=rfl
 unfold pU fnF
 rw[e1]
 have e5:yV (iT (eV 0)) 2 [1] (gT (zP (gN 0) (zP (gN 1) yH))) tOK (zK (zZ (eIx (eIx (eV 2) (eV 0)) (eC (.int 0))) (zZ (zYW (eIx (eIx (eV 2) (eV 0)) (eC (.int 1))) (eV 1)) zT))) [.fz (zB t),.fz (zB u)]=some (t.map fun p=>oH ((u.getD p.1.toNat (0,0)).1,Builtin.bitXor (u.getD p.1.toNat (0,0)).2 p.2)):=by
   unfold yV
   have e6:iT (eV 0) [.fz (zB t),.fz (zB u)]=some (t.map oH):=rfl
   rw[e6,Option.bind_some,e3,Option.bind_some,e4,e2]
   simp
 simp only[b_after,zZO,yG,wA,eL,e5,Option.map_some,Option.bind_some,zWf,vN]
 simp only[zB,yN,List.map_map,Function.comp_def]
end My
namespace My
open PySem L2
def bits:List Int:=[0,1]
def turnsM2:List Tn:=[((0:Int),(1:Int)),(1,0)].flatMap fun o=>bits.flatMap fun f=>bits.map fun g=>[(o.1,f),(o.2,g)]
def turnsM3:List Tn:=[((0:Int),(1:Int),(2:Int)),(0,2,1),(1,0,2),(1,2,0),(2,0,1),(2,1,0)].flatMap fun o=>bits.flatMap fun f=>bits.flatMap fun g=>bits.map fun h=>[(o.1,f),(o.2.1,g),(o.2.2,h)]
theorem zPt {a b f g:Int}(h1:a=0/\b=1∨a=1/\b=0)(h2:f=0∨f=1)(h3:g=0∨g=1):[(a,f),(b,g)]∈turnsM2:=by
 rcases h1 with⟨rfl,rfl⟩ | ⟨rfl,rfl⟩<;>rcases h2 with rfl | rfl<;>rcases h3 with rfl | rfl<;>decide
theorem zOI {a b c f g h:Int}(h1:zUx a b c)(h2:f=0∨f=1)(h3:g=0∨g=1)(h4:h=0∨h=1):[(a,f),(b,g),(c,h)]∈turnsM3:=by
 rcases h1 with⟨rfl,rfl,rfl⟩ | ⟨rfl,rfl,rfl⟩ | ⟨rfl,rfl,rfl⟩ | ⟨rfl,rfl,rfl⟩ | ⟨rfl,rfl,rfl⟩ | ⟨rfl,rfl,rfl⟩<;>rcases h2 with rfl | rfl<;>rcases h3 with rfl | rfl<;>rcases h4 with rfl | rfl<;>decide
theorem zVN {t:Tn}(h:t∈turnsM2):∃a b f g,(a=0/\b=1∨a=1/\b=0)/\(f=0∨f=1)/\(g=0∨g=1)/\t=[(a,f),(b,g)]:=by
 simp only[turnsM2,bits,List.mem_flatMap,List.mem_map,List.mem_cons,List.not_mem_nil,or_false] at h
 obtain⟨o,ho,f,hf,g,hg,rfl⟩:=h
 refine⟨o.1,o.2,f,g,?_,hf,hg,rfl⟩
 rcases ho with rfl | rfl
 · exact .inl ⟨rfl,rfl⟩
 · exact .inr ⟨rfl,rfl⟩
theorem zV2 {t:Tn}(h:t∈turnsM3):∃a b c f g j,zUx a b c/\(f=0∨f=1)/\(g=0∨g=1)/\(j=0∨j=1)/\t=[(a,f),(b,g),(c,j)]:=by
 simp only[turnsM3,bits,List.mem_flatMap,List.mem_map,List.mem_cons,List.not_mem_nil,or_false] at h
 obtain⟨o,ho,f,hf,g,hg,j,hj,rfl⟩:=h
 refine⟨o.1,o.2.1,o.2.2,f,g,j,?_,hf,hg,hj,rfl⟩
 unfold zUx
 rcases ho with rfl | rfl | rfl | rfl | rfl | rfl<;>simp
structure Tr (n:Nat)(t:Tn):Prop where
 len:t.length=n
 fits:zQs t n
 flip:∀p∈t,p.2=0∨p.2=1
theorem tr2 {t:Tn}(h:t∈turnsM2):Tr 2 t:=by
 obtain⟨a,b,f,g,h1,h2,h3,rfl⟩:=zVN h
 refine⟨rfl,fun p hp=>?_,fun p hp=>?_⟩
 · simp only[List.mem_cons,List.not_mem_nil,or_false] at hp
   rcases h1 with⟨rfl,rfl⟩ | ⟨rfl,rfl⟩<;>rcases hp with rfl | rfl<;>exact⟨by simp,by simp⟩
 · simp only[List.mem_cons,List.not_mem_nil,or_false] at hp
   rcases hp with rfl | rfl
   · exact h2
   · exact h3
theorem tr3 {t:Tn}(h:t∈turnsM3):Tr 3 t:=by
 obtain⟨a,b,c,f,g,j,h1,h2,h3,h4,rfl⟩:=zV2 h
 refine⟨rfl,fun p hp=>?_,fun p hp=>?_⟩
 · simp only[List.mem_cons,List.not_mem_nil,or_false] at hp
   unfold zUx at h1
   rcases h1 with⟨rfl,rfl,rfl⟩ | ⟨rfl,rfl,rfl⟩ | ⟨rfl,rfl,rfl⟩ | ⟨rfl,rfl,rfl⟩ | ⟨rfl,rfl,rfl⟩ | ⟨rfl,rfl,rfl⟩<;>rcases hp with rfl | rfl | rfl<;>exact⟨by simp,by simp⟩
 · simp only[List.mem_cons,List.not_mem_nil,or_false] at hp
   rcases hp with rfl | rfl | rfl
   · exact h2
   · exact h3
   · exact h4
theorem zUp {x y z:Int}(hx:x=0∨x=1)(hy:y=0∨y=1)(hz:z=0∨z=1):Builtin.bitXor x (Builtin.bitXor y z)=Builtin.bitXor (Builtin.bitXor x y) z:=by
 rcases hx with rfl | rfl<;>rcases hy with rfl | rfl<;>rcases hz with rfl | rfl<;>rfl
theorem zVO {α:Type}(l:List α)(i:Int)(d:α)(h0:0<=i)(h1:i < l.length):l.getD i.toNat d∈l:=by
 have:i.toNat < l.length:=by omega
 rw[List.getD_eq_getElem?_getD,List.getElem?_eq_getElem this]
 exact List.getElem_mem this
theorem zSy {α β:Type}(f:α->β)(l:List α)(i:Int)(d:α)(e:β)(h0:0<=i)(h1:i < l.length):(l.map f).getD i.toNat e=f (l.getD i.toNat d):=by
 have:i.toNat < l.length:=by omega
 rw[List.getD_eq_getElem?_getD,List.getD_eq_getElem?_getD,List.getElem?_map,List.getElem?_eq_getElem this]
 rfl
theorem iJ {n:Nat}{t u:Tn}{c:List Int}(ht:Tr n t)(hu:Tr n u)(hc:c.length=n)(bc:∀x∈c,x=0∨x=1):zN (yN t u) c=zN t (zN u c):=by
 unfold zN yN
 rw[List.map_map]
 refine List.map_congr_left fun p hp=>?_
 obtain⟨h0,h1⟩:=ht.fits p hp
 have hul:p.1 < u.length:=by rw[hu.len];exact h1
 have hq:=zVO u p.1 (0,0) h0 hul
 obtain⟨q0,q1⟩:=hu.fits _ hq
 show Builtin.bitXor (c.getD (u.getD p.1.toNat (0,0)).1.toNat 0) (Builtin.bitXor (u.getD p.1.toNat (0,0)).2 p.2)=Builtin.bitXor ((u.map fun p=>Builtin.bitXor (c.getD p.1.toNat 0) p.2).getD p.1.toNat 0) p.2
 rw[zSy _ u p.1 (0,0) 0 h0 hul]
 exact zUp (bc _ (zVO c _ 0 q0 (by rw[hc];exact q1))) (hu.flip _ hq) (ht.flip p hp)
def zTj (t:Tn):Bool:=match t with | [(a,f),(b,g)]=>(decide (a=0)&&decide (b=1)||decide (a=1)&&decide (b=0))&&(decide (f=0)||decide (f=1))&&(decide (g=0)||decide (g=1)) | _=>false
def zPg (a b c:Int):Bool:=(decide (a=0)&&decide (b=1)&&decide (c=2))||(decide (a=0)&&decide (b=2)&&decide (c=1))||(decide (a=1)&&decide (b=0)&&decide (c=2))||(decide (a=1)&&decide (b=2)&&decide (c=0))||(decide (a=2)&&decide (b=0)&&decide (c=1))||(decide (a=2)&&decide (b=1)&&decide (c=0))
def zSh (t:Tn):Bool:=match t with | [(a,f),(b,g),(c,h)]=>zPg a b c&&(decide (f=0)||decide (f=1))&&(decide (g=0)||decide (g=1))&&(decide (h=0)||decide (h=1)) | _=>false
theorem zXd {t:Tn}(h:zTj t=true):t∈turnsM2:=by
 unfold zTj at h
 split at h
 · simp only[Bool.and_eq_true,Bool.or_eq_true,decide_eq_true_eq] at h
   exact zPt h.1.1 h.1.2 h.2
 · cases h
theorem zYk {t:Tn}(h:zSh t=true):t∈turnsM3:=by
 unfold zSh zPg at h
 split at h
 · simp only[Bool.and_eq_true,Bool.or_eq_true,decide_eq_true_eq] at h
   obtain⟨⟨⟨h1,h2⟩,h3⟩,h4⟩:=h
   refine zOI ?_ h2 h3 h4
   unfold zUx
   rcases h1 with((((h1 | h1) | h1) | h1) | h1) | h1
   · exact .inl ⟨h1.1.1,h1.1.2,h1.2⟩
   · exact .inr (.inl ⟨h1.1.1,h1.1.2,h1.2⟩)
   · exact .inr (.inr (.inl ⟨h1.1.1,h1.1.2,h1.2⟩))
   · exact .inr (.inr (.inr (.inl ⟨h1.1.1,h1.1.2,h1.2⟩)))
   · exact .inr (.inr (.inr (.inr (.inl ⟨h1.1.1,h1.1.2,h1.2⟩))))
   · exact .inr (.inr (.inr (.inr (.inr ⟨h1.1.1,h1.1.2,h1.2⟩))))
 · cases h
theorem zWz {t u:Tn}(ht:t∈turnsM2)(hu:u∈turnsM2):yN t u∈turnsM2:=by
 have key:(turnsM2.all fun t=>turnsM2.all fun u=>zTj (yN t u))=true:=by decide +kernel
 exact zXd (List.all_eq_true.mp (List.all_eq_true.mp key t ht) u hu)
theorem zWK {t u:Tn}(ht:t∈turnsM3)(hu:u∈turnsM3):yN t u∈turnsM3:=by
 have key:(turnsM3.all fun t=>turnsM3.all fun u=>zSh (yN t u))=true:=by decide +kernel
 exact zYk (List.all_eq_true.mp (List.all_eq_true.mp key t ht) u hu)
def zSc (k n:Nat):List Int:=(List.range n).map fun i=>(((k >>> i) % 2:Nat):Int)
def zL (n:Nat):List (List Int):=(List.range (2^n)).map fun k=>zSc k n
def tK (n:Nat):Tn:=(List.range n).map fun(i:Nat)=>((i:Int),(0:Int))
def wR (t:Tn):Tn:=(List.range t.length).map fun(i:Nat)=>match t.zipIdx.find? fun q=>q.1.1==(i:Int) with | some q=>((q.2:Int),q.1.2) | none=>(0,0)
def oJ (n:Nat)(ok:Tn->Bool)(t:Tn):Bool:=ok (wR t)&&decide (yN (wR t) t=tK n)&&decide (yN t (wR t)=tK n)&&(zL n).all fun c=>decide (zN (wR t) (zN t c)=c)
theorem zWN {t:Tn}(ht:t∈turnsM2):oJ 2 zTj t=true:=List.all_eq_true.mp (show(turnsM2.all (oJ 2 zTj))=true by decide +kernel) t ht
theorem zWw {t:Tn}(ht:t∈turnsM3):oJ 3 zSh t=true:=List.all_eq_true.mp (show(turnsM3.all (oJ 3 zSh))=true by decide +kernel) t ht
end My
namespace My
open PySem L2
def zJ (n:Nat):List Tn:=if n=2 then turnsM2 else turnsM3
section
variable {n:Nat} (hn:n=2∨n=3)
include hn
theorem trM {t:Tn}(h:t∈zJ n):Tr n t:=by
 rcases hn with rfl | rfl
 · exact tr2 h
 · exact tr3 h
theorem sJ {t u:Tn}(h:t∈zJ n)(h':u∈zJ n):yN t u∈zJ n:=by
 rcases hn with rfl | rfl
 · exact zWz h h'
 · exact zWK h h'
theorem lK {t:Tn}(h:t∈zJ n):wR t∈zJ n/\∀c∈zL n,zN (wR t) (zN t c)=c:=by
 rcases hn with rfl | rfl
 · have q:=zWN h
   unfold oJ at q
   simp only[Bool.and_eq_true,decide_eq_true_eq,List.all_eq_true] at q
   exact⟨zXd q.1.1.1,q.2⟩
 · have q:=zWw h
   unfold oJ at q
   simp only[Bool.and_eq_true,decide_eq_true_eq,List.all_eq_true] at q
   exact⟨zYk q.1.1.1,q.2⟩
end
end My
namespace My
open PySem L2
def dC (c f:Int):Int:=((c*f+12345) % 2147483647)*((c*f+12345) % 2147483647) % 2147483629 / 3
theorem zZa (c f:Int)(h1 : -18446744073709551616 < f)(h2:f < 18446744073709551616):xB [.int c,.int f]=some (.int (dC c f)):=by
 have e1:zY0 c f=true:=zQd h1 h2
 have e2:zY0 ((c*f+12345) % 2147483647) ((c*f+12345) % 2147483647)=true:=zWg (by omega) (by omega)
 have d1:decide ((0:Int) < 2147483647)=true:=rfl
 have d2:decide ((0:Int) < 2147483629)=true:=rfl
 have d3:(decide ((0:Int) < 3)&&decide ((3:Int) < 1073741824))=true:=rfl
 simp only[xB,fnF,b_law_mix,fE,lJ,qG,zH,yZ,yG,eI,eV,eC,rW,List.map,List.length_cons,List.length_nil,List.replicate,List.cons_append,List.nil_append,List.getElem?_cons_zero,List.getElem?_cons_succ,Option.bind_some,Option.map_some,e1,e2,d1,d2,d3,if_true,vN,List.set,zYz]
 rfl
mutual
def okS:Nat->D->Bool
 | 0,_=>false
 | _+1,.obj _ _ _=>false
 | _+1,.exc _ _ _=>false
 | n+1,.tup ds=>decide (ds.length<=1000)&&gF n ds
 | n+1,.lst ds=>decide (ds.length<=1000)&&gF n ds
 | _+1,_=>true
def gF:Nat->List D->Bool
 | _,[]=>true
 | n,d::r=>okS n d&&gF n r
end
theorem cC {n:Nat}:∀ {ds:List D} {i:Nat} {d:D},gF n ds=true->ds[i]?=some d->okS n d=true
 | [],_,_,_,h=>by simp at h
 | x::r,0,_,h,e=>by
   unfold gF at h
   rw[Bool.and_eq_true] at h
   cases e
   exact h.1
 | x::r,i+1,_,h,e=>by
   unfold gF at h
   rw[Bool.and_eq_true] at h
   exact cC h.2 (by simpa using e)
theorem lB {α:Type}{n:Nat}{f:α->D}:∀ {l:List α},(∀x∈l,okS n (f x)=true)->gF n (l.map f)=true
 | [],_=>rfl
 | x::r,h=>by
   rw[List.map_cons]
   unfold gF
   rw[h x List.mem_cons_self,lB fun y hy=>h y (List.mem_cons_of_mem _ hy)]
   rfl
theorem zRB {n:Nat}{ds:List D}(hl:ds.length<=1000)(h:gF n ds=true):okS (n+1) (.tup ds)=true:=by
 unfold okS
 rw[decide_eq_true hl,h]
 rfl
theorem sS {n:Nat}{d:D}{r:List D}(h1:okS n d=true)(h2:gF n r=true):gF n (d::r)=true:=by
 unfold gF
 rw[h1,h2]
 rfl
theorem zOY {n:Nat}{c:List Int}(h:c.length<=1000):okS (n+2) (yQ c)=true:=by
 unfold yQ okS
 rw[List.length_map,decide_eq_true h,lB fun x _=>rfl]
 rfl
theorem zO0 {n:Nat}{t:Tn}(h:t.length<=1000):okS (n+3) (zB t)=true:=by
 unfold zB okS
 rw[List.length_map,decide_eq_true h,lB fun x _=>rfl]
 rfl
structure Pt where
 c:List Int
 t:Tn
 b:Bool
def yP (p:Pt):D:=.tup [yQ p.c,zB p.t,.bl p.b]
def zF (p:Pt):D:=.obj (Str.ofString "Part") [Str.ofString "corner",Str.ofString "turn",Str.ofString "back"] [yQ p.c,zB p.t,.bl p.b]
def zE (wN:Str)(n:Int)(j:Bool)(ps:List Pt):D:=.obj (Str.ofString "Curve") [Str.ofString "name",Str.ofString "dims",Str.ofString "joined",Str.ofString "parts"] [.str wN,.int n,.bl j,.lst (ps.map zF)]
theorem cX (ρ:List B)(f:Ef)(p:Pt)(h:f ρ=some (zF p)):yO (Str.ofString "Part") (Str.ofString "corner") f ρ=some (yQ p.c):=by
 unfold yO;rw[h];rfl
theorem zTV (ρ:List B)(f:Ef)(p:Pt)(h:f ρ=some (zF p)):yO (Str.ofString "Part") (Str.ofString "turn") f ρ=some (zB p.t):=by
 unfold yO;rw[h];rfl
theorem zS3 (ρ:List B)(f:Ef)(p:Pt)(h:f ρ=some (zF p)):yO (Str.ofString "Part") (Str.ofString "back") f ρ=some (.bl p.b):=by
 unfold yO;rw[h];rfl
theorem kR (ρ:List B)(f:Ef){n:Int}{j:Bool}{ps:List Pt}(h:f ρ=some (zE wN n j ps)):yO (Str.ofString "Curve") (Str.ofString "parts") f ρ=some (.lst (ps.map zF)):=by
 unfold yO;rw[h];rfl
structure PtsOk (n:Nat)(ps:List Pt):Prop where
 perm:(ps.map (·.c)).Perm (zL n)
 turn:∀p∈ps,p.t∈zJ n
theorem dM {n:Nat}(hn:n=2∨n=3):(zL n).Nodup:=by
 rcases hn with rfl | rfl<;>decide +kernel
theorem wB {n:Nat}(hn:n=2∨n=3):∀c∈zL n,c.length=n:=by
 rcases hn with rfl | rfl<;>decide +kernel
theorem kE (n:Nat):(zL n).length=2^n:=by simp[zL]
theorem PtsOk.len {n:Nat}{ps:List Pt}(h:PtsOk n ps):ps.length=2^n:=by
 have:=h.perm.length_eq
 rw[List.length_map,kE] at this
 exact this
theorem PtsOk.small {n:Nat}{ps:List Pt}(hn:n=2∨n=3)(h:PtsOk n ps):ps.length<=8:=by
 rw[h.len]
 rcases hn with rfl | rfl<;>decide
theorem zVR (q:Int){n:Nat}(hn:n=2∨n=3):∃t∈zJ n,xH [.int q,.int n]=some (zB t):=by
 have q1:q / 1=q:=Int.ediv_one q
 rcases hn with rfl | rfl
 · rcases bit (q / 8) with h | h
   · refine⟨[(0,q / 1 % 2),(1,q / 2 % 2)],zPt (.inl ⟨rfl,rfl⟩) (bit _) (bit _),?_⟩
     simp[xH,fnF,b_law_turn,rH,tX,vD,qG,zH,yZ,sIf,yG,yE,eI,eV,eC,rW,vN,zYz,eL,yY,zT,zZ,okL,lim,eB2,gEq,h,yV,iR,zQR,upB,vB,gN,tOK,zK,eIx,atD,atI,ixN,wA,zWf,zB,oH]
   · refine⟨[(1,q / 1 % 2),(0,q / 2 % 2)],zPt (.inr ⟨rfl,rfl⟩) (bit _) (bit _),?_⟩
     simp[xH,fnF,b_law_turn,rH,tX,vD,qG,zH,yZ,sIf,yG,yE,eI,eV,eC,rW,vN,zYz,eL,yY,zT,zZ,okL,lim,eB2,gEq,h,yV,iR,zQR,upB,vB,gN,tOK,zK,eIx,atD,atI,ixN,wA,zWf,zB,oH]
 · have h6:q / 8 % 6=0∨q / 8 % 6=1∨q / 8 % 6=2∨q / 8 % 6=3∨q / 8 % 6=4∨q / 8 % 6=5:=by omega
   have key:∀a b c:Int,zUx a b c->atD (.lst [.lst [.int 0,.int 1,.int 2],.lst [.int 0,.int 2,.int 1],.lst [.int 1,.int 0,.int 2],.lst [.int 1,.int 2,.int 0],.lst [.int 2,.int 0,.int 1],.lst [.int 2,.int 1,.int 0]]) (.int (q / 8 % 6))=some (.lst [.int a,.int b,.int c])->∃t∈zJ 3,xH [.int q,.int 3]=some (zB t):=fun a b c ho ha=>by
     refine⟨[(a,q / 1 % 2),(b,q / 2 % 2),(c,q / 4 % 2)],zOI ho (bit _) (bit _) (bit _),?_⟩
     have r:xH [.int q,.int 3]=(vD [.fz (.int q),.fz (.int 3),.fz (.lst [.int a,.int b,.int c])]).bind vN:=by
       have d6:decide ((0:Int) < 6)=true:=rfl
       have o3:∀x y z:D,okL [x,y,z]=some [x,y,z]:=fun _ _ _=>rfl
       have o2:∀x y:D,okL [x,y]=some [x,y]:=fun _ _=>rfl
       have o6:∀x y z u v w:D,okL [x,y,z,u,v,w]=some [x,y,z,u,v,w]:=fun _ _ _ _ _ _=>rfl
       have g3:gEq (.int 3) (.int 3)=some true:=rfl
       have c8:zYz q 8=true:=rfl
       simp only[xH,fnF,b_law_turn,rH,tX,qG,zH,yZ,sIf,eI,eV,eC,rW,eL,yY,zT,zZ,eB2,eIx,List.map_cons,List.map_nil,List.length_cons,List.length_nil,List.replicate,List.cons_append,List.nil_append,List.getElem?_cons_zero,List.getElem?_cons_succ,Option.bind_some,Option.map_some,o2,o3,o6,g3,c8,d6,if_true,ha,List.set]
     rw[r]
     simp[vD,yG,eI,eV,eC,rW,vN,zYz,eL,yY,zT,zZ,okL,lim,yV,iR,zOV,upB,vB,gN,tOK,zK,eIx,atD,atI,ixN,wA,zWf,zB,oH]
   rcases h6 with h | h | h | h | h | h
   · exact key 0 1 2 (.inl ⟨rfl,rfl,rfl⟩) (by rw[h];rfl)
   · exact key 0 2 1 (.inr (.inl ⟨rfl,rfl,rfl⟩)) (by rw[h];rfl)
   · exact key 1 0 2 (.inr (.inr (.inl ⟨rfl,rfl,rfl⟩))) (by rw[h];rfl)
   · exact key 1 2 0 (.inr (.inr (.inr (.inl ⟨rfl,rfl,rfl⟩)))) (by rw[h];rfl)
   · exact key 2 0 1 (.inr (.inr (.inr (.inr (.inl ⟨rfl,rfl,rfl⟩))))) (by rw[h];rfl)
   · exact key 2 1 0 (.inr (.inr (.inr (.inr (.inr ⟨rfl,rfl,rfl⟩))))) (by rw[h];rfl)
def fY:Sf:=zH (yZ 4 (zM 2 xB (zZ (eV 1) (zZ (sZ (eC (.int 48271)) (lW (eC (.int 997)) (lO 2))) zT))))
   (zH (zW5 5 2 (wC (eV 4) (lO 2)))
   (mB 3 (zK (zZ (eV 5) (zZ (zM 2 xH (zZ (uN (eV 4) (eC (.int 8))) (zZ (eV 0) zT))) (zZ (xE (eB2 gEq (wC (uN (eV 4) (eC (.int 800))) (eC (.int 2))) (eC (.int 1)))) zT))))))
theorem jZ {α:Type}:∀(l:List α) (i:Nat) (x:α),l[i]?=some x->(x::l.eraseIdx i).Perm l
 | [],_,_,h=>by simp at h
 | a::r,0,x,h=>by cases h;exact .refl _
 | a::r,i+1,x,h=>by
   rw[List.getElem?_cons_succ] at h
   rw[List.eraseIdx_cons_succ]
   exact(List.Perm.swap a x _).trans (List.Perm.cons a (jZ r i x h))
theorem iN {α β:Type}(f:α->β):∀(l:List α) (i:Nat),(l.map f).eraseIdx i=(l.eraseIdx i).map f
 | [],_=>rfl
 | a::r,0=>rfl
 | a::r,i+1=>by rw[List.map_cons,List.eraseIdx_cons_succ,List.eraseIdx_cons_succ,List.map_cons,iN f r i]
theorem zWe {n:Nat}(hn:n=2∨n=3)(cell:Int)(left:List (List Int))(acc:List Pt)(x4 x5:B)(h0:left≠[])(hl:left.length<=8)(ha:acc.length<=8)(ht:∀p∈acc,p.t∈zJ n) :
   ∃(left':List (List Int)) (acc':List Pt) (y4 y5:B),left'.length+1=left.length/\acc'.length=acc.length+1/\(acc'.map (·.c)++left').Perm (acc.map (·.c)++left)/\(∀p∈acc',p.t∈zJ n) /\
     fY [.fz (.int n),.fz (.int cell),.ow (left.map yQ),.ow (acc.map yP),x4,x5]=some (.nx [.fz (.int n),.fz (.int cell),.ow (left'.map yQ),.ow (acc'.map yP),y4,y5]):=by
 have hpos:0 < left.length:=List.length_pos_iff.mpr h0
 have m1:zY0 997 (left.length:Int)=true:=zWg (by decide) (by decide)
 have hm:=zZa cell (48271+997*(left.length:Int)) (by omega) (by omega)
 generalize dC cell (48271+997*(left.length:Int))=r at hm
 have i0:0<=r % (left.length:Int):=Int.emod_nonneg _ (by omega)
 have i1:r % (left.length:Int) < left.length:=Int.emod_lt_of_pos _ (by omega)
 generalize hi:r % (left.length:Int)=iv at i0 i1
 have hlt:iv.toNat < left.length:=by omega
 obtain⟨t,tm,te⟩:=zVR (r / 8) hn
 have px:=List.getElem?_eq_getElem hlt
 have pm:=jZ left iv.toNat _ px
 generalize left[iv.toNat]=c at px pm
 refine⟨left.eraseIdx iv.toNat,acc++[⟨c,t,decide (r / 800 % 2=1)⟩],.fz (.int r),.fz (yQ c),?_,?_,?_,?_,?_⟩
 · rw[List.length_eraseIdx_of_lt hlt];omega
 · simp
 · rw[List.map_append,List.append_assoc]
   exact List.Perm.append_left _ pm
 · intro p hp
   rcases List.mem_append.mp hp with q | q
   · exact ht p q
   · rw[List.mem_singleton.mp q];exact tm
 · have d1:decide ((0:Int) < (left.length:Nat))=true:=decide_eq_true (by omega)
   have d2:decide ((0:Int) < 2)=true:=rfl
   have c8:zYz r 8=true:=rfl
   have c800:zYz r 800=true:=rfl
   have ix:ixN left.length iv=some iv.toNat:=by unfold ixN;rw[if_pos i0,if_pos i1]
   have lz:left.length<=lim:=by show left.length<=100000;omega
   have az:acc.length < lim:=by show acc.length < 100000;omega
   have gx:(left.map yQ)[iv.toNat]?=some (yQ c):=by rw[List.getElem?_map,px];rfl
   have o3:okL [yQ c,zB t,.bl (decide (r / 800 % 2=1))]=some [yQ c,zB t,.bl (decide (r / 800 % 2=1))]:=rfl
   simp only[fY,zH,yZ,zW5,mB,zM,zZ,zT,eI,eV,eC,rW,lO,zK,xE,eB2,gEq,List.getElem?_cons_zero,List.getElem?_cons_succ,List.length_map,List.length_cons,List.length_nil,Option.bind_some,Option.map_some,m1,hm,d1,d2,hi,ix,if_pos lz,if_pos az,gx,c8,c800,te,o3,if_true,List.set,iN,List.map_append,List.map_cons,List.map_nil,yP]
theorem bY {n:Nat}(hn:n=2∨n=3)(cell:Int):∀(m fuel:Nat) (left:List (List Int)) (acc:List Pt) (x4 x5:B),left.length=m->m < fuel->left.length+acc.length<=8->(∀p∈acc,p.t∈zJ n) ->
   ∃(acc':List Pt) (y4 y5:B),(acc'.map (·.c)).Perm (acc.map (·.c)++left)/\(∀p∈acc',p.t∈zJ n) /\
     uT (jG 2) fY fuel [.fz (.int n),.fz (.int cell),.ow (left.map yQ),.ow (acc.map yP),x4,x5]=some (.nx [.fz (.int n),.fz (.int cell),.ow [],.ow (acc'.map yP),y4,y5])
 | 0,0,_,_,_,_,_,hf,_,_=>by omega
 | m+1,0,_,_,_,_,_,hf,_,_=>by omega
 | 0,f+1,left,acc,x4,x5,hm,_,_,ht=>by
   have e:left=[]:=List.eq_nil_of_length_eq_zero hm
   subst e
   exact⟨acc,x4,x5,by rw[List.append_nil],ht,rfl⟩
 | m+1,f+1,left,acc,x4,x5,hm,hf,hs,ht=>by
   have hne:left≠[]:=fun z=>by rw[z] at hm;simp at hm
   obtain⟨left',acc',y4,y5,l1,l2,l3,l4,l5⟩:=zWe hn cell left acc x4 x5 hne (by omega) (by omega) ht
   obtain⟨acc2,z4,z5,p1,p2,p3⟩:=bY hn cell m f left' acc' y4 y5 (by omega) (by omega) (by omega) l4
   refine⟨acc2,z4,z5,p1.trans l3,p2,?_⟩
   have t:jG 2 [.fz (.int n),.fz (.int cell),.ow (left.map yQ),.ow (acc.map yP),x4,x5]=some true:=by
     cases left with
     | nil=>exact absurd rfl hne
     | cons a r=>rfl
   rw[uT,t,Option.bind_some,if_pos rfl,l5,Option.bind_some]
   exact p3
theorem zX7 {elt:Ef}{h:Pt->D}:∀(ps:List Pt) (x0 x1 x2:B) (acc:List D),(∀p∈ps,elt [.fz (yQ p.c),.fz (zB p.t),.fz (.bl p.b)]=some (h p)) ->
   vB (gT (zP (gN 0) (zP (gN 1) (zP (gN 2) yH)))) tOK elt (ps.map yP) [x0,x1,x2] acc=some (acc++ps.map h)
 | [],_,_,_,acc,_=>by simp[vB]
 | p::r,x0,x1,x2,acc,hh=>by
   rw[List.map_cons]
   unfold vB
   have e1:gT (zP (gN 0) (zP (gN 1) (zP (gN 2) yH))) (yP p) [x0,x1,x2]=some [.fz (yQ p.c),.fz (zB p.t),.fz (.bl p.b)]:=rfl
   have e2:tOK [.fz (yQ p.c),.fz (zB p.t),.fz (.bl p.b)]=some true:=rfl
   rw[e1,Option.bind_some,e2,Option.bind_some,if_pos rfl,hh p List.mem_cons_self,Option.bind_some,zX7 r _ _ _ _ fun q hq=>hh q (List.mem_cons_of_mem _ hq)]
   simp
theorem zU7 (n:Int)(j:Bool)(ps:List Pt)(b:Bool)(k:Int):oQ [zE wN n j ps,.bl b,.int k]=some (.int (if b=true then(ps.length:Int) - 1 - k else k)):=by
 have e:=kR [.fz (zE wN n j ps),.fz (.bl b),.fz (.int k)] (eV 0) (wN:=wN) (n:=n) (j:=j) (ps:=ps) rfl
 have l:xJ (yO (Str.ofString "Curve") (Str.ofString "parts") (eV 0)) [.fz (zE wN n j ps),.fz (.bl b),.fz (.int k)]=some (.int (ps.length:Nat)):=by
   unfold xJ
   rw[e]
   show some (D.int ((ps.map zF).length:Nat))=_
   rw[List.length_map]
 have q:=jP (eIf (tB1 (eV 1)) (oO (oO (xJ (yO (Str.ofString "Curve") (Str.ofString "parts") (eV 0))) (eC (.int 1))) (eV 2)) (eV 2) [.fz (zE wN n j ps),.fz (.bl b),.fz (.int k)])
 have r:eIf (tB1 (eV 1)) (oO (oO (xJ (yO (Str.ofString "Curve") (Str.ofString "parts") (eV 0))) (eC (.int 1))) (eV 2)) (eV 2) [.fz (zE wN n j ps),.fz (.bl b),.fz (.int k)]=some (.int (if b=true then(ps.length:Int) - 1 - k else k)):=by
   cases b with
   | true=>simp only[eIf,tB1,eI,l,eV,eC,rW,List.getElem?_cons_zero,List.getElem?_cons_succ,Option.bind_some,if_true]
   | false=>rfl
 exact q.trans r
theorem zWi:tU=qO:=rfl
theorem zVe:xQ=pU:=rfl
def ixB (b:Bool)(len k:Nat):Nat:=if b=true then len - 1 - k else k
theorem zTi {b:Bool}{len k:Nat}(h:k < len):(if b=true then(len:Int) - 1 - (k:Int) else(k:Int))=((ixB b len k:Nat):Int):=by
 unfold ixB
 cases b
 · rfl
 · rw[if_pos rfl,if_pos rfl];omega
theorem cN {b:Bool}{len k:Nat}(h:k < len):ixB b len k < len:=by
 unfold ixB
 split<;>omega
def stD (t:Tn)(b:Bool):D:=.tup [zB t,.bl b]
def zOk (t:Tn)(b:Bool)(p:Pt):D:=.tup [yQ (zN t p.c),.tup [zB (yN t p.t),.bl (b != p.b)]]
theorem zP6 (x y:Bool):gNe (.bl x) (.bl y)=some (x != y):=by cases x<;>cases y<;>rfl
section
variable {n:Nat} (hn:n=2∨n=3) {ps:List Pt} (ok:PtsOk n ps) {t:Tn} (ht:t∈zJ n) (b j:Bool)
include hn ok ht
theorem zSC {p:Pt}(hp:p∈ps):qO [zB t,yQ p.c]=some (yQ (zN t p.c))/\pU [zB t,zB p.t]=some (zB (yN t p.t)):=by
 have T:=trM hn ht
 have U:=trM hn (ok.turn p hp)
 have small:n<=1000:=by rcases hn with rfl | rfl<;>decide
 have hc:p.c.length=n:=wB hn _ (ok.perm.mem_iff.mp (List.mem_map.mpr ⟨p,hp,rfl⟩))
 exact⟨zZv t p.c (by rw[hc];exact T.fits) (by rw[T.len];exact small),zXN t p.t (by rw[U.len];exact T.fits) (by rw[T.len];exact small)⟩
theorem zRf {k:Nat}(hk:k < ps.length):xI [zE wN n j ps,stD t b,.int k]=some (zOk t b (ps[ixB b ps.length k]'(cN hk))):=by
 generalize hp:ps[ixB b ps.length k]'(cN hk)=p
 have hm:p∈ps:=by rw[←hp];exact List.getElem_mem _
 obtain⟨f1,f2⟩:=zSC hn ok ht hm
 have s0:rT (eV 1) (gT (zP (gN 3) (zP (gN 4) yH))) [.fz (zE wN n j ps),.fz (stD t b),.fz (.int k),.no,.no,.no,.no]=some (.nx [.fz (zE wN n j ps),.fz (stD t b),.fz (.int k),.fz (zB t),.fz (.bl b),.no,.no]):=rfl
 have q7:=fun r hk=>uY (g:=lF) (r:=r) s0 hk
 refine q7 _ ?_
 have w:=zU7 (wN:=wN) n j ps b k
 rw[zTi hk] at w
 have at_:atD (.lst (ps.map zF)) (.int ((ixB b ps.length k:Nat):Int))=some (zF p):=by
   show atI (ps.map zF) _=_
   rw[zYI,zYX (List.getElem?_eq_getElem (cN hk)),hp]
   rfl
 have s1:yZ 5 (eIx (yO (Str.ofString "Curve") (Str.ofString "parts") (eV 0)) (zM 3 oQ (zZ (eV 0) (zZ (eV 4) (zZ (eV 2) zT))))) [.fz (zE wN n j ps),.fz (stD t b),.fz (.int k),.fz (zB t),.fz (.bl b),.no,.no]=some (.nx [.fz (zE wN n j ps),.fz (stD t b),.fz (.int k),.fz (zB t),.fz (.bl b),.fz (zF p),.no]):=by
   have e:=kR [.fz (zE wN n j ps),.fz (stD t b),.fz (.int k),.fz (zB t),.fz (.bl b),.no,.no] (eV 0) (wN:=wN) (n:=n) (j:=j) (ps:=ps) rfl
   have e2:zM 3 oQ (zZ (eV 0) (zZ (eV 4) (zZ (eV 2) zT))) [.fz (zE wN n j ps),.fz (stD t b),.fz (.int k),.fz (zB t),.fz (.bl b),.no,.no]=some (.int ((ixB b ps.length k:Nat):Int)):=w
   simp only[yZ,eIx,e,e2,Option.bind_some,at_,Option.map_some,List.set]
 have q8:=fun r hk=>uY (g:=lS) (r:=r) s1 hk
 refine q8 _ ?_
 have o2:∀x y:D,okL [x,y]=some [x,y]:=fun _ _=>rfl
 have s2:yZ 6 (zK (zZ (zM 2 pU (zZ (eV 3) (zZ (yO (Str.ofString "Part") (Str.ofString "turn") (eV 5)) zT))) (zZ (xE (eB2 gNe (eV 4) (yO (Str.ofString "Part") (Str.ofString "back") (eV 5)))) zT))) [.fz (zE wN n j ps),.fz (stD t b),.fz (.int k),.fz (zB t),.fz (.bl b),.fz (zF p),.no]=some (.nx [.fz (zE wN n j ps),.fz (stD t b),.fz (.int k),.fz (zB t),.fz (.bl b),.fz (zF p),.fz (.tup [zB (yN t p.t),.bl (b != p.b)])]):=by
   have e1:=zTV [.fz (zE wN n j ps),.fz (stD t b),.fz (.int k),.fz (zB t),.fz (.bl b),.fz (zF p),.no] (eV 5) p rfl
   have e2:=zS3 [.fz (zE wN n j ps),.fz (stD t b),.fz (.int k),.fz (zB t),.fz (.bl b),.fz (zF p),.no] (eV 5) p rfl
   simp only[yZ,zK,zZ,zT,zM,xE,eB2,e1,e2]
   simp only[eV,rW,List.getElem?_cons_zero,List.getElem?_cons_succ,List.length_cons,List.length_nil,Option.bind_some,Option.map_some,if_true,f2,zP6,o2,List.set]
 have q9:=fun r hk=>uY (g:=lT) (r:=r) s2 hk
 refine q9 _ ?_
 have e3:=cX [.fz (zE wN n j ps),.fz (stD t b),.fz (.int k),.fz (zB t),.fz (.bl b),.fz (zF p),.fz (.tup [zB (yN t p.t),.bl (b != p.b)])] (eV 5) p rfl
 show((zK (zZ (zM 2 qO (zZ (eV 3) (zZ (yO (Str.ofString "Part") (Str.ofString "corner") (eV 5)) zT))) (zZ (eV 6) zT)) _).map Out.rt).bind vN=_
 simp only[zK,zZ,zT,zM,e3]
 simp only[eV,rW,List.getElem?_cons_zero,List.getElem?_cons_succ,List.length_cons,List.length_nil,Option.bind_some,Option.map_some,if_true,f1,o2,vN]
 rfl
end
section
variable {n:Nat} (hn:n=2∨n=3) {ps:List Pt} (ok:PtsOk n ps) {t:Tn} (ht:t∈zJ n) (b j:Bool)
include hn ok ht
end
end My
namespace My
open PySem L2
theorem zW1 {n:Nat}(hn:n=2∨n=3):uQ [.int n]=some ((zL n).map yQ):=by
 rcases hn with rfl | rfl<;>kernel_rfl
theorem zSq {n:Nat}(hn:n=2∨n=3)(cell:Int):∃ps:List Pt,PtsOk n ps/\pQ [.int n,.int cell]=some (ps.map yP):=by
 have hl:(zL n).length+([]:List Pt).length<=8:=by rw[kE];rcases hn with rfl | rfl<;>decide
 have hl2:(zL n).length<=8:=by simpa using hl
 obtain⟨ps,y4,y5,p1,p2,p3⟩:=bY hn cell _ 100 (zL n) [] .no .no rfl (by omega) hl (by simp)
 refine⟨ps,⟨p1,p2⟩,?_⟩
 have hc:=zW1 hn
 have s0:xC 2 (xD 1 uQ (zZ (eV 0) zT)) [.fz (.int n),.fz (.int cell),.no,.no,.no,.no]=some (.nx [.fz (.int n),.fz (.int cell),.ow ((zL n).map yQ),.no,.no,.no]):=by
   simp only[xC,xD,zZ,zT,eV,rW,List.getElem?_cons_zero,Option.bind_some,Option.map_some,List.length_cons,List.length_nil,if_true,hc,List.set]
 have s1:xC 3 (yY zT) [.fz (.int n),.fz (.int cell),.ow ((zL n).map yQ),.no,.no,.no]=some (.nx [.fz (.int n),.fz (.int cell),.ow ((zL n).map yQ),.ow [],.no,.no]):=rfl
 rw[List.map_nil] at p3
 show(pN [.fz (.int n),.fz (.int cell),.no,.no,.no,.no]).bind zYb=_
 unfold pN
 rw[yB s0]
 unfold pG
 rw[yB s1]
 unfold pM
 have p4:uT (jG 2) (zH (yZ 4 (zM 2 xB (zZ (eV 1) (zZ (sZ (eC (.int 48271)) (lW (eC (.int 997)) (lO 2))) zT)))) (zH (zW5 5 2 (wC (eV 4) (lO 2))) (mB 3 (zK (zZ (eV 5) (zZ (zM 2 xH (zZ (uN (eV 4) (eC (.int 8))) (zZ (eV 0) zT))) (zZ (xE (eB2 gEq (wC (uN (eV 4) (eC (.int 800))) (eC (.int 2))) (eC (.int 1)))) zT))))))) 100 _=_:=p3
 rw[yB p4]
 rfl
end My
namespace My
open PySem L2
def p0:Pt:=⟨[],[],false⟩
def enB (e f:List Int)(b:Bool):List Int:=if b then f else e
def zXS (n i:Nat)(c c' x y:List Int):Prop:=i < n/\c.getD i 0≠c'.getD i 0/\x.getD i 0=c'.getD i 0/\y.getD i 0=c.getD i 0/\∀j,j < n->j≠i->c.getD j 0=c'.getD j 0/\x.getD j 0=y.getD j 0
structure Mt (n:Nat)(ps:List Pt)(e f:List Int):Prop where
 ec:e∈zL n
 fc:f∈zL n
 first:(ps.getD 0 p0).c=e/\zN (ps.getD 0 p0).t (enB e f (ps.getD 0 p0).b)=e
 last:(ps.getD (ps.length - 1) p0).c=f/\zN (ps.getD (ps.length - 1) p0).t (enB f e (ps.getD (ps.length - 1) p0).b)=f
 next:∀k,k+1 < ps.length->∃i,zXS n i (ps.getD k p0).c (ps.getD (k+1) p0).c (zN (ps.getD k p0).t (enB f e (ps.getD k p0).b)) (zN (ps.getD (k+1) p0).t (enB e f (ps.getD (k+1) p0).b))
end My
namespace My
open PySem L2
theorem wG {i:Nat}{f:Ef}{g:Sf}{ρ:List B}{d:D}(h:f ρ=some d):zH (yZ i f) g ρ=g (ρ.set i (.fz d)):=yB (by unfold yZ;rw[h];rfl)
theorem qR {f:List D->Option D}{fa:Ef}{ρ:List B}{x:D}(h:fa ρ=some x):zM 1 f (zZ fa zT) ρ=f [x]:=iX (yU h rfl) rfl
theorem uF {f:List D->Option D}{fa fb:Ef}{ρ:List B}{x y:D}(h1:fa ρ=some x)(h2:fb ρ=some y):zM 2 f (zZ fa (zZ fb zT)) ρ=f [x,y]:=iX (yU h1 (yU h2 rfl)) rfl
theorem aC {f:List D->Option D}{fa fb fc:Ef}{ρ:List B}{x y z:D}(h1:fa ρ=some x)(h2:fb ρ=some y)(h3:fc ρ=some z):zM 3 f (zZ fa (zZ fb (zZ fc zT))) ρ=f [x,y,z]:=iX (yU h1 (yU h2 (yU h3 rfl))) rfl
theorem zYF {f:List D->Option (List D)}{fa fb:Ef}{ρ:List B}{x y:D}(h1:fa ρ=some x)(h2:fb ρ=some y):xD 2 f (zZ fa (zZ fb zT)) ρ=f [x,y]:=by unfold xD;rw[yU h1 (yU h2 rfl),Option.bind_some];rfl
theorem vO {C:Int->Int->Bool}{g:Int->Int->Int}{fa fb:Ef}{ρ:List B}{i j:Int}(h1:fa ρ=some (.int i))(h2:fb ρ=some (.int j))(h:C i j=true):eI C g fa fb ρ=some (.int (g i j)):=by
 unfold eI
 rw[h1,Option.bind_some,h2,Option.bind_some]
 show(if C i j then _ else none)=_
 rw[if_pos h]
theorem tI {t:Tf}{f:Sf}{ρ:List B}{b:Bool}(h:t ρ=some b):sIf t f yE ρ=if b then f ρ else some (.nx ρ):=by unfold sIf;rw[h];cases b<;>rfl
theorem zY3 {i:Nat}{f:Ef}{ρ:List B}{d:D}{ds:List D}(e1:f ρ=some d)(e2:ρ[i]?=some (.ow ds))(e3:ds.length<=1000):mB i f ρ=some (.nx (ρ.set i (.ow (ds++[d])))):=by
 unfold mB;rw[e1,Option.bind_some,e2]
 show(if ds.length < lim then _ else none)=_
 rw[if_pos (show ds.length < 100000 by omega)]
theorem zWP {f:Ef}{ρ:List B}{x k:Int}(h:f ρ=some (.int x)):eB2 gEq f (eC (.int k)) ρ=some (decide (x=k)):=by unfold eB2;rw[h];rfl
theorem zO8 {fa fb fc:Ef}{ρ:List B}{x y z:D}(h1:fa ρ=some x)(h2:fb ρ=some y)(h3:fc ρ=some z):zK (zZ fa (zZ fb (zZ fc zT))) ρ=some (.tup [x,y,z]):=by
 unfold zK;rw[yU h1 (yU h2 (yU h3 rfl))];rfl
theorem zSW {t:Tn}(ht:t∈turnsM2):wO [zB t]=some (zB (wR t)):=by
 obtain⟨a,b,f,g,h1,h2,h3,rfl⟩:=zVN ht
 rcases h1 with⟨rfl,rfl⟩ | ⟨rfl,rfl⟩<;>rcases h2 with rfl | rfl<;>rcases h3 with rfl | rfl<;>kernel_rfl
theorem zSD {t:Tn}(ht:t∈turnsM3):wO [zB t]=some (zB (wR t)):=by
 obtain⟨a,b,c,f,g,j,h1,h2,h3,h4,rfl⟩:=zV2 ht
 rcases h1 with⟨rfl,rfl,rfl⟩ | ⟨rfl,rfl,rfl⟩ | ⟨rfl,rfl,rfl⟩ | ⟨rfl,rfl,rfl⟩ | ⟨rfl,rfl,rfl⟩ | ⟨rfl,rfl,rfl⟩<;>rcases h2 with rfl | rfl<;>rcases h3 with rfl | rfl<;>rcases h4 with rfl | rfl<;>kernel_rfl
theorem zZj {n:Nat}(hn:n=2∨n=3){t:Tn}(h:t∈zJ n):wO [zB t]=some (zB (wR t)):=by
 rcases hn with rfl | rfl
 · exact zSW h
 · exact zSD h
theorem lN {n:Nat}(hn:n=2∨n=3){t u:Tn}(h:t∈zJ n)(h':u∈zJ n):xQ [zB t,zB u]=some (zB (yN t u)):=by
 have T:=trM hn h
 have U:=trM hn h'
 have small:n<=1000:=by rcases hn with rfl | rfl<;>decide
 rw[zVe]
 exact zXN t u (by rw[U.len];exact T.fits) (by rw[T.len];exact small)
def zPZ:List (List Int×Tn):=[([0,0],[(1,0),(0,0)]),([0,1],[(0,0),(1,0)]),([1,1],[(0,0),(1,0)]),([1,0],[(1,1),(0,1)])]
def zQn:List (List Int×Tn):=[([0,0,0],[(1,0),(0,0),(2,0)]),([0,1,0],[(1,0),(2,0),(0,0)]),([0,1,1],[(0,0),(1,0),(2,0)]),([0,0,1],[(1,1),(2,1),(0,0)]),([1,0,1],[(1,0),(2,1),(0,1)]),([1,1,1],[(0,0),(1,0),(2,0)]),([1,1,0],[(1,1),(2,0),(0,1)]),([1,0,0],[(1,1),(0,1),(2,0)])]
def lV (x:List Int×Tn):D:=.tup [yQ x.1,zB x.2]
def jQ (n:Nat):List (List Int×Tn):=if n=2 then zPZ else zQn
theorem zRQ {n:Nat}(hn:n=2∨n=3):nU [.int n]=some ((jQ n).map lV):=by
 rcases hn with rfl | rfl<;>kernel_rfl
theorem zV0 {n:Nat}(hn:n=2∨n=3):∀x∈jQ n,x.1∈zL n/\x.2∈zJ n:=by
 rcases hn with rfl | rfl<;>decide +kernel
theorem zZ4 {n:Nat}(hn:n=2∨n=3):∀t∈zJ n,((jQ n).map fun x=>zN t x.1).Perm (zL n):=by
 rcases hn with rfl | rfl<;>decide +kernel
def lG (t u:Tn):Tn:=yN t (yN u (wR t))
def mkP (t m:Tn)(x:List Int×Tn)(b:Bool):Pt:=⟨zN t x.1,if b then yN (lG t x.2) m else lG t x.2,b⟩
theorem zUO {n:Nat}(hn:n=2∨n=3){t m u:Tn}{c:List Int}(ht:t∈zJ n)(hm:m∈zJ n)(hu:u∈zJ n)(hc:c∈zL n)(x0 x1 x2 x9:B)(acc:List D)(ha:acc.length<=100)(bits:Int) :
   ∃b:Bool,(mkP t m (c,u) b).t∈zJ n/\wQ [x0,x1,x2,.fz (zB t),.fz (zB m),.ow acc,.fz (.int bits),.fz (yQ c),.fz (zB u),x9]=some (.nx [x0,x1,x2,.fz (zB t),.fz (zB m),.ow (acc++[yP (mkP t m (c,u) b)]),.fz (.int (bits / 2)),.fz (yQ c),.fz (zB u),.fz (zB (mkP t m (c,u) b).t)]):=by
 have um:=(lK hn ht).1
 have e1:=zZj hn ht
 have e2:=lN hn hu um
 have m2:=sJ hn hu um
 have e3:=lN hn ht m2
 have m3:=sJ hn ht m2
 have hl:lG t u=yN t (yN u (wR t)):=rfl
 rw[←hl] at e3 m3
 generalize hlg:lG t u=l at e3 m3
 have e4:=lN hn m3 hm
 have m4:=sJ hn m3 hm
 have T:=trM hn ht
 have small:n<=1000:=by rcases hn with rfl | rfl<;>decide
 have e5:tU [zB t,yQ c]=some (yQ (zN t c)):=by
   rw[zWi]
   exact zZv t c (by rw[wB hn c hc];exact T.fits) (by rw[T.len];exact small)
 have fin:∀w:Tn,w∈zJ n->uO [x0,x1,x2,.fz (zB t),.fz (zB m),.ow acc,.fz (.int bits),.fz (yQ c),.fz (zB u),.fz (zB w)]=some (.nx [x0,x1,x2,.fz (zB t),.fz (zB m),.ow (acc++[yP ⟨zN t c,w,decide (bits % 2=1)⟩]),.fz (.int (bits / 2)),.fz (yQ c),.fz (zB u),.fz (zB w)]):=fun w hw=>by
   unfold uO
   rw[yB (zY3 (d:=yP ⟨zN t c,w,decide (bits % 2=1)⟩) (ds:=acc) (zO8 ((uF rfl rfl).trans e5) rfl (by unfold xE;rw[zWP (x:=bits % 2) (vO rfl rfl rfl)];rfl)) rfl (by omega))]
   rfl
 unfold wQ
 rw[wG (d:=zB l) ((uF rfl ((uF rfl ((qR rfl).trans e1)).trans e2)).trans e3)]
 unfold rV
 have ht1:eB2 gEq (wC (eV 6) (eC (.int 2))) (eC (.int 1)) [x0,x1,x2,.fz (zB t),.fz (zB m),.ow acc,.fz (.int bits),.fz (yQ c),.fz (zB u),.fz (zB l)]=some (decide (bits % 2=1)):=zWP (vO rfl rfl rfl)
 by_cases hb:bits % 2=1
 · have hmk:mkP t m (c,u) true=⟨zN t c,yN l m,decide (bits % 2=1)⟩:=by unfold mkP;rw[decide_eq_true hb,hlg];rfl
   refine⟨true,by rw[hmk];exact m4,?_⟩
   rw[hmk]
   rw[yB (ρ':=[x0,x1,x2,.fz (zB t),.fz (zB m),.ow acc,.fz (.int bits),.fz (yQ c),.fz (zB u),.fz (zB (yN l m))])]
   · exact fin _ m4
   · refine(tI ht1).trans ?_
     rw[decide_eq_true hb,if_pos rfl]
     unfold yZ
     rw[uF rfl rfl,e4]
     rfl
 · have hmk:mkP t m (c,u) false=⟨zN t c,l,decide (bits % 2=1)⟩:=by unfold mkP;rw[decide_eq_false hb,hlg];rfl
   refine⟨false,by rw[hmk];exact m3,?_⟩
   rw[hmk]
   rw[yB (ρ':=[x0,x1,x2,.fz (zB t),.fz (zB m),.ow acc,.fz (.int bits),.fz (yQ c),.fz (zB u),.fz (zB l)])]
   · exact fin _ m3
   · refine(tI ht1).trans ?_
     rw[decide_eq_false hb]
     rfl
theorem zZ8 {n:Nat}(hn:n=2∨n=3){t m:Tn}(ht:t∈zJ n)(hm:m∈zJ n)(x0 x1 x2:B):∀(bs:List (List Int×Tn)) (acc:List Pt) (bits:Int) (x7 x8 x9:B),(∀x∈bs,x.1∈zL n/\x.2∈zJ n)->acc.length+bs.length<=100->(∀p∈acc,p.t∈zJ n) ->
   ∃(bl:List Bool) (y6 y7 y8 y9:B),bl.length=bs.length/\(∀p∈acc++List.zipWith (mkP t m) bs bl,p.t∈zJ n) /\
     kN (gT (zP (gN 7) (zP (gN 8) yH))) wQ (bs.map lV) [x0,x1,x2,.fz (zB t),.fz (zB m),.ow (acc.map yP),.fz (.int bits),x7,x8,x9]=some (.nx [x0,x1,x2,.fz (zB t),.fz (zB m),.ow ((acc++List.zipWith (mkP t m) bs bl).map yP),y6,y7,y8,y9])
 | [],acc,bits,x7,x8,x9,_,_,ha=>⟨[],.fz (.int bits),x7,x8,x9,rfl,by simpa using ha,by simp[kN]⟩
 | x::r,acc,bits,x7,x8,x9,hb,hl,ha=>by
   obtain⟨h1,h2⟩:=hb x List.mem_cons_self
   obtain⟨b,p2,p3⟩:=zUO hn ht hm h2 h1 x0 x1 x2 x9 (acc.map yP) (by rw[List.length_map];simp at hl;omega) bits
   obtain⟨bl,y6,y7,y8,y9,q1,q2,q3⟩:=zZ8 hn ht hm x0 x1 x2 r (acc++[mkP t m (x.1,x.2) b]) (bits / 2) (.fz (yQ x.1)) (.fz (zB x.2)) (.fz (zB (mkP t m (x.1,x.2) b).t)) (fun y hy=>hb y (List.mem_cons_of_mem _ hy)) (by simp at hl ⊢;omega) (fun q hq=>by
     rcases List.mem_append.mp hq with z | z
     · exact ha q z
     · rw[List.mem_singleton.mp z];exact p2)
   rw[List.append_assoc] at q2 q3
   refine⟨b::bl,y6,y7,y8,y9,by simp[q1],q2,?_⟩
   · rw[List.map_cons,eB (ρ1:=[x0,x1,x2,.fz (zB t),.fz (zB m),.ow (acc.map yP),.fz (.int bits),.fz (yQ x.1),.fz (zB x.2),x9]) rfl p3]
     rw[List.map_append,List.map_append] at q3
     rw[List.map_append]
     exact q3
def e0M (n:Nat):List Int:=if n=2 then [0,0] else [0,0,0]
def f0M (n:Nat):List Int:=if n=2 then [1,0] else [1,0,0]
def zXJ (n:Nat):Tn:=if n=2 then [(0,1),(1,0)] else [(0,1),(1,0),(2,0)]
def vQ (n:Nat)(rev:Bool):List (List Int×Tn):=if rev then(jQ n).reverse else jQ n
def eM (n:Nat)(t:Tn)(rev:Bool):List Int:=zN t (if rev then f0M n else e0M n)
def fM (n:Nat)(t:Tn)(rev:Bool):List Int:=zN t (if rev then e0M n else f0M n)
def b0:List Int×Tn:=([],[])
instance (n i:Nat)(c c' x y:List Int):Decidable (zXS n i c c' x y):=by unfold zXS;infer_instance
def zVt (n:Nat)(t:Tn)(rev:Bool):Bool :=
 decide (eM n t rev∈zL n)&&decide (fM n t rev∈zL n)&&decide (zN (lG t (zXJ n)) (eM n t rev)=fM n t rev)&&decide (zN (lG t (zXJ n)) (fM n t rev)=eM n t rev) &&
 decide (zN t ((vQ n rev).getD 0 b0).1=eM n t rev)&&decide (zN (lG t ((vQ n rev).getD 0 b0).2) (eM n t rev)=eM n t rev) &&
 decide (zN t ((vQ n rev).getD (2^n - 1) b0).1=fM n t rev)&&decide (zN (lG t ((vQ n rev).getD (2^n - 1) b0).2) (fM n t rev)=fM n t rev) &&
 (List.range (2^n - 1)).all fun k=>(List.range n).any fun i=>decide (zXS n i (zN t ((vQ n rev).getD k b0).1) (zN t ((vQ n rev).getD (k+1) b0).1) (zN (lG t ((vQ n rev).getD k b0).2) (fM n t rev)) (zN (lG t ((vQ n rev).getD (k+1) b0).2) (eM n t rev)))
theorem zSv {n:Nat}(hn:n=2∨n=3):∀t∈zJ n,∀rev,zVt n t rev=true:=by
 rcases hn with rfl | rfl
 · have:∀t∈zJ 2,∀rev,zVt 2 t rev=true:=by decide +kernel
   exact this
 · have:∀t∈zJ 3,∀rev,zVt 3 t rev=true:=by decide +kernel
   exact this
theorem zYT {n:Nat}(hn:n=2∨n=3){t u:Tn}(ht:t∈zJ n)(hu:u∈zJ n):lG t u∈zJ n:=sJ hn ht (sJ hn hu (lK hn ht).1)
theorem zVK {n:Nat}(hn:n=2∨n=3):zXJ n∈zJ n:=by
 rcases hn with rfl | rfl<;>decide +kernel
theorem zZF {n:Nat}(hn:n=2∨n=3)(rev:Bool):(vQ n rev).length=2^n:=by
 rcases hn with rfl | rfl<;>cases rev<;>rfl
theorem bZ {n:Nat}(hn:n=2∨n=3)(rev:Bool):∀x∈vQ n rev,x.1∈zL n/\x.2∈zJ n:=by
 intro x hx
 cases rev with
 | false=>exact zV0 hn x hx
 | true=>exact zV0 hn x (List.mem_reverse.mp hx)
theorem zWS {t m:Tn}{bs:List (List Int×Tn)}{bl:List Bool}(h:bl.length=bs.length):(List.zipWith (mkP t m) bs bl).length=bs.length:=by
 rw[List.length_zipWith,h,Nat.min_self]
theorem zZe {t m:Tn}{bs:List (List Int×Tn)}{bl:List Bool}(h:bl.length=bs.length){k:Nat}(hk:k < bs.length):(List.zipWith (mkP t m) bs bl).getD k p0=mkP t m (bs.getD k b0) (bl.getD k false):=by
 rw[List.getD_eq_getElem?_getD,List.getElem?_eq_getElem (by rw[zWS h];exact hk),List.getElem_zipWith,List.getD_eq_getElem?_getD,List.getElem?_eq_getElem hk,List.getD_eq_getElem?_getD,List.getElem?_eq_getElem (by rw[h];exact hk)]
 rfl
theorem zXu {n:Nat}(hn:n=2∨n=3){s t:Tn}(hs:s∈zJ n)(ht:t∈zJ n){c:List Int}(hc:c∈zL n):zN (yN s t) c=zN s (zN t c) :=
 iJ (trM hn hs) (trM hn ht) (wB hn c hc) (by
   have key:∀c∈zL n,∀x∈c,x=0∨x=1:=by rcases hn with rfl | rfl<;>decide +kernel
   exact key c hc)
theorem zSe {n:Nat}(hn:n=2∨n=3){t:Tn}(ht:t∈zJ n)(rev:Bool){bl:List Bool}(hl:bl.length=(vQ n rev).length):Mt n (List.zipWith (mkP t (lG t (zXJ n))) (vQ n rev) bl) (eM n t rev) (fM n t rev):=by
 have hb:=zSv hn t ht rev
 unfold zVt at hb
 simp only[Bool.and_eq_true,decide_eq_true_eq,List.all_eq_true,List.any_eq_true,List.mem_range] at hb
 obtain⟨⟨⟨⟨⟨⟨⟨⟨h1,h2⟩,h3⟩,h4⟩,h5⟩,h6⟩,h7⟩,h8⟩,h9⟩:=hb
 have hlen:=zZF hn rev
 have hpos:0 < 2^n:=Nat.pow_pos (by decide)
 have mm:=zYT hn ht (zVK hn)
 have mem:∀k,k < 2^n->(vQ n rev).getD k b0∈vQ n rev:=fun k hk=>by
   rw[List.getD_eq_getElem?_getD,List.getElem?_eq_getElem (by rw[hlen];exact hk)]
   exact List.getElem_mem _
 have en:∀k,k < 2^n->∀b,zN (mkP t (lG t (zXJ n)) ((vQ n rev).getD k b0) b).t (enB (eM n t rev) (fM n t rev) b)=zN (lG t ((vQ n rev).getD k b0).2) (eM n t rev):=fun k hk b=>by
   have lm:=zYT hn ht (bZ hn rev _ (mem k hk)).2
   cases b with
   | false=>rfl
   | true =>
     show zN (yN _ _) (fM n t rev)=_
     rw[zXu hn lm mm h2,h4]
 have ex:∀k,k < 2^n->∀b,zN (mkP t (lG t (zXJ n)) ((vQ n rev).getD k b0) b).t (enB (fM n t rev) (eM n t rev) b)=zN (lG t ((vQ n rev).getD k b0).2) (fM n t rev):=fun k hk b=>by
   have lm:=zYT hn ht (bZ hn rev _ (mem k hk)).2
   cases b with
   | false=>rfl
   | true =>
     show zN (yN _ _) (eM n t rev)=_
     rw[zXu hn lm mm h1,h3]
 refine⟨h1,h2,?_,?_,fun k hk=>?_⟩
 · rw[zZe hl (by omega)]
   exact⟨h5,(en 0 hpos _).trans h6⟩
 · rw[zWS hl,hlen,zZe hl (by omega)]
   exact⟨h7,(ex _ (by omega) _).trans h8⟩
 · rw[zWS hl,hlen] at hk
   obtain⟨i,hi,ha⟩:=h9 k (by omega)
   refine⟨i,?_⟩
   rw[zZe hl (by omega),zZe hl (by omega)]
   have a1:=ex k (by omega) (bl.getD k false)
   have a2:=en (k+1) (by omega) (bl.getD (k+1) false)
   show zXS n i _ _ (zN _ (enB _ _ (bl.getD k false))) (zN _ (enB _ _ (bl.getD (k+1) false)))
   rw[a1,a2]
   exact ha
theorem cP {t m:Tn}:∀ {bs:List (List Int×Tn)} {bl:List Bool},bl.length=bs.length->(List.zipWith (mkP t m) bs bl).map (·.c)=bs.map fun x=>zN t x.1
 | [],[],_=>rfl
 | [],_::_,h=>by simp at h
 | _::_,[],h=>by simp at h
 | x::bs,b::bl,h=>by
   rw[List.zipWith_cons_cons,List.map_cons,List.map_cons,cP (by simpa using h)]
   rfl
theorem zU6 {n:Nat}(hn:n=2∨n=3)(q:Int):∃(ps:List Pt) (e f:List Int),PtsOk n ps/\Mt n ps e f/\tY [.int n,.int q]=some (ps.map yP):=by
 obtain⟨t,tm,te⟩:=zVR q hn
 have hmir:∃m,m=zXJ n/\∀r:List B,wA (eL (yV (iR (eV 0)) 1 [] (gN 0) tOK (zK (zZ (eV 0) (zZ (nH (xE (eB2 gEq (eV 0) (eC (.int 0))))) zT))))) (.fz (.int (n:Nat))::r)=some (zB m):=by
   rcases hn with rfl | rfl
   · exact⟨[(0,1),(1,0)],rfl,fun r=>by kernel_rfl⟩
   · exact⟨[(0,1),(1,0),(2,0)],rfl,fun r=>by kernel_rfl⟩
 obtain⟨m,mdef,me⟩:=hmir
 have mm:m∈zJ n:=by rw[mdef];exact zVK hn
 have um:=(lK hn tm).1
 have e1:=zZj hn tm
 have e2:=lN hn mm um
 have m2:=sJ hn mm um
 have e3:=lN hn tm m2
 have m3:=sJ hn tm m2
 have go:∀rev:Bool,((vQ n rev).map fun x=>zN t x.1).Perm (zL n)->∃(ps:List Pt) (e f:List Int),PtsOk n ps/\Mt n ps e f/\(tO [.fz (.int n),.fz (.int q),.fz (.lst ((vQ n rev).map lV)),.fz (zB t),.no,.no,.no,.no,.no,.no]).bind zYb=some (ps.map yP):=fun rev h3=>by
   have hsm:(vQ n rev).length<=100:=by rw[zZF hn];rcases hn with rfl | rfl<;>decide
   obtain⟨bl,y6,y7,y8,y9,q1,q2,q3⟩:=zZ8 hn tm m3 (.fz (.int n)) (.fz (.int q)) (.fz (.lst ((vQ n rev).map lV))) (vQ n rev) [] (q / 96) .no .no .no (bZ hn rev) (by simpa using hsm) (by simp)
   rw[List.nil_append] at q2 q3
   have mt:=zSe hn tm rev q1
   rw[show lG t (zXJ n)=yN t (yN m (wR t)) by rw[mdef];rfl] at mt
   have hpc:=cP (t:=t) (m:=yN t (yN m (wR t))) q1
   generalize hbs:vQ n rev=bs at *
   generalize List.zipWith (mkP t (yN t (yN m (wR t)))) bs bl=ps at *
   refine⟨ps,_,_,⟨?_,q2⟩,mt,?_⟩
   · rw[hpc];exact h3
   · unfold tO
     rw[wG (d:=zB m) (me _)]
     unfold qC
     rw[wG (d:=zB (yN t (yN m (wR t)))) ((uF rfl ((uF rfl ((qR rfl).trans e1)).trans e2)).trans e3)]
     unfold qT
     rw[yB (ρ':=[.fz (.int n),.fz (.int q),.fz (.lst (bs.map lV)),.fz (zB t),.fz (zB (yN t (yN m (wR t)))),.ow [],.no,.no,.no,.no]) rfl]
     unfold qJ
     rw[wG (d:=.int (q / 96)) (vO rfl rfl rfl)]
     unfold qK
     have fr:rM (iL (eV 2)) (gT (zP (gN 7) (zP (gN 8) yH))) wQ [.fz (.int n),.fz (.int q),.fz (.lst (bs.map lV)),.fz (zB t),.fz (zB (yN t (yN m (wR t)))),.ow [],.fz (.int (q / 96)),.no,.no,.no]=some (.nx [.fz (.int n),.fz (.int q),.fz (.lst (bs.map lV)),.fz (zB t),.fz (zB (yN t (yN m (wR t)))),.ow (ps.map yP),y6,y7,y8,y9]):=q3
     dsimp only[List.set]
     rw[yB fr]
     rfl
 show ∃(ps:List Pt) (e f:List Int),PtsOk n ps/\Mt n ps e f/\(qF [.fz (.int n),.fz (.int q),.no,.no,.no,.no,.no,.no,.no,.no]).bind zYb=some (ps.map yP)
 unfold qF
 rw[wG (d:=.lst ((jQ n).map lV)) (iA (by unfold xD;rw[yU (d:=.int n) rfl rfl,Option.bind_some];exact zRQ hn))]
 unfold qU
 rw[wG (d:=zB t) ((uF rfl rfl).trans te)]
 unfold qH
 have ht1:eB2 gEq (wC (uN (eV 1) (eC (.int 48))) (eC (.int 2))) (eC (.int 1)) [.fz (.int n),.fz (.int q),.fz (.lst ((jQ n).map lV)),.fz (zB t),.no,.no,.no,.no,.no,.no]=some (decide (q / 48 % 2=1)):=zWP (vO (vO rfl rfl rfl) rfl rfl)
 by_cases hb:q / 48 % 2=1
 · obtain⟨ps,e,f,g1,g3,g2⟩:=go true (by show((jQ n).reverse.map _).Perm _;rw[List.map_reverse];exact(List.reverse_perm _).trans (zZ4 hn t tm))
   refine⟨ps,e,f,g1,g3,?_⟩
   rw[yB (ρ':=[.fz (.int n),.fz (.int q),.fz (.lst ((jQ n).reverse.map lV)),.fz (zB t),.no,.no,.no,.no,.no,.no])]
   · exact g2
   · refine(tI ht1).trans ?_
     rw[decide_eq_true hb,if_pos rfl,List.map_reverse]
     rfl
 · obtain⟨ps,e,f,g1,g3,g2⟩:=go false (zZ4 hn t tm)
   refine⟨ps,e,f,g1,g3,?_⟩
   rw[yB (ρ':=[.fz (.int n),.fz (.int q),.fz (.lst ((jQ n).map lV)),.fz (zB t),.no,.no,.no,.no,.no,.no])]
   · exact g2
   · refine(tI ht1).trans ?_
     rw[decide_eq_false hb]
     rfl
end My
namespace My
open PySem L2
def xM (ps:List Pt)(b:Bool)(k:Nat):Pt:=ps.getD (ixB b ps.length k) ⟨[],[],false⟩
theorem zVv {ps:List Pt}{b:Bool}{k:Nat}(hk:k < ps.length):ps[ixB b ps.length k]'(cN hk)=xM ps b k:=by
 unfold xM
 rw[List.getD_eq_getElem?_getD,List.getElem?_eq_getElem (cN hk)]
 rfl
theorem oX {ps:List Pt}{b:Bool}{k:Nat}(hk:k < ps.length):xM ps b k∈ps:=by rw[←zVv hk];exact List.getElem_mem _
def cW (ps:List Pt)(i:Nat):Tn->Bool->Int->List Nat->Int
 | _,_,x,[]=>x
 | t,b,x,d::r=>cW ps i (yN t (xM ps b d).t) (b != (xM ps b d).b) (2*x+(zN t (xM ps b d).c).getD i 0) r
theorem gM (ps:List Pt)(i:Nat):∀(ds:List Nat) (t:Tn) (b:Bool) (x:Int),cW ps i t b x ds=x*2^ds.length+cW ps i t b 0 ds
 | [],t,b,x=>by simp[cW]
 | d::r,t,b,x=>by
   unfold cW
   rw[gM ps i r _ _ (2*x+_),gM ps i r _ _ (2*0+_)]
   rw[List.length_cons]
   generalize(zN t (xM ps b d).c).getD i 0=e
   generalize cW ps i _ _ 0 r=y
   rw[Int.pow_succ]
   generalize(2:Int)^r.length=p
   rw[Int.add_mul,Int.add_mul,Int.mul_comm 2 x,Int.mul_assoc,Int.mul_comm 2 p]
   omega
theorem pR {n:Nat}(hn:n=2∨n=3){c:List Int}(hc:c∈zL n)(i:Nat):c.getD i 0=0∨c.getD i 0=1:=by
 have key:∀c∈zL n,∀x∈c,x=0∨x=1:=by rcases hn with rfl | rfl<;>decide +kernel
 rw[List.getD_eq_getElem?_getD]
 cases h:c[i]? with
 | none=>exact .inl rfl
 | some x=>exact key c hc x (List.mem_of_getElem? h)
theorem oK {n:Nat}(hn:n=2∨n=3):∀t∈zJ n,∀c∈zL n,zN t c∈zL n:=by
 rcases hn with rfl | rfl<;>decide +kernel
section
variable {n:Nat} (hn:n=2∨n=3) {ps:List Pt} (ok:PtsOk n ps)
include hn ok
theorem zRg {b:Bool}{k:Nat}(hk:k < ps.length):(xM ps b k).c∈zL n:=ok.perm.mem_iff.mp (List.mem_map.mpr ⟨_,oX hk,rfl⟩)
theorem zSi {t:Tn}(ht:t∈zJ n){b:Bool}{k:Nat}(hk:k < ps.length):yN t (xM ps b k).t∈zJ n:=sJ hn ht (ok.turn _ (oX hk))
theorem zSb (f:Nat->Int)(c:List Int)(hc:c.length=n):vG [yQ ((List.range n).map f),yQ c]=some (yQ ((List.range n).map fun i=>2*f i+c.getD i 0)):=by
 rcases hn with rfl | rfl
 · match c,hc with
   | [a,b],_=>show vG [.tup [.int (f 0),.int (f 1)],.tup [.int a,.int b]]=some (.tup [.int (2*f 0+a),.int (2*f 1+b)]);generalize f 0=u;generalize f 1=v;kernel_rfl
 · match c,hc with
   | [a,b,e],_=>show vG [.tup [.int (f 0),.int (f 1),.int (f 2)],.tup [.int a,.int b,.int e]]=some (.tup [.int (2*f 0+a),.int (2*f 1+b),.int (2*f 2+e)]);generalize f 0=u;generalize f 1=v;generalize f 2=w;kernel_rfl
end
section
variable {ps:List Pt} (hB:0 < ps.length) (hs:ps.length<=8)
include hB hs
end
end My
namespace My
open PySem L2
theorem zPq {t:Tf}{f g:Sf}{ρ:List B}{r:Option D}(h:t ρ=some false)(k:(g ρ).bind vN=r):(zH (sIf t f yE) g ρ).bind vN=r:=uY (by unfold sIf;rw[h];rfl) k
theorem dP {i:Nat}{f:Ef}{g:Sf}{ρ:List B}{d:D}{r:Option D}(h:f ρ=some d)(k:(g (ρ.set i (.fz d))).bind vN=r):(zH (yZ i f) g ρ).bind vN=r:=uY (by unfold yZ;rw[h];rfl) k
theorem eT {f:Ef}{ρ:List B}(h:f ρ=some (.bl true)):wU (tB1 f) ρ=some false:=by unfold wU tB1;rw[h];rfl
theorem zTE {n:Nat}(hn:n=2∨n=3):sM [.int (n:Nat)]=some (stD (tK n) false):=by rcases hn with rfl | rfl<;>kernel_rfl
theorem zZr {n:Nat}(hn:n=2∨n=3):tK n∈zJ n:=by rcases hn with rfl | rfl<;>decide +kernel
theorem zZn {n:Int}{j:Bool}{ps:List Pt}{ρ:List B}(h:eV 0 ρ=some (zE wN n j ps)):xJ (yO (Str.ofString "Curve") (Str.ofString "parts") (eV 0)) ρ=some (.int (ps.length:Nat)):=by
 unfold xJ
 rw[kR ρ (eV 0) h,Option.bind_some]
 show some (D.int ((ps.map zF).length:Nat))=_
 rw[List.length_map]
theorem zSZ {n:Int}{j:Bool}{ps:List Pt}{ρ:List B}(h:eV 0 ρ=some (zE wN n j ps)):yO (Str.ofString "Curve") (Str.ofString "dims") (eV 0) ρ=some (.int n):=by
 unfold yO;rw[h];rfl
section
variable {n:Nat} (hn:n=2∨n=3) {ps:List Pt} (ok:PtsOk n ps) (j:Bool)
include hn ok
end
end My
namespace My
open PySem L2
theorem dY {n:Nat}{e f:List Int}(he:e∈zL n)(hf:f∈zL n)(b:Bool):enB e f b∈zL n:=by cases b<;>assumption
theorem sF (e f:List Int)(b c:Bool):enB e f (b != c)=if b then enB f e c else enB e f c:=by cases b<;>cases c<;>rfl
theorem wV {n:Nat}{s:Tn}(hs:Tr n s){c:List Int}{i:Nat}(hi:i < n):(zN s c).getD i 0=Builtin.bitXor (c.getD (s.getD i (0,0)).1.toNat 0) (s.getD i (0,0)).2:=by
 unfold zN
 rw[List.getD_eq_getElem?_getD,List.getElem?_map,List.getElem?_eq_getElem (by rw[hs.len];exact hi),List.getD_eq_getElem?_getD (l:=s),List.getElem?_eq_getElem (by rw[hs.len];exact hi)]
 rfl
theorem zRZ {n:Nat}(hn:n=2∨n=3){s:Tn}(hs:s∈zJ n){c c' x y:List Int}(hc:c∈zL n)(hc':c'∈zL n)(hx:x∈zL n)(hy:y∈zL n){i:Nat}(h:zXS n i c c' x y):∃j,zXS n j (zN s c) (zN s c') (zN s x) (zN s y):=by
 have T:=trM hn hs
 -- the axis that turns to i
 have key:∀s∈zJ n,∀i,i < n->∃j,j < n/\(s.getD j (0,0)).1.toNat=i/\∀k,k < n->k≠j->(s.getD k (0,0)).1.toNat≠i/\(s.getD k (0,0)).1.toNat < n:=by
   rcases hn with rfl | rfl
   · have:∀s∈zJ 2,∀i,i < 2->∃j,j < 2/\(s.getD j (0,0)).1.toNat=i/\∀k,k < 2->k≠j->(s.getD k (0,0)).1.toNat≠i/\(s.getD k (0,0)).1.toNat < 2:=by decide +kernel
     exact this
   · have:∀s∈zJ 3,∀i,i < 3->∃j,j < 3/\(s.getD j (0,0)).1.toNat=i/\∀k,k < 3->k≠j->(s.getD k (0,0)).1.toNat≠i/\(s.getD k (0,0)).1.toNat < 3:=by decide +kernel
     exact this
 have fl:∀s∈zJ n,∀j,j < n->(s.getD j (0,0)).2=0∨(s.getD j (0,0)).2=1:=by
   rcases hn with rfl | rfl
   · have:∀s∈zJ 2,∀j,j < 2->(s.getD j (0,0)).2=0∨(s.getD j (0,0)).2=1:=by decide +kernel
     exact this
   · have:∀s∈zJ 3,∀j,j < 3->(s.getD j (0,0)).2=0∨(s.getD j (0,0)).2=1:=by decide +kernel
     exact this
 obtain⟨hi,h1,h2,h3,h4⟩:=h
 obtain⟨j,hj,e,ho⟩:=key s hs i hi
 have bc:=pR hn hc
 have bc':=pR hn hc'
 have xr:∀a b g:Int,(a=0∨a=1)->(b=0∨b=1)->(g=0∨g=1)->a≠b->Builtin.bitXor a g≠Builtin.bitXor b g:=by
   intro a b g ha hb hg hab
   rcases ha with rfl | rfl<;>rcases hb with rfl | rfl<;>rcases hg with rfl | rfl<;>first | exact absurd rfl hab | decide
 refine⟨j,hj,?_,?_,?_,fun k hk hkj=>?_⟩
 · rw[wV T hj,wV T hj,e]
   exact xr _ _ _ (bc i) (bc' i) (fl s hs j hj) h1
 · rw[wV T hj,wV T hj,e,h2]
 · rw[wV T hj,wV T hj,e,h3]
 · obtain⟨q1,q2⟩:=ho k hk hkj
   obtain⟨g1,g2⟩:=h4 _ q2 q1
   rw[wV T hk,wV T hk,wV T hk,wV T hk,g1,g2]
   exact⟨rfl,rfl⟩
section
variable {n:Nat} (hn:n=2∨n=3) {ps:List Pt} (ok:PtsOk n ps) {e f:List Int} (M:Mt n ps e f)
include hn ok M
theorem zV8:0 < ps.length:=by rw[ok.len];exact Nat.pow_pos (by decide)
theorem ta {s t:Tn}(hs:s∈zJ n)(ht:t∈zJ n){c:List Int}(hc:c∈zL n):zN (yN s t) c=zN s (zN t c) :=
 iJ (trM hn hs) (trM hn ht) (wB hn c hc) (by
   have key:∀c∈zL n,∀x∈c,x=0∨x=1:=by rcases hn with rfl | rfl<;>decide +kernel
   exact key c hc)
theorem zS5 (i:Nat):∀(m:Nat) (s:Tn) (b:Bool),s∈zJ n->cW ps i s b 0 (List.replicate m 0)=(zN s (enB e f b)).getD i 0*(2^m - 1)
 | 0,s,b,hs=>by simp[cW]
 | m+1,s,b,hs=>by
   have hp:=zV8 hn ok M
   have pm:xM ps b 0∈ps:=oX hp
   have hc:(xM ps b 0).c=enB e f b/\zN (xM ps b 0).t (enB e f (b != (xM ps b 0).b))=enB e f b:=by
     cases b with
     | false =>
       have:xM ps false 0=ps.getD 0 p0:=rfl
       rw[this]
       refine⟨M.first.1,?_⟩
       rw[sF,if_neg (by decide)]
       exact M.first.2
     | true =>
       have:xM ps true 0=ps.getD (ps.length - 1) p0:=rfl
       rw[this]
       refine⟨M.last.1,?_⟩
       rw[sF,if_pos rfl]
       exact M.last.2
   rw[List.replicate_succ]
   unfold cW
   rw[gM,zS5 i m _ _ (zSi hn ok hs hp),ta hn ok M hs (ok.turn _ pm) (dY M.ec M.fc _),hc.2,hc.1,List.length_replicate,Int.pow_succ]
   generalize(zN s (enB e f b)).getD i 0=g
   generalize(2:Int)^m=p
   rw[Int.mul_zero,Int.zero_add,Int.mul_sub,Int.mul_sub,←Int.mul_assoc]
   omega
theorem zPp (i:Nat):∀(m:Nat) (s:Tn) (b:Bool),s∈zJ n->cW ps i s b 0 (List.replicate m (ps.length - 1))=(zN s (enB f e b)).getD i 0*(2^m - 1)
 | 0,s,b,hs=>by simp[cW]
 | m+1,s,b,hs=>by
   have hp:=zV8 hn ok M
   have hq:ps.length - 1 < ps.length:=by omega
   have pm:xM ps b (ps.length - 1)∈ps:=oX hq
   have hc:(xM ps b (ps.length - 1)).c=enB f e b/\zN (xM ps b (ps.length - 1)).t (enB f e (b != (xM ps b (ps.length - 1)).b))=enB f e b:=by
     cases b with
     | false =>
       have:xM ps false (ps.length - 1)=ps.getD (ps.length - 1) p0:=rfl
       rw[this]
       refine⟨M.last.1,?_⟩
       rw[sF,if_neg (by decide)]
       exact M.last.2
     | true =>
       have:xM ps true (ps.length - 1)=ps.getD 0 p0:=by
         unfold xM ixB
         rw[if_pos rfl,show ps.length - 1 - (ps.length - 1)=0 by omega]
         rfl
       rw[this]
       refine⟨M.first.1,?_⟩
       rw[sF,if_pos rfl]
       exact M.first.2
   rw[List.replicate_succ]
   unfold cW
   rw[gM,zPp i m _ _ (zSi hn ok hs hq),ta hn ok M hs (ok.turn _ pm) (dY M.fc M.ec _),hc.2,hc.1,List.length_replicate,Int.pow_succ]
   generalize(zN s (enB f e b)).getD i 0=g
   generalize(2:Int)^m=p
   rw[Int.mul_zero,Int.zero_add,Int.mul_sub,Int.mul_sub,←Int.mul_assoc]
   omega
theorem zOz {k:Nat}(hk:k+1 < ps.length)(b:Bool):∃i,zXS n i (xM ps b k).c (xM ps b (k+1)).c (zN (xM ps b k).t (enB f e (b != (xM ps b k).b))) (zN (xM ps b (k+1)).t (enB e f (b != (xM ps b (k+1)).b))):=by
 cases b with
 | false =>
   obtain⟨i,h⟩:=M.next k hk
   refine⟨i,?_⟩
   rw[sF,sF,if_neg (by decide),if_neg (by decide)]
   exact h
 | true =>
   obtain⟨i,h1,h2,h3,h4,h5⟩:=M.next (ps.length - 1 - (k+1)) (by omega)
   have e1:xM ps true k=ps.getD (ps.length - 1 - (k+1)+1) p0:=by
     unfold xM ixB
     rw[if_pos rfl,show ps.length - 1 - (k+1)+1=ps.length - 1 - k by omega]
     rfl
   have e2:xM ps true (k+1)=ps.getD (ps.length - 1 - (k+1)) p0:=rfl
   refine⟨i,?_⟩
   rw[sF,sF,if_pos rfl,if_pos rfl,e1,e2]
   exact⟨h1,fun z=>h2 z.symm,h4,h3,fun j hj hji=>⟨(h5 j hj hji).1.symm,(h5 j hj hji).2.symm⟩⟩
def yL (ps:List Pt):Tn->Bool->List Nat->Tn×Bool
 | s,b,[]=>(s,b)
 | s,b,d::r=>yL ps (yN s (xM ps b d).t) (b != (xM ps b d).b) r
theorem gQ:∀(pre:List Nat) (s:Tn) (b:Bool),s∈zJ n->(∀d∈pre,d < ps.length)->(yL ps s b pre).1∈zJ n
 | [],s,b,hs,_=>hs
 | d::pre,s,b,hs,hd=>gQ pre _ _ (zSi hn ok hs (hd d List.mem_cons_self)) fun y hy=>hd y (List.mem_cons_of_mem _ hy)
theorem zY2 (i:Nat):∀(pre:List Nat) (s:Tn) (b:Bool) (x:Int) (r:List Nat),cW ps i s b x (pre++r)=cW ps i (yL ps s b pre).1 (yL ps s b pre).2 (cW ps i s b x pre) r
 | [],s,b,x,r=>rfl
 | d::pre,s,b,x,r=>zY2 i pre _ _ _ r
theorem zQC (pre:List Nat)(k m:Nat)(hk:k+1 < ps.length)(hd:∀d∈pre,d < ps.length)(s:Tn)(b:Bool)(hs:s∈zJ n) :
   ∃i,i < n/\(cW ps i s b 0 (pre++(k+1)::List.replicate m 0) - cW ps i s b 0 (pre++k::List.replicate m (ps.length - 1))=1∨cW ps i s b 0 (pre++(k+1)::List.replicate m 0) - cW ps i s b 0 (pre++k::List.replicate m (ps.length - 1)) = -1) /\
     ∀j,j < n->j≠i->cW ps j s b 0 (pre++(k+1)::List.replicate m 0)=cW ps j s b 0 (pre++k::List.replicate m (ps.length - 1)):=by
 have hs':=gQ hn ok M pre s b hs hd
 have hk0:k < ps.length:=by omega
 obtain⟨i,ag⟩:=zOz hn ok M hk (yL ps s b pre).2
 have p1:=ok.turn _ (oX (b:=(yL ps s b pre).2) hk0)
 have p2:=ok.turn _ (oX (b:=(yL ps s b pre).2) hk)
 have c1:=zRg hn ok (b:=(yL ps s b pre).2) hk0
 have c2:=zRg hn ok (b:=(yL ps s b pre).2) hk
 have x1:=dY M.fc M.ec ((yL ps s b pre).2 != (xM ps (yL ps s b pre).2 k).b)
 have x2:=dY M.ec M.fc ((yL ps s b pre).2 != (xM ps (yL ps s b pre).2 (k+1)).b)
 obtain⟨j,hj,g1,g2,g3,g4⟩:=zRZ hn hs' c1 c2 (oK hn _ p1 _ x1) (oK hn _ p2 _ x2) ag
 have val:∀a:Nat,cW ps a s b 0 (pre++(k+1)::List.replicate m 0)=(2*cW ps a s b 0 pre+(zN (yL ps s b pre).1 (xM ps (yL ps s b pre).2 (k+1)).c).getD a 0)*2^m+(zN (yL ps s b pre).1 (zN (xM ps (yL ps s b pre).2 (k+1)).t (enB e f ((yL ps s b pre).2 != (xM ps (yL ps s b pre).2 (k+1)).b)))).getD a 0*(2^m - 1):=fun a=>by
   rw[zY2 hn ok M a pre]
   show cW ps a _ _ _ (List.replicate m 0)=_
   rw[gM,zS5 hn ok M a m _ _ (zSi hn ok hs' hk),ta hn ok M hs' p2 x2,List.length_replicate]
 have val':∀a:Nat,cW ps a s b 0 (pre++k::List.replicate m (ps.length - 1))=(2*cW ps a s b 0 pre+(zN (yL ps s b pre).1 (xM ps (yL ps s b pre).2 k).c).getD a 0)*2^m+(zN (yL ps s b pre).1 (zN (xM ps (yL ps s b pre).2 k).t (enB f e ((yL ps s b pre).2 != (xM ps (yL ps s b pre).2 k).b)))).getD a 0*(2^m - 1):=fun a=>by
   rw[zY2 hn ok M a pre]
   show cW ps a _ _ _ (List.replicate m (ps.length - 1))=_
   rw[gM,zPp hn ok M a m _ _ (zSi hn ok hs' hk0),ta hn ok M hs' p1 x1,List.length_replicate]
 have b1:=pR hn (oK hn _ hs' _ c1)
 have b2:=pR hn (oK hn _ hs' _ c2)
 refine⟨j,hj,?_,fun a ha haj=>?_⟩
 · rw[val j,val' j,g2,g3]
   have u1:=b1 j
   have u2:=b2 j
   generalize(zN (yL ps s b pre).1 (xM ps (yL ps s b pre).2 (k+1)).c).getD j 0=u at *
   generalize(zN (yL ps s b pre).1 (xM ps (yL ps s b pre).2 k).c).getD j 0=v at *
   generalize cW ps j s b 0 pre=w
   generalize(2:Int)^m=p
   rcases u1 with rfl | rfl<;>rcases u2 with rfl | rfl
   · exact absurd rfl g1
   · left
     rw[Int.add_mul,Int.add_mul]
     omega
   · right
     rw[Int.add_mul,Int.add_mul]
     omega
   · exact absurd rfl g1
 · obtain⟨q1,q2⟩:=g4 a ha haj
   rw[val a,val' a,q1,q2]
end
end My
namespace My
open PySem L2
def aI (i:Int):Int:=if i < 0 then -i else i
def dst (xs ys:List Int):Int:=(List.zipWith (fun a b=>aI (a - b)) xs ys).sum
theorem zP5 (a b:Int):aI (a - b)=aI (b - a):=by unfold aI;split<;>split<;>omega
theorem zVD:∀xs ys:List Int,dst xs ys=dst ys xs
 | [],[]=>rfl
 | [],_::_=>rfl
 | _::_,[]=>rfl
 | x::xs,y::ys=>by
   have:=zVD xs ys
   unfold dst at this ⊢
   rw[List.zipWith_cons_cons,List.zipWith_cons_cons,List.sum_cons,List.sum_cons,this,zP5]
theorem zRH {n:Nat}(hn:n=2∨n=3):∀xs ys:List Int,xs.length=n->ys.length=n->sX [yQ xs,yQ ys]=some (.bl (decide (dst xs ys=1))):=by
 rcases hn with rfl | rfl
 · intro xs ys hx hy
   match xs,ys,hx,hy with
   | [a,b],[c,d],_,_=>kernel_rfl
 · intro xs ys hx hy
   match xs,ys,hx,hy with
   | [a,b,e],[c,d,f],_,_=>kernel_rfl
theorem bC {x:Int}(h:x=1∨x = -1):aI x=1:=by rcases h with rfl | rfl<;>rfl
theorem lQ {x y:Int}(h:x=y):aI (x - y)=0:=by rw[h,Int.sub_self];rfl
theorem zUE {n:Nat}(hn:n=2∨n=3)(f g:Nat->Int){i:Nat}(hi:i < n)(h1:f i - g i=1∨f i - g i = -1)(h2:∀j,j < n->j≠i->f j=g j):dst ((List.range n).map f) ((List.range n).map g)=1:=by
 rcases hn with rfl | rfl
 · show aI (f 0 - g 0)+(aI (f 1 - g 1)+0)=1
   match i,hi with
   | 0,_=>rw[bC h1,lQ (h2 1 (by decide) (by decide))];rfl
   | 1,_=>rw[bC h1,lQ (h2 0 (by decide) (by decide))];rfl
 · show aI (f 0 - g 0)+(aI (f 1 - g 1)+(aI (f 2 - g 2)+0))=1
   match i,hi with
   | 0,_=>rw[bC h1,lQ (h2 1 (by decide) (by decide)),lQ (h2 2 (by decide) (by decide))];rfl
   | 1,_=>rw[bC h1,lQ (h2 0 (by decide) (by decide)),lQ (h2 2 (by decide) (by decide))];rfl
   | 2,_=>rw[bC h1,lQ (h2 0 (by decide) (by decide)),lQ (h2 1 (by decide) (by decide))];rfl
end My
noncomputable section
namespace My
open PySem L2
theorem pig {α:Type}:∀(l m:List α),l.Nodup->(∀x∈l,x∈m)->l.length<=m.length
 | [],m,_,_=>Nat.zero_le _
 | a::t,m,nd,h=>by
   obtain⟨m1,m2,rfl⟩:=List.append_of_mem (h a List.mem_cons_self)
   obtain⟨na,nt⟩:=List.nodup_cons.mp nd
   have:=pig t (m1++m2) nt fun x hx=>by
     have hm:=h x (List.mem_cons_of_mem _ hx)
     rcases List.mem_append.mp hm with z | z
     · exact List.mem_append_left _ z
     · rcases List.mem_cons.mp z with rfl | z
       · exact absurd hx na
       · exact List.mem_append_right _ z
   simp only[List.length_append,List.length_cons] at this ⊢
   omega
theorem zZJ {f:D->D->Option Bool}:∀ {ds:List D},(∀d∈ds,f d d=some true)->aS f ds ds=some true
 | [],_=>rfl
 | d::r,h=>by
   rw[aS,h d List.mem_cons_self,zZJ fun x hx=>h x (List.mem_cons_of_mem _ hx)]
   rfl
theorem zQX {fa fb:Ef}{ρ:List B}{d:D}(h1:fa ρ=some d)(h2:fb ρ=some d)(h:eqD 8 d d=some true):eB2 jA fa fb ρ=some false:=by
 unfold eB2;rw[h1,Option.bind_some,h2,Option.bind_some];unfold jA;rw[h];rfl
def kP (p:Int×Int):KT:=.tup [.int p.1,.int p.2]
def kS (t:Tn)(b:Bool):KT:=.tup [.tup (t.map kP),.int (if b then 1 else 0)]
def aP (x y:Tn×Bool):KT:=.tup [kS x.1 x.2,kS y.1 y.2]
theorem zVE (n:Nat)(i:Int):ktD n (.int i)=some (.int i):=by cases n<;>rfl
theorem zOO (n:Nat)(p:Int×Int):ktD (n+1) (oH p)=some (kP p):=by
 show(gH (ktD n) [.int p.1,.int p.2]).map KT.tup=_
 rw[gH,zVE,Option.bind_some,gH,zVE]
 rfl
theorem zXr (n:Nat):∀t:Tn,gH (ktD (n+1)) (t.map oH)=some (t.map kP)
 | []=>rfl
 | p::r=>by
   rw[List.map_cons,List.map_cons,gH,zXr n r,zOO]
   rfl
theorem zYh (n:Nat)(t:Tn)(b:Bool):ktD (n+3) (stD t b)=some (kS t b):=by
 unfold stD
 show((((gH (ktD (n+1)) (t.map oH)).map KT.tup).bind fun k=>_).map KT.tup)=_
 rw[zXr n t]
 rfl
theorem zP7 (x y:Tn×Bool):zTx (.tup [stD x.1 x.2,stD y.1 y.2])=some (aP x y):=by
 show((((ktD 7 (stD x.1 x.2)).bind fun k=>((ktD 7 (stD y.1 y.2)).bind fun k=>(some []).map _).map _)).map KT.tup)=_
 rw[zYh 4,zYh 4]
 rfl
def sts (n:Nat):List (Tn×Bool):=(zJ n).flatMap fun t=>[(t,false),(t,true)]
def zXc (n:Nat):List KT:=(sts n).flatMap fun x=>(sts n).map fun y=>aP x y
theorem zVV {n:Nat}{t:Tn}(h:t∈zJ n)(b:Bool):(t,b)∈sts n:=List.mem_flatMap.mpr ⟨t,h,by cases b<;>simp⟩
theorem zSE {n:Nat}{x y:Tn×Bool}(hx:x∈sts n)(hy:y∈sts n):aP x y∈zXc n:=List.mem_flatMap.mpr ⟨x,hx,List.mem_map.mpr ⟨y,hy,rfl⟩⟩
theorem zXp {n:Nat}(hn:n=2∨n=3):(zXc n).length<=9216:=by
 rcases hn with rfl | rfl
 · have:(zXc 2).length<=9216:=by decide +kernel
   exact this
 · have:(zXc 3).length<=9216:=by decide +kernel
   exact this
section
variable {n:Nat} (hn:n=2∨n=3) {ps:List Pt} (ok:PtsOk n ps) {e f:List Int} (M:Mt n ps e f) (j:Bool)
def wS (ps:List Pt)(n:Nat)(pre:List Nat):Tn×Bool:=yL ps (tK n) false pre
def wP (ps:List Pt)(n:Nat)(pre:List Nat):List Int:=(List.range n).map fun i=>cW ps i (tK n) false 0 pre
theorem zRo (pre:List Nat)(d:Nat):wS ps n (pre++[d])=(yN (wS ps n pre).1 (xM ps (wS ps n pre).2 d).t,(wS ps n pre).2 != (xM ps (wS ps n pre).2 d).b):=by
 unfold wS
 have:∀(pre:List Nat) (s:Tn) (b:Bool),yL ps s b (pre++[d])=(yN (yL ps s b pre).1 (xM ps (yL ps s b pre).2 d).t,(yL ps s b pre).2 != (xM ps (yL ps s b pre).2 d).b):=by
   intro pre
   induction pre with
   | nil=>intro s b;rfl
   | cons x r ih=>intro s b;exact ih _ _
 exact this pre _ _
include hn ok M
theorem zVy (pre:List Nat)(d:Nat):wP ps n (pre++[d])=(List.range n).map fun i=>2*cW ps i (tK n) false 0 pre+(zN (wS ps n pre).1 (xM ps (wS ps n pre).2 d).c).getD i 0:=by
 unfold wP
 refine List.map_congr_left fun i _=>?_
 rw[zY2 hn ok M i pre]
 rfl
theorem cK {pre:List Nat}(hd:∀d∈pre,d < ps.length):(wS ps n pre).1∈zJ n:=gQ hn ok M pre _ _ (zZr hn) hd
theorem kU {pre:List Nat}(hd:∀d∈pre,d < ps.length){d:Nat}(hk:d < ps.length):xI [zE wN n j ps,stD (wS ps n pre).1 (wS ps n pre).2,.int (d:Nat)]=some (.tup [yQ (zN (wS ps n pre).1 (xM ps (wS ps n pre).2 d).c),stD (wS ps n (pre++[d])).1 (wS ps n (pre++[d])).2]):=by
 have e1:=zRf (wN:=wN) hn ok (cK hn ok M hd) (wS ps n pre).2 j hk
 rw[zVv hk] at e1
 rw[e1,zRo]
 rfl
theorem zZU {pre:List Nat}(hd:∀d∈pre,d < ps.length){d:Nat}(hk:d < ps.length):vG [yQ (wP ps n pre),yQ (zN (wS ps n pre).1 (xM ps (wS ps n pre).2 d).c)]=some (yQ (wP ps n (pre++[d]))):=by
 rw[zVy hn ok M]
 exact zSb hn ok _ _ (wB hn _ (oK hn _ (cK hn ok M hd) _ (zRg hn ok (b:=(wS ps n pre).2) hk)))
theorem fH {k:Nat}(hk:k < ps.length):zN (wS ps n []).1 (xM ps (wS ps n []).2 k).c=wP ps n [k]:=by
 have h:=zVy hn ok M [] k
 rw[List.nil_append] at h
 rw[h]
 have hl:=wB hn _ (oK hn _ (cK hn ok M (pre:=[]) (by simp)) _ (zRg hn ok (b:=(wS ps n []).2) hk))
 generalize zN (wS ps n []).1 (xM ps (wS ps n []).2 k).c=c at hl
 rcases hn with rfl | rfl
 · match c,hl with
   | [a,b],_=>simp[List.range,List.range.loop,cW]
 · match c,hl with
   | [a,b,e],_=>simp[List.range,List.range.loop,cW]
theorem zRl (k m:Nat)(hk:k+1 < ps.length):dst (wP ps n (k::List.replicate m (ps.length - 1))) (wP ps n ((k+1)::List.replicate m 0))=1:=by
 obtain⟨i,hi,h1,h3⟩:=zQC hn ok M [] k m hk (by simp) (tK n) false (zZr hn)
 rw[zVD]
 exact zUE hn _ _ hi h1 h3
def zWp:Sf:=(zH (sIf (dB 8 (zK (zZ (eV 4) (zZ (eV 6) zT)))) (yG (eC .non)) yE)
   (zH (kF 8 (zK (zZ (eV 4) (zZ (eV 6) zT))) (eC (.bl true)))
   (zH (rT (zM 3 xI (zZ (eV 0) (zZ (eV 4) (zZ (oO (xJ (yO "Curve" "parts" (eV 0))) (eC (.int 1))) zT)))) (gT (zP (gN 9) (zP (gN 4) yH))))
   (zH (yZ 3 (zM 2 vG (zZ (eV 3) (zZ (eV 9) zT))))
   (zH (rT (zM 3 xI (zZ (eV 0) (zZ (eV 6) (zZ (eC (.int 0)) zT)))) (gT (zP (gN 9) (zP (gN 6) yH))))
   (zH (yZ 5 (zM 2 vG (zZ (eV 5) (zZ (eV 9) zT))))
   (yZ 7 (sZ (eV 7) (eC (.int 1))))))))))
theorem zPm:nR=zH (uT (tB1 (zM 2 sX (zZ (eV 3) (zZ (eV 5) zT)))) zWp 10000) nD:=rfl
def zQf (wN:Str)(n:Nat)(j:Bool)(ps:List Pt)(k m:Nat)(x1 x2:B)(lv:Int)(kvs:List (D×D))(x9:D)(o9:Bool):List B :=
 [.fz (zE wN n j ps),x1,x2,.fz (yQ (wP ps n (k::List.replicate m (ps.length - 1)))),.fz (stD (wS ps n (k::List.replicate m (ps.length - 1))).1 (wS ps n (k::List.replicate m (ps.length - 1))).2),
   .fz (yQ (wP ps n ((k+1)::List.replicate m 0))),.fz (stD (wS ps n ((k+1)::List.replicate m 0)).1 (wS ps n ((k+1)::List.replicate m 0)).2),.fz (.int lv),.od kvs,if o9 then .fz x9 else .no]
theorem cF {k:Nat}(hk:k+1 < ps.length)(d1 d2:D):∀(fuel m:Nat) (lv:Int) (kvs:List (D×D)) (ks:List KT) (x9:D) (o9:Bool),(kvs.map fun p=>ktD 8 p.1)=ks.map some->ks.Nodup->(∀x∈ks,x∈zXc n)->9216 < ks.length+fuel ->
   uT (tB1 (zM 2 sX (zZ (eV 3) (zZ (eV 5) zT)))) zWp fuel (zQf wN n j ps k m (.fz d1) (.fz d2) lv kvs x9 o9)=some (.rt .non)
 | 0,m,lv,kvs,ks,x9,o9,h1,h2,h3,h4=>by
   have:=pig ks (zXc n) h2 h3
   have:=zXp hn
   omega
 | fuel+1,m,lv,kvs,ks,x9,o9,h1,h2,h3,h4=>by
   have hB:0 < ps.length:=by omega
   have hlast:ps.length - 1 < ps.length:=by omega
   have hdE:∀d∈k::List.replicate m (ps.length - 1),d < ps.length:=fun d hd=>by
     rcases List.mem_cons.mp hd with rfl | hd
     · omega
     · rw[List.eq_of_mem_replicate hd];exact hlast
   have hdS:∀d∈(k+1)::List.replicate m 0,d < ps.length:=fun d hd=>by
     rcases List.mem_cons.mp hd with rfl | hd
     · exact hk
     · rw[List.eq_of_mem_replicate hd];exact hB
   have near:=zRl hn ok M k m hk
   have nx:=zRH hn (wP ps n (k::List.replicate m (ps.length - 1))) (wP ps n ((k+1)::List.replicate m 0)) (by simp[wP]) (by simp[wP])
   rw[near,decide_eq_true rfl] at nx
   have p1:=kU (wN:=wN) hn ok M j hdE hlast
   have p2:=zZU hn ok M hdE hlast
   have p3:=kU (wN:=wN) hn ok M j hdS hB
   have p4:=zZU hn ok M hdS hB
   have r1:k::List.replicate m (ps.length - 1)++[ps.length - 1]=k::List.replicate (m+1) (ps.length - 1):=by rw[List.replicate_succ',List.cons_append]
   have r2:(k+1)::List.replicate m 0++[0]=(k+1)::List.replicate (m+1) 0:=by rw[List.replicate_succ',List.cons_append]
   have tE:=zVV (cK hn ok M hdE) (wS ps n (k::List.replicate m (ps.length - 1))).2
   have tS:=zVV (cK hn ok M hdS) (wS ps n ((k+1)::List.replicate m 0)).2
   have hkey:=zP7 (wS ps n (k::List.replicate m (ps.length - 1))) (wS ps n ((k+1)::List.replicate m 0))
   have hin:=zSE tE tS
   have mem:some (aP (wS ps n (k::List.replicate m (ps.length - 1))) (wS ps n ((k+1)::List.replicate m 0)))∈(kvs.map fun p=>ktD 8 p.1)↔aP (wS ps n (k::List.replicate m (ps.length - 1))) (wS ps n ((k+1)::List.replicate m 0))∈ks:=by
     rw[h1]
     constructor
     · intro z;obtain⟨x,hx,e⟩:=List.mem_map.mp z;cases e;exact hx
     · intro z;exact List.mem_map.mpr ⟨_,z,rfl⟩
   have hlk:kvs.length=ks.length:=by
     have:=congrArg List.length h1
     simpa using this
   have hle:=Nat.le_trans (pig ks (zXc n) h2 h3) (zXp hn)
   have ih:=cF (wN:=wN) hk d1 d2 fuel (m+1) (lv+1)
   unfold zQf at ih ⊢
   rw[r1] at p1 p2
   rw[r2] at p3 p4
   generalize wP ps n (k::List.replicate m (ps.length - 1))=a3 at *
   generalize hw4:wS ps n (k::List.replicate m (ps.length - 1))=a4 at *
   generalize wP ps n ((k+1)::List.replicate m 0)=a5 at *
   generalize hw6:wS ps n ((k+1)::List.replicate m 0)=a6 at *
   rw[uT]
   have tst:tB1 (zM 2 sX (zZ (eV 3) (zZ (eV 5) zT))) [.fz (zE wN n j ps),.fz d1,.fz d2,.fz (yQ a3),.fz (stD a4.1 a4.2),.fz (yQ a5),.fz (stD a6.1 a6.2),.fz (.int lv),.od kvs,if o9 then .fz x9 else .no]=some true:=by
     unfold tB1;rw[uF rfl rfl,nx];rfl
   rw[tst,Option.bind_some,if_pos rfl]
   have tin:dB 8 (zK (zZ (eV 4) (zZ (eV 6) zT))) [.fz (zE wN n j ps),.fz d1,.fz d2,.fz (yQ a3),.fz (stD a4.1 a4.2),.fz (yQ a5),.fz (stD a6.1 a6.2),.fz (.int lv),.od kvs,if o9 then .fz x9 else .no]=some (decide (some (aP a4 a6)∈kvs.map fun p=>ktD 8 p.1)):=by
     unfold dB
     show((some (D.tup [stD a4.1 a4.2,stD a6.1 a6.2])).bind fun d=>_)=_
     rw[Option.bind_some,hkey]
     rfl
   unfold zWp
   by_cases hm:aP a4 a6∈ks
   · rw[zV4 (d:=.non) ((tI tin).trans (by rw[decide_eq_true (mem.mpr hm)];rfl))]
     rfl
   · have hm':some (aP a4 a6)∉kvs.map fun p=>ktD 8 p.1:=fun z=>hm (mem.mp z)
     rw[yB ((tI tin).trans (by rw[decide_eq_false hm'];rfl))]
     have sd:kF 8 (zK (zZ (eV 4) (zZ (eV 6) zT))) (eC (.bl true)) [.fz (zE wN n j ps),.fz d1,.fz d2,.fz (yQ a3),.fz (stD a4.1 a4.2),.fz (yQ a5),.fz (stD a6.1 a6.2),.fz (.int lv),.od kvs,if o9 then .fz x9 else .no]=some (.nx [.fz (zE wN n j ps),.fz d1,.fz d2,.fz (yQ a3),.fz (stD a4.1 a4.2),.fz (yQ a5),.fz (stD a6.1 a6.2),.fz (.int lv),.od (kvs++[(.tup [stD a4.1 a4.2,stD a6.1 a6.2],.bl true)]),if o9 then .fz x9 else .no]):=by
       unfold kF
       show((some (D.bl true)).bind fun e=>((some (D.tup [stD a4.1 a4.2,stD a6.1 a6.2])).bind fun d=>_))=_
       rw[Option.bind_some,Option.bind_some,hkey,Option.bind_some]
       show(if kvs.length<=lim/\_/\_ then _ else none)=_
       rw[if_pos ⟨show kvs.length<=100000 by omega,by cases o9<;>rfl,hm'⟩]
       rfl
     rw[yB sd]
     have hlp:∀ρ,eV 0 ρ=some (zE wN n j ps)->oO (xJ (yO "Curve" "parts" (eV 0))) (eC (.int 1)) ρ=some (.int ((ps.length - 1:Nat):Nat)):=fun ρ h=>by
       rw[show((ps.length - 1:Nat):Int)=(ps.length:Int) - 1 by omega]
       exact vO (zZn h) rfl rfl
     rw[yB (ρ':=[.fz (zE wN n j ps),.fz d1,.fz d2,.fz (yQ a3),.fz (stD (wS ps n (k::List.replicate (m+1) (ps.length - 1))).1 (wS ps n (k::List.replicate (m+1) (ps.length - 1))).2),.fz (yQ a5),.fz (stD a6.1 a6.2),.fz (.int lv),.od (kvs++[(.tup [stD a4.1 a4.2,stD a6.1 a6.2],.bl true)]),.fz (yQ (zN a4.1 (xM ps a4.2 (ps.length - 1)).c))]) (by
       unfold rT
       rw[aC rfl rfl (hlp _ rfl),p1]
       cases o9<;>rfl)]
     rw[wG ((uF rfl rfl).trans p2)]
     dsimp only[List.set]
     rw[yB (ρ':=[.fz (zE wN n j ps),.fz d1,.fz d2,.fz (yQ (wP ps n (k::List.replicate (m+1) (ps.length - 1)))),.fz (stD (wS ps n (k::List.replicate (m+1) (ps.length - 1))).1 (wS ps n (k::List.replicate (m+1) (ps.length - 1))).2),.fz (yQ a5),.fz (stD (wS ps n ((k+1)::List.replicate (m+1) 0)).1 (wS ps n ((k+1)::List.replicate (m+1) 0)).2),.fz (.int lv),.od (kvs++[(.tup [stD a4.1 a4.2,stD a6.1 a6.2],.bl true)]),.fz (yQ (zN a6.1 (xM ps a6.2 0).c))]) (by
       unfold rT
       rw[aC rfl rfl (show eC (.int 0) _=some (.int ((0:Nat):Nat)) from rfl),p3]
       rfl)]
     rw[wG ((uF rfl rfl).trans p4)]
     dsimp only[List.set]
     have last:yZ 7 (sZ (eV 7) (eC (.int 1))) [.fz (zE wN n j ps),.fz d1,.fz d2,.fz (yQ (wP ps n (k::List.replicate (m+1) (ps.length - 1)))),.fz (stD (wS ps n (k::List.replicate (m+1) (ps.length - 1))).1 (wS ps n (k::List.replicate (m+1) (ps.length - 1))).2),.fz (yQ (wP ps n ((k+1)::List.replicate (m+1) 0))),.fz (stD (wS ps n ((k+1)::List.replicate (m+1) 0)).1 (wS ps n ((k+1)::List.replicate (m+1) 0)).2),.fz (.int lv),.od (kvs++[(.tup [stD a4.1 a4.2,stD a6.1 a6.2],.bl true)]),.fz (yQ (zN a6.1 (xM ps a6.2 0).c))]=some (.nx [.fz (zE wN n j ps),.fz d1,.fz d2,.fz (yQ (wP ps n (k::List.replicate (m+1) (ps.length - 1)))),.fz (stD (wS ps n (k::List.replicate (m+1) (ps.length - 1))).1 (wS ps n (k::List.replicate (m+1) (ps.length - 1))).2),.fz (yQ (wP ps n ((k+1)::List.replicate (m+1) 0))),.fz (stD (wS ps n ((k+1)::List.replicate (m+1) 0)).1 (wS ps n ((k+1)::List.replicate (m+1) 0)).2),.fz (.int (lv+1)),.od (kvs++[(.tup [stD a4.1 a4.2,stD a6.1 a6.2],.bl true)]),.fz (yQ (zN a6.1 (xM ps a6.2 0).c))]):=rfl
     rw[last,Option.bind_some]
     refine ih (kvs++[(.tup [stD a4.1 a4.2,stD a6.1 a6.2],.bl true)]) (ks++[aP a4 a6]) (yQ (zN a6.1 (xM ps a6.2 0).c)) true ?_ ?_ ?_ ?_
     · rw[List.map_append,List.map_append,h1]
       show _++[ktD 8 (.tup [stD a4.1 a4.2,stD a6.1 a6.2])]=_
       rw[show ktD 8 (.tup [stD a4.1 a4.2,stD a6.1 a6.2])=some (aP a4 a6) from hkey]
       rfl
     · exact List.nodup_append.mpr ⟨h2,by simp,fun x hx y hy=>by rw[List.mem_singleton] at hy;subst hy;intro z;exact hm (z ▸ hx)⟩
     · intro x hx
       rcases List.mem_append.mp hx with z | z
       · exact h3 x z
       · rw[List.mem_singleton.mp z];exact hin
     · rw[List.length_append,List.length_singleton];omega
theorem zTU {k:Nat}(hk:k+1 < ps.length):pX [zE wN n j ps,.int (k:Nat)]=some .non:=by
 have e0:=zTE hn
 have p1:=kU (wN:=wN) hn ok M j (pre:=[]) (by simp) (show k < ps.length by omega)
 have p2:=kU (wN:=wN) hn ok M j (pre:=[]) (by simp) hk
 rw[fH hn ok M (show k < ps.length by omega)] at p1
 rw[fH hn ok M hk] at p2
 have lp:=cF (wN:=wN) hn ok M j hk (.int (k:Nat)) (stD (tK n) false) 10000 0 1 [] [] (.non) false rfl List.nodup_nil (by simp) (by simp)
 show(nC [.fz (zE wN n j ps),.fz (.int (k:Nat)),.no,.no,.no,.no,.no,.no,.no,.no]).bind vN=_
 unfold nC
 refine dP ((qR (zSZ (wN:=wN) (n:=n) (j:=j) (ps:=ps) rfl)).trans e0) ?_
 unfold mV
 refine uY (ρ':=[.fz (zE wN n j ps),.fz (.int (k:Nat)),.fz (stD (tK n) false),.fz (yQ (wP ps n [k])),.fz (stD (wS ps n [k]).1 (wS ps n [k]).2),.no,.no,.no,.no,.no]) (by
   unfold rT
   rw[aC rfl rfl rfl,show xI [zE wN n j ps,stD (tK n) false,.int (k:Nat)]=_ from p1]
   rfl) ?_
 unfold nZ
 refine uY (ρ':=[.fz (zE wN n j ps),.fz (.int (k:Nat)),.fz (stD (tK n) false),.fz (yQ (wP ps n [k])),.fz (stD (wS ps n [k]).1 (wS ps n [k]).2),.fz (yQ (wP ps n [k+1])),.fz (stD (wS ps n [k+1]).1 (wS ps n [k+1]).2),.no,.no,.no]) (by
   unfold rT
   rw[aC (z:=.int ((k+1:Nat):Nat)) rfl rfl (by rw[show((k+1:Nat):Int)=(k:Int)+1 by omega];exact vO rfl rfl rfl),show xI [zE wN n j ps,stD (tK n) false,.int ((k+1:Nat):Nat)]=_ from p2]
   rfl) ?_
 unfold mR
 refine dP (d:=.int 1) rfl ?_
 unfold nA
 refine uY (ρ':=zQf wN n j ps k 0 (.fz (.int (k:Nat))) (.fz (stD (tK n) false)) 1 [] .non false) rfl ?_
 rw[zPm hn ok M,zV4 lp]
 rfl
theorem zZy:∀(m:Nat) (x0:B),vB (gN 0) (eB2 pF (eV 0) (eC .non)) (eV 0) (List.replicate m .non) [x0] []=some []
 | 0,_=>rfl
 | m+1,x0=>by
   rw[List.replicate_succ]
   show vB (gN 0) (eB2 pF (eV 0) (eC .non)) (eV 0) (List.replicate m .non) [.fz .non] []=some []
   exact zZy m _
theorem zWC:tL [zE wN n j ps]=some .non:=by
 have hs:=ok.small hn
 have hB:0 < ps.length:=by rw[ok.len];exact Nat.pow_pos (by decide)
 have src:iR (oO (xJ (yO "Curve" "parts" (eV 0))) (eC (.int 1))) [.fz (zE wN n j ps),.no,.no]=some (pW 0 (ps.length - 1)):=by
   have e:oO (xJ (yO "Curve" "parts" (eV 0))) (eC (.int 1)) [.fz (zE wN n j ps),.no,.no]=some (.int ((ps.length - 1:Nat):Nat)):=by
     rw[show((ps.length - 1:Nat):Int)=(ps.length:Int) - 1 by omega]
     exact vO (zZn (wN:=wN) (n:=n) (j:=j) (ps:=ps) rfl) rfl rfl
   unfold iR
   rw[e,Option.bind_some]
   show(if decide (-1000000<=((ps.length - 1:Nat):Int))&&decide (((ps.length - 1:Nat):Int)<=1000000) then some (pW 0 ((ps.length - 1:Nat):Int).toNat) else none)=_
   rw[decide_eq_true (by omega),decide_eq_true (by omega),Int.toNat_natCast]
   rfl
 have comp:yV (iR (oO (xJ (yO "Curve" "parts" (eV 0))) (eC (.int 1)))) 1 [0] (gN 0) tOK (zM 2 pX (zZ (eV 1) (zZ (eV 0) zT))) [.fz (zE wN n j ps),.no,.no]=some (List.replicate (ps.length - 1) .non):=by
   unfold yV
   rw[src,Option.bind_some,pJ (by rw[iI];omega),Option.bind_some]
   show vB (gN 0) tOK _ _ [.no,.fz (zE wN n j ps)] []=_
   rw[zYm (h:=fun _=>.non)]
   · rw[List.nil_append,List.map_const',iI]
   · intro d hd
     obtain⟨i,hi,rfl⟩:=bN hd
     refine(uF rfl rfl).trans ?_
     rw[show(0:Int)+(i:Nat)=(i:Nat) by omega]
     exact zTU hn ok M j (by omega)
 show(rC [.fz (zE wN n j ps),.no,.no]).bind vN=_
 unfold rC
 refine uY (ρ':=[.fz (zE wN n j ps),.ow (List.replicate (ps.length - 1) .non),.no]) (by unfold xC;rw[comp];rfl) ?_
 unfold qX
 refine uY (ρ':=[.fz (zE wN n j ps),.fz (.lst (List.replicate (ps.length - 1) .non)),.fz .non]) ?_ rfl
 show yZ 2 (zZT (yV (iL (eV 1)) 1 [] (gN 0) (eB2 pF (eV 0) (eC .non)) (eV 0))) [.fz (zE wN n j ps),.fz (.lst (List.replicate (ps.length - 1) .non)),.no]=_
 have e2:yV (iL (eV 1)) 1 [] (gN 0) (eB2 pF (eV 0) (eC .non)) (eV 0) [.fz (zE wN n j ps),.fz (.lst (List.replicate (ps.length - 1) .non)),.no]=some []:=by
   unfold yV
   show((okL (List.replicate (ps.length - 1) .non)).bind fun ds=>vB (gN 0) _ _ ds [.no] [])=_
   rw[pJ (by rw[List.length_replicate];omega),Option.bind_some]
   exact zZy hn ok M _ _
 unfold yZ zZT
 rw[e2]
 rfl
theorem zVb:qQ [zE wN n j ps]=some (zE wN n j ps):=by
 have me:=zWC (wN:=wN) hn ok M j
 have e:eIf (tB1 (yO "Curve" "joined" (eV 0))) (zM 1 tL (zZ (eV 0) zT)) (eC .non) [.fz (zE wN n j ps),.no,.no,.no]=some .non:=by
   have t:tB1 (yO "Curve" "joined" (eV 0)) [.fz (zE wN n j ps),.no,.no,.no]=some j:=rfl
   unfold eIf
   rw[t,Option.bind_some]
   cases j with
   | true=>rw[if_pos rfl];exact(qR rfl).trans me
   | false=>rfl
 show(jK [.fz (zE wN n j ps),.no,.no,.no]).bind vN=_
 unfold jK
 refine dP e ?_
 rfl
end
theorem zZN:∀(ps:List Pt) (x0:B) (acc:List D),vB (gN 0) tOK (zK (zZ (yO "Part" "corner" (eV 0)) (zZ (yO "Part" "turn" (eV 0)) (zZ (yO "Part" "back" (eV 0)) zT)))) (ps.map zF) [x0] acc=some (acc++ps.map yP)
 | [],_,acc=>by simp[vB]
 | p::r,x0,acc=>by
   rw[List.map_cons]
   unfold vB
   have e1:gN 0 (zF p) [x0]=some [.fz (zF p)]:=rfl
   have e2:tOK [.fz (zF p)]=some true:=rfl
   rw[e1,Option.bind_some,e2,Option.bind_some,if_pos rfl,zO8 (cX [.fz (zF p)] (eV 0) p rfl) (zTV [.fz (zF p)] (eV 0) p rfl) (zS3 [.fz (zF p)] (eV 0) p rfl),Option.bind_some,zZN r]
   simp[yP]
end My
end
namespace My
open PySem L2
theorem zZq {self:List D->Option D}{d:D}{ds:List D}(hd:∀i:Nat,i < ds.length->atD d (.int (0+(i:Nat)))=ds[i]?)(hl:zWr d=some (.int ds.length))(hz:ds.length<=1000)(hs:∀x∈ds,self [x,x]=some (.bl true)) :
   (uC self [.fz d,.fz d,.no]).bind vN=some (.bl true):=by
 have c1:decide (-1000000<=((ds.length:Nat):Int))=true:=decide_eq_true (by omega)
 have c2:decide (((ds.length:Nat):Int)<=1000000)=true:=decide_eq_true (by omega)
 have src:iR (xJ (eV 1)) [.fz d,.fz d,.no]=some (pW 0 ds.length):=by
   simp only[iR,xJ,eV,rW,List.getElem?_cons_zero,List.getElem?_cons_succ,Option.bind_some,hl,c1,c2,Bool.and_true,if_true]
   rfl
 obtain⟨ρ',e,x2,rfl⟩:=dS (g:=gN 2) (body:=uS self) (P:=fun ρ=>∃x2,ρ=[.fz d,.fz d,x2]) (pW 0 ds.length) (fun y hy ρ hρ=>by
     obtain⟨i,hi,rfl⟩:=bN hy
     obtain⟨x2,rfl⟩:=hρ
     refine⟨[.fz d,.fz d,.fz (.int (0+(i:Nat)))],[.fz d,.fz d,.fz (.int (0+(i:Nat)))],rfl,?_,_,rfl⟩
     have a:=hd i hi
     rw[List.getElem?_eq_getElem hi] at a
     have b:=hs _ (List.getElem_mem hi)
     simp only[uS,sIf,wU,tB1,zM,zZ,zT,eIx,eV,rW,yE,List.getElem?_cons_zero,List.getElem?_cons_succ,Option.bind_some,Option.map_some,List.length_cons,List.length_nil,if_true,a,b,Bool.not_true,Bool.false_eq_true,if_false]) [.fz d,.fz d,.no] ⟨_,rfl⟩
 have es:rM (iR (xJ (eV 1))) (gN 2) (uS self) [.fz d,.fz d,.no]=some (.nx [.fz d,.fz d,x2]):=by
   unfold rM;rw[src,Option.bind_some];exact e
 have q1:=fun r hk=>uY (g:=oG self) (r:=r) es hk
 refine q1 _ ?_
 rfl
theorem kZ:∀(n:Nat) (d:D),okS n d=true->yS n [d,d]=some (.bl true)
 | 0,_,h=>by unfold okS at h;cases h
 | n+1,d,h=>by
   have ih:=kZ n
   cases d with
   | non=>rfl
   | bl b=>cases b<;>rfl
   | int i =>
     have g:gEq (.int i) (.int i)=some true:=by show some (decide (i=i))=_;rw[decide_eq_true rfl]
     show((wX (yS n)) [.fz (.int i),.fz (.int i),.no]).bind vN=_
     simp only[wX,vC,vE,vF,zH,sIf,yE,yG,eB2,qE,qN,eV,eC,rW,tB1,rL,isInt,nP,mJ,xE,wU,List.getElem?_cons_zero,List.getElem?_cons_succ,Option.bind_some,Option.map_some,g,if_true,Bool.false_eq_true,if_false,Bool.not_false,vN]
   | str i =>
     have g:gEq (.str i) (.str i)=some true:=by show some (decide (i=i))=_;rw[decide_eq_true rfl]
     show((wX (yS n)) [.fz (.str i),.fz (.str i),.no]).bind vN=_
     simp only[wX,vC,vE,vF,tV,zH,sIf,yE,yG,eB2,qE,qN,eV,eC,rW,tB1,rL,isInt,oY,mJ,xE,List.getElem?_cons_zero,List.getElem?_cons_succ,Option.bind_some,Option.map_some,g,if_true,Bool.false_eq_true,if_false,vN]
   | tup ds =>
     unfold okS at h
     rw[Bool.and_eq_true] at h
     have hz:=of_decide_eq_true h.1
     have g:gNe (.int (ds.length:Nat)) (.int (ds.length:Nat))=some false:=by show(some (decide _)).map _=_;rw[decide_eq_true rfl];rfl
     have r:yS (n+1) [.tup ds,.tup ds]=(uC (yS n) [.fz (.tup ds),.fz (.tup ds),.no]).bind vN:=by
       show((wX (yS n)) [.fz (.tup ds),.fz (.tup ds),.no]).bind vN=_
       simp only[wX,vC,vE,vF,tV,rR,rQ,rN,zH,sIf,yE,yG,eB2,qE,qN,eV,eC,rW,tB1,fB,wU,rL,isInt,oY,mM,mL,xJ,zWr,List.getElem?_cons_zero,List.getElem?_cons_succ,Option.bind_some,Option.map_some,g,if_true,Bool.false_eq_true,if_false,Bool.not_true]
     rw[r]
     refine zZq (ds:=ds) (fun i hi=>?_) rfl hz fun x hx=>?_
     · show atI ds _=_
       rw[show(0:Int)+((i:Nat):Int)=((i:Nat):Int) by omega,zYX (List.getElem?_eq_getElem hi),List.getElem?_eq_getElem hi]
     · obtain⟨i,hi⟩:=List.getElem?_of_mem hx
       exact ih x (cC h.2 hi)
   | lst ds =>
     unfold okS at h
     rw[Bool.and_eq_true] at h
     have hz:=of_decide_eq_true h.1
     have g:gNe (.int (ds.length:Nat)) (.int (ds.length:Nat))=some false:=by show(some (decide _)).map _=_;rw[decide_eq_true rfl];rfl
     have r:yS (n+1) [.lst ds,.lst ds]=(uC (yS n) [.fz (.lst ds),.fz (.lst ds),.no]).bind vN:=by
       show((wX (yS n)) [.fz (.lst ds),.fz (.lst ds),.no]).bind vN=_
       simp only[wX,vC,vE,vF,tV,rR,rQ,rN,zH,sIf,yE,yG,eB2,qE,qN,eV,eC,rW,tB1,fB,wU,rL,isInt,oY,mM,mL,xJ,zWr,List.getElem?_cons_zero,List.getElem?_cons_succ,Option.bind_some,Option.map_some,g,if_true,Bool.false_eq_true,if_false,Bool.not_true]
     rw[r]
     refine zZq (ds:=ds) (fun i hi=>?_) rfl hz fun x hx=>?_
     · show atI ds _=_
       rw[show(0:Int)+((i:Nat):Int)=((i:Nat):Int) by omega,zYX (List.getElem?_eq_getElem hi),List.getElem?_eq_getElem hi]
     · obtain⟨i,hi⟩:=List.getElem?_of_mem hx
       exact ih x (cC h.2 hi)
   | obj a b ds=>unfold okS at h;cases h
   | exc a b ds=>unfold okS at h;cases h
theorem lX {fa fb:Ef}{ρ:List B}{x y:Str}(h1:fa ρ=some (.str x))(h2:fb ρ=some (.str y))(h:x.length+y.length<=100000):yM fa fb ρ=some (.str (x++y)):=by unfold yM;rw[h1,h2];exact zW8 h
theorem zPE {fa fb:Ef}{ρ:List B}{x y:D}(h1:fa ρ=some x)(h2:fb ρ=some y):eIx fa fb ρ=atD x y:=by unfold eIx;rw[h1,h2];rfl
def lettersS:Str:=Str.ofString "abcdefghijklmnopqrstuvwxyz"
theorem iU:lettersS.length=26:=by decide +kernel
theorem zVo {α:Type}{elt:Ef}{f:α->D}{Q:α->Prop}{rest:List B}:∀(ds:List D) (x0:B) (acc:List D),(∀d∈ds,∃a,elt (.fz d::rest)=some (f a)/\Q a)->∃as:List α,vB (gN 0) tOK elt ds (x0::rest) acc=some (acc++as.map f)/\as.length=ds.length/\∀a∈as,Q a
 | [],_,acc,_=>⟨[],by simp[vB],rfl,fun _ h=>by cases h⟩
 | d::r,x0,acc,hh=>by
   obtain⟨a,ha,qa⟩:=hh d List.mem_cons_self
   obtain⟨as,e,el,hq⟩:=zVo (Q:=Q) r (.fz d) (acc++[f a]) fun q hq=>hh q (List.mem_cons_of_mem _ hq)
   refine⟨a::as,?_,by rw[List.length_cons,List.length_cons,el],fun b hb=>by
     rcases List.mem_cons.mp hb with z | z
     · rw[z];exact qa
     · exact hq b z⟩
   unfold vB
   have e1:gN 0 d (x0::rest)=some (.fz d::rest):=rfl
   have e2:tOK (.fz d::rest)=some true:=rfl
   rw[e1,Option.bind_some,e2,Option.bind_some,if_pos rfl,ha,Option.bind_some,e]
   simp
def Wd (w:Str):Prop:=1<=w.length/\w.length<=12/\∀c∈w.cps.toList,c∈lettersS.cps.toList
theorem zQE:∀l:List Nat,(Str.join "" (l.map fun c=>(⟨#[c]⟩:Str))).cps.toList=l
 | []=>rfl
 | [c]=>rfl
 | c::d::r=>by
   have ih:=zQE (d::r)
   show(((⟨#[c]⟩:Str)++("":Str))++Str.join "" ((d::r).map fun c=>(⟨#[c]⟩:Str))).cps.toList=_
   have e:∀x y:Str,(x++y).cps.toList=x.cps.toList++y.cps.toList:=fun x y=>Array.toList_append
   rw[e,e,ih]
   rfl
theorem iH:∀ys:List Str,zZu (ys.map D.str)=some ys
 | []=>rfl
 | y::r=>by rw[List.map_cons,zZu,iH r];rfl
theorem zRh (c:Int):∃w:Str,nF [.int c]=some (.str w)/\Wd w:=by
 have e1:=zZa c 39373 (by decide) (by decide)
 have r0:0<=dC c 39373:=by unfold dC;omega
 generalize dC c 39373=r at e1 r0
 obtain⟨m,hm,h1,h12⟩:∃m:Nat,1+r % 12=(m:Nat)/\1<=m/\m<=12:=⟨(1+r % 12).toNat,by omega,by omega,by omega⟩
 obtain⟨as,em,el,hq⟩:=zVo (α:=Nat) (elt:=eIx (eV 1) (wC (zM 2 xB (zZ (eV 2) (zZ (sZ (eC (.int 16807)) (lW (eV 0) (eV 0))) zT))) (eC (.int 26)))) (f:=fun s=>.str ⟨#[s]⟩) (Q:=fun s=>s∈lettersS.cps.toList) (rest:=[.fz (.str lettersS),.fz (.int c)]) (pW 0 m) .no [] (fun d hd=>by
   obtain⟨i,hi,rfl⟩:=bN hd
   have e2:=zZa c (16807+(0+(i:Nat))*(0+(i:Nat))) (by
     have:(0:Int)<=(0+(i:Nat))*(0+(i:Nat)):=Int.mul_nonneg (by omega) (by omega)
     omega) (by
     have:(0+(i:Nat):Int)*(0+(i:Nat))<=12*12:=Int.mul_le_mul (by omega) (by omega) (by omega) (by omega)
     omega)
   have q0:0<=dC c (16807+(0+(i:Nat))*(0+(i:Nat))):=by unfold dC;omega
   generalize hz:dC c (16807+(0+(i:Nat))*(0+(i:Nat)))=z at e2 q0
   have hl:(z % 26).toNat < lettersS.cps.toList.length:=by
     have:lettersS.cps.toList.length=26:=by decide +kernel
     omega
   refine⟨lettersS.cps.toList.getD (z % 26).toNat 0,?_,by rw[List.getD_eq_getElem?_getD,List.getElem?_eq_getElem hl];exact List.getElem_mem _⟩
   refine(zPE (x:=.str lettersS) (y:=.int (z % 26)) rfl (vO ((uF (x:=.int c) (y:=.int (16807+(0+(i:Nat))*(0+(i:Nat)))) rfl (vO rfl (vO rfl rfl (zWg (by omega) (by omega))) rfl)).trans e2) rfl rfl)).trans ?_
   exact zR6 (by omega) (by rw[iU];omega) (by rw[iU];decide))
 rw[iI] at el
 have hw:(Str.join "" (as.map fun s=>(⟨#[s]⟩:Str))).cps.toList=as:=zQE as
 refine⟨Str.join "" (as.map fun s=>⟨#[s]⟩),?_,?_,?_,?_⟩
 · show(nO [.fz (.int c),.no,.no]).bind vN=_
   unfold nO
   refine dP (d:=.str lettersS) rfl ?_
   unfold nY
   dsimp only[List.set]
   refine dP (d:=.int (m:Nat)) (by rw[←hm];exact vO rfl (vO ((uF rfl rfl).trans e1) rfl rfl) rfl) ?_
   unfold nE
   dsimp only[List.set]
   refine(jP _).trans ?_
   have src:iR (eV 2) [.fz (.int c),.fz (.str lettersS),.fz (.int (m:Nat))]=some (pW 0 m):=by
     show(if decide (-1000000<=(m:Int))&&decide ((m:Int)<=1000000) then some (pW 0 (m:Int).toNat) else none)=_
     rw[decide_eq_true (by omega),decide_eq_true (by omega),Int.toNat_natCast]
     rfl
   have ec:yV (iR (eV 2)) 1 [1,0] (gN 0) tOK (eIx (eV 1) (wC (zM 2 xB (zZ (eV 2) (zZ (sZ (eC (.int 16807)) (lW (eV 0) (eV 0))) zT))) (eC (.int 26)))) [.fz (.int c),.fz (.str lettersS),.fz (.int (m:Nat))]=some ((as.map fun s=>(⟨#[s]⟩:Str)).map D.str):=by
     unfold yV
     rw[src,Option.bind_some,pJ (by rw[iI];omega),Option.bind_some]
     refine Eq.trans em ?_
     rw[List.nil_append,List.map_map]
     rfl
   unfold wK
   rw[show eC (.str "") _=some (D.str "") from rfl,Option.bind_some,ec,Option.bind_some]
   dsimp only
   rw[iH,Option.bind_some,if_pos]
   · exact congrArg (fun z=>some (D.str z)) (StrLaws.glued_eq_join _ _)
   · have s1:((as.map fun s=>(⟨#[s]⟩:Str)).map (·.length)).sum=as.length:=by
       clear em el hq hw ec
       induction as with
       | nil=>rfl
       | cons x r ih=>rw[List.map_cons,List.map_cons,List.sum_cons,ih,List.length_cons];show 1+r.length=_;omega
     rw[s1,show("":Str).length=0 from rfl]
     omega
 · show 1<=(Str.join "" (as.map fun s=>(⟨#[s]⟩:Str))).cps.toList.length
   rw[hw];omega
 · show(Str.join "" (as.map fun s=>(⟨#[s]⟩:Str))).cps.toList.length<=12
   rw[hw];omega
 · rw[hw];exact hq
theorem zSr (x S:Str)(n:Int)(h:x.length<=1000):rK [.str x,.str S,.int n]=some (.bl ((decide (1<=x.length)&&decide ((x.length:Int)<=n))&&x.cps.toList.all fun c=>decide (c∈S.cps.toList))):=by
 have hl:zWr (.str x)=some (.int x.length):=zTf (by omega)
 have hs:(nN x).length=x.length:=by simp[nN,Str.length]
 have hm:yV (iS (eV 0)) 1 [1] (gN 0) tOK (xE (eB2 gIn (eV 0) (eV 1))) [.fz (.str x),.fz (.str S),.fz (.int n)]=some (x.cps.toList.map fun c=>D.bl (decide (c∈S.cps.toList))):=by
   unfold yV
   have e1:iS (eV 0) [.fz (.str x),.fz (.str S),.fz (.int n)]=some (nN x):=rfl
   have e2:upB 1 [1] [.fz (.str x),.fz (.str S),.fz (.int n)]=[.no,.fz (.str S)]:=rfl
   rw[e1,Option.bind_some,pJ (by rw[hs];omega),Option.bind_some,e2]
   have:∀(l:List Nat) (x0:B) (acc:List D),vB (gN 0) tOK (xE (eB2 gIn (eV 0) (eV 1))) (l.map fun c=>D.str ⟨#[c]⟩) [x0,.fz (.str S)] acc=some (acc++l.map fun c=>D.bl (decide (c∈S.cps.toList))):=by
     intro l
     induction l with
     | nil=>intro x0 acc;simp[vB]
     | cons c r ih =>
       intro x0 acc
       rw[List.map_cons]
       unfold vB
       have e3:gN 0 (D.str ⟨#[c]⟩) [x0,.fz (.str S)]=some [.fz (.str ⟨#[c]⟩),.fz (.str S)]:=rfl
       have e4:tOK [.fz (.str ⟨#[c]⟩),.fz (.str S)]=some true:=rfl
       have e5:xE (eB2 gIn (eV 0) (eV 1)) [.fz (.str ⟨#[c]⟩),.fz (.str S)]=some (.bl (decide (c∈S.cps.toList))):=by
         have:=zRq c S
         simp only[xE,eB2,eV,rW,List.getElem?_cons_zero,List.getElem?_cons_succ,Option.bind_some,this,Option.map_some]
       rw[e3,Option.bind_some,e4,Option.bind_some,if_pos rfl,e5,Option.bind_some,ih]
       simp
   rw[show nN x=x.cps.toList.map fun c=>D.str ⟨#[c]⟩ from rfl,this]
   simp
 have hb:=zXD (fun c=>decide (c∈S.cps.toList)) x.cps.toList
 have hall:(x.cps.toList.map fun c=>decide (c∈S.cps.toList)).all id=x.cps.toList.all fun c=>decide (c∈S.cps.toList):=by rw[List.all_map];rfl
 have e0:rK [.str x,.str S,.int n]=((mJ (xE (eB3 gLe gLe (eC (.int 1)) (xJ (eV 0)) (eV 2))) (zUX (eL (yV (iS (eV 0)) 1 [1] (gN 0) tOK (xE (eB2 gIn (eV 0) (eV 1))))))) [.fz (.str x),.fz (.str S),.fz (.int n)]):=jP _
 rw[e0]
 have ea:zUX (eL (yV (iS (eV 0)) 1 [1] (gN 0) tOK (xE (eB2 gIn (eV 0) (eV 1))))) [.fz (.str x),.fz (.str S),.fz (.int n)]=some (.bl (x.cps.toList.all fun c=>decide (c∈S.cps.toList))):=by
   simp only[zUX,eL,hm,Option.map_some,Option.bind_some,hb,hall]
 have et:tB1 (xE (eB3 gLe gLe (eC (.int 1)) (xJ (eV 0)) (eV 2))) [.fz (.str x),.fz (.str S),.fz (.int n)]=some (decide (1<=x.length)&&decide ((x.length:Int)<=n)):=by
   by_cases h1:1<=x.length
   · have t1:decide ((1:Int)<=(x.length:Nat))=true:=decide_eq_true (by omega)
     simp only[tB1,xE,eB3,gLe,xJ,eV,eC,rW,List.getElem?_cons_zero,List.getElem?_cons_succ,Option.bind_some,hl,t1,if_true,Option.map_some,h1,decide_true,Bool.true_and]
   · have t1:decide ((1:Int)<=(x.length:Nat))=false:=decide_eq_false (by omega)
     simp[tB1,xE,eB3,gLe,xJ,eV,eC,rW,hl,t1,h1]
 unfold mJ
 rw[et,ea,Option.bind_some]
 cases (decide (1<=x.length)&&decide ((x.length:Int)<=n))<;>rfl
theorem jD:∀c∈lettersS.cps.toList,c≠32/\c≠10:=by decide +kernel
theorem Wd.free {w:Str}(h:Wd w):tP 32 w/\tP 10 w:=⟨fun z=>(jD _ (h.2.2 _ z)).1 rfl,fun z=>(jD _ (h.2.2 _ z)).2 rfl⟩
theorem zR3 {w:Str}(h:Wd w):kX [.str w]=some (.bl true):=by
 have e:=zSr w "abcdefghijklmnopqrstuvwxyz" 12 (by have:=h.2.1;omega)
 have q:((decide (1<=w.length)&&decide ((w.length:Int)<=12))&&w.cps.toList.all fun c=>decide (c∈("abcdefghijklmnopqrstuvwxyz":Str).cps.toList))=true:=by
   have h1:=h.1
   have h2:=h.2.1
   rw[decide_eq_true h1,decide_eq_true (show(w.length:Int)<=12 by omega),Bool.true_and,Bool.true_and]
   exact List.all_eq_true.mpr fun c hc=>decide_eq_true (h.2.2 c hc)
 rw[q] at e
 exact(jP _).trans ((aC rfl rfl rfl).trans e)
end My
namespace My
open PySem L2
def zVI (c:List Int):Str:=⟨(c.map fun i=>if i=1 then 49 else 48).toArray⟩
def tH (t:Tn):Str:=⟨(t.flatMap fun p=>[if p.2=1 then 45 else 43,if p.1=0 then 120 else if p.1=1 then 121 else 122]).toArray⟩
def wI (p:Pt):List Str:="part"::zVI p.c::tH p.t::(if p.b=true then ["back"] else [])
def xU (p:Pt):Str:=Str.join " " (wI p)
def kO (c:List Int)(t:Tn):Str:=Str.join " " ["part",zVI c,tH t]
def prs (n:Nat):List (List Int×Tn):=(zL n).flatMap fun c=>(zJ n).map fun t=>(c,t)
theorem uP {n:Nat}{c:List Int}{t:Tn}(hc:c∈zL n)(ht:t∈zJ n):(c,t)∈prs n:=List.mem_flatMap.mpr ⟨c,hc,List.mem_map.mpr ⟨t,ht,rfl⟩⟩
def xT (k:Nat):List (List Int×Tn):=(((zL 3).drop (2*k)).take 2).flatMap fun c=>(zJ 3).map fun t=>(c,t)
theorem zZR:prs 3=xT 0++xT 1++xT 2++xT 3:=by kernel_rfl
theorem zUU {β:Type}{f g:List Int×Tn->β}(h0:(xT 0).map f=(xT 0).map g)(h1:(xT 1).map f=(xT 1).map g)(h2:(xT 2).map f=(xT 2).map g)(h3:(xT 3).map f=(xT 3).map g):(prs 3).map f=(prs 3).map g:=by
 rw[zZR,List.map_append,List.map_append,List.map_append,List.map_append,List.map_append,List.map_append,h0,h1,h2,h3]
theorem rX {α β:Type}{f g:α->β}{l:List α}(h:l.map f=l.map g){x:α}(hx:x∈l):f x=g x:=List.map_inj_left.mp h x hx
theorem zOP (r:Int)(b:Bool):b=true∨b=false->(prs 2).map (fun q=>xX [.lst ((wI ⟨q.1,q.2,b⟩).map .str),.int 2,.int r])=(prs 2).map fun q=>some (zF ⟨q.1,q.2,b⟩):=by
 rintro(rfl | rfl)<;>kernel_rfl
theorem zSf (r:Int):(xT 0).map (fun q=>xX [.lst ((wI ⟨q.1,q.2,true⟩).map .str),.int 3,.int r])=(xT 0).map (fun q=>some (zF ⟨q.1,q.2,true⟩)):=by kernel_rfl
theorem zRX (r:Int):(xT 1).map (fun q=>xX [.lst ((wI ⟨q.1,q.2,true⟩).map .str),.int 3,.int r])=(xT 1).map (fun q=>some (zF ⟨q.1,q.2,true⟩)):=by kernel_rfl
theorem zQW (r:Int):(xT 2).map (fun q=>xX [.lst ((wI ⟨q.1,q.2,true⟩).map .str),.int 3,.int r])=(xT 2).map (fun q=>some (zF ⟨q.1,q.2,true⟩)):=by kernel_rfl
theorem zRv (r:Int):(xT 3).map (fun q=>xX [.lst ((wI ⟨q.1,q.2,true⟩).map .str),.int 3,.int r])=(xT 3).map (fun q=>some (zF ⟨q.1,q.2,true⟩)):=by kernel_rfl
theorem zSa (r:Int):(xT 0).map (fun q=>xX [.lst ((wI ⟨q.1,q.2,false⟩).map .str),.int 3,.int r])=(xT 0).map (fun q=>some (zF ⟨q.1,q.2,false⟩)):=by kernel_rfl
theorem zRi (r:Int):(xT 1).map (fun q=>xX [.lst ((wI ⟨q.1,q.2,false⟩).map .str),.int 3,.int r])=(xT 1).map (fun q=>some (zF ⟨q.1,q.2,false⟩)):=by kernel_rfl
theorem zRT (r:Int):(xT 2).map (fun q=>xX [.lst ((wI ⟨q.1,q.2,false⟩).map .str),.int 3,.int r])=(xT 2).map (fun q=>some (zF ⟨q.1,q.2,false⟩)):=by kernel_rfl
theorem zRM (r:Int):(xT 3).map (fun q=>xX [.lst ((wI ⟨q.1,q.2,false⟩).map .str),.int 3,.int r])=(xT 3).map (fun q=>some (zF ⟨q.1,q.2,false⟩)):=by kernel_rfl
theorem zOE (r:Int)(b:Bool):b=true∨b=false->(prs 3).map (fun q=>xX [.lst ((wI ⟨q.1,q.2,b⟩).map .str),.int 3,.int r])=(prs 3).map (fun q=>some (zF ⟨q.1,q.2,b⟩)):=by
 rintro(rfl | rfl)
 · exact zUU (zSf r) (zRX r) (zQW r) (zRv r)
 · exact zUU (zSa r) (zRi r) (zRT r) (zRM r)
end My
namespace My
open PySem L2
theorem zO5 (c:List Int)(t:Tn):xU ⟨c,t,false⟩=kO c t:=by unfold xU kO wI;rfl
end My
namespace My
open PySem L2
theorem zXA:(" ":Str)=⟨#[32]⟩:=by decide +kernel
theorem zQN:("\n":Str)=⟨#[10]⟩:=by decide +kernel
def vU (p:Pt):Bool:=decide ((xU p).length<=30) && !(xU p).cps.toList.contains 10&&(wI p).all fun w => !w.cps.toList.contains 32
theorem zOi:((prs 2).all fun q=>vU ⟨q.1,q.2,true⟩&&vU ⟨q.1,q.2,false⟩)=true:=by kernel_rfl
theorem zPy:((xT 0).all fun q=>vU ⟨q.1,q.2,true⟩)=true:=by kernel_rfl
theorem zQz:((xT 1).all fun q=>vU ⟨q.1,q.2,true⟩)=true:=by kernel_rfl
theorem zQA:((xT 2).all fun q=>vU ⟨q.1,q.2,true⟩)=true:=by kernel_rfl
theorem zPN:((xT 3).all fun q=>vU ⟨q.1,q.2,true⟩)=true:=by kernel_rfl
theorem zQa:((xT 0).all fun q=>vU ⟨q.1,q.2,false⟩)=true:=by kernel_rfl
theorem zPM:((xT 1).all fun q=>vU ⟨q.1,q.2,false⟩)=true:=by kernel_rfl
theorem zP3:((xT 2).all fun q=>vU ⟨q.1,q.2,false⟩)=true:=by kernel_rfl
theorem zPH:((xT 3).all fun q=>vU ⟨q.1,q.2,false⟩)=true:=by kernel_rfl
theorem zNP:((prs 3).all fun q=>vU ⟨q.1,q.2,true⟩&&vU ⟨q.1,q.2,false⟩)=true:=by
 refine List.all_eq_true.mpr fun q hq=>?_
 rw[zZR,List.mem_append,List.mem_append,List.mem_append] at hq
 rw[Bool.and_eq_true_iff]
 rcases hq with((hq | hq) | hq) | hq
 · exact⟨List.all_eq_true.mp zPy q hq,List.all_eq_true.mp zQa q hq⟩
 · exact⟨List.all_eq_true.mp zQz q hq,List.all_eq_true.mp zPM q hq⟩
 · exact⟨List.all_eq_true.mp zQA q hq,List.all_eq_true.mp zP3 q hq⟩
 · exact⟨List.all_eq_true.mp zPN q hq,List.all_eq_true.mp zPH q hq⟩
section
variable {n:Nat} (hn:n=2∨n=3)
include hn
theorem zYw (p:Pt)(hc:p.c∈zL n)(ht:p.t∈zJ n):vU p=true:=by
 obtain⟨c,t,b⟩:=p
 have h:(vU ⟨c,t,true⟩&&vU ⟨c,t,false⟩)=true:=by
   rcases hn with rfl | rfl
   · have h:=List.all_eq_true.mp zOi _ (uP hc ht);exact h
   · have h:=List.all_eq_true.mp zNP _ (uP hc ht);exact h
 have h:=Bool.and_eq_true_iff.mp h
 cases b with
 | true=>exact h.1
 | false=>exact h.2
theorem zRN (p:Pt)(hc:p.c∈zL n)(ht:p.t∈zJ n):(xU p).length<=30:=by
 have h:=zYw hn p hc ht
 unfold vU at h
 rw[Bool.and_eq_true_iff,Bool.and_eq_true_iff] at h
 exact of_decide_eq_true h.1.1
theorem zT0 (p:Pt)(hc:p.c∈zL n)(ht:p.t∈zJ n):tP 10 (xU p):=by
 have h:=zYw hn p hc ht
 unfold vU at h
 rw[Bool.and_eq_true_iff,Bool.and_eq_true_iff] at h
 have h:=h.1.2
 intro z
 rw[List.contains_iff_mem.mpr z] at h
 exact absurd h (by decide)
theorem zUG (p:Pt)(hc:p.c∈zL n)(ht:p.t∈zJ n):jN (.str (xU p)) (.str " ")=some ((wI p).map .str):=by
 have h:=zYw hn p hc ht
 unfold vU at h
 rw[Bool.and_eq_true_iff,Bool.and_eq_true_iff] at h
 have hw:∀w∈wI p,tP 32 w:=fun w hw z=>by
   have q:=List.all_eq_true.mp h.2 w hw
   rw[List.contains_iff_mem.mpr z] at q
   exact absurd q (by decide)
 have e:Txt.split (xU p) ⟨#[32]⟩=wI p:=by
   unfold xU
   rw[zXA]
   exact jH 32 (wI p) hw (by unfold wI;exact List.cons_ne_nil _ _)
 have hl:=of_decide_eq_true h.1.1
 rw[zXA]
 show(if 1<=(⟨#[32]⟩:Str).length/\(xU p).length<=100000 then some ((Txt.split (xU p) ⟨#[32]⟩).map D.str) else none)=_
 rw[if_pos ⟨Nat.le_refl 1,by omega⟩,e]
end
theorem zXl (R:List Str)(i:Nat)(z:Str)(ws:List D)(hz:R[i]?=some z)(hs:jN (.str z) (.str " ")=some ws):wE [.lst (R.map .str),.int ((i:Int)+1)]=some ws:=by
 have hi:i < R.length:=by
   rcases Nat.lt_or_ge i R.length with h | h
   · exact h
   · rw[List.getElem?_eq_none h] at hz;cases hz
 show(oA [.fz (.lst (R.map .str)),.fz (.int ((i:Int)+1))]).bind zYb=some ws
 unfold oA
 have t:eB2 gGt (eV 1) (xJ (eV 0)) [.fz (.lst (R.map .str)),.fz (.int ((i:Int)+1))]=some (decide ((((R.map D.str).length:Nat):Int) < (i:Int)+1)):=rfl
 rw[yB (ρ':=[.fz (.lst (R.map .str)),.fz (.int ((i:Int)+1))]) ((tI t).trans (by rw[List.length_map,decide_eq_false (by omega)];rfl))]
 unfold nW bU jL
 have e1:oO (eV 1) (eC (.int 1)) [.fz (.lst (R.map .str)),.fz (.int ((i:Int)+1))]=some (.int (i:Int)):=by
   refine(vO (i:=(i:Int)+1) (j:=1) rfl rfl rfl).trans ?_
   show some (D.int ((i:Int)+1 - 1))=_
   rw[show(i:Int)+1 - 1=i from by omega]
 have e2:eIx (eV 0) (oO (eV 1) (eC (.int 1))) [.fz (.lst (R.map .str)),.fz (.int ((i:Int)+1))]=some (.str z):=by
   unfold eIx
   rw[e1]
   show atI (R.map D.str) (i:Int)=_
   unfold atI
   rw[List.length_map]
   have:ixN R.length (i:Int)=some i:=by unfold ixN;rw[if_pos (by omega),if_pos (by omega)];rfl
   rw[this]
   show(R.map D.str)[i]?=_
   rw[List.getElem?_map,hz];rfl
 rw[e2]
 show(((jN (.str z) (.str " "))).map Out.rl).bind zYb=_
 rw[hs]
 rfl
end My
namespace My
open PySem L2
def kC (xs:List Int):KT:=.tup (xs.map .int)
theorem zZM (n:Nat):∀xs:List Int,gH (ktD n) (xs.map .int)=some (xs.map .int)
 | []=>rfl
 | x::r=>by
   have e:ktD n (.int x)=some (.int x):=by cases n<;>rfl
   rw[List.map_cons,gH,e,zZM n r]
   rfl
theorem zUd (xs:List Int):zTx (yQ xs)=some (kC xs):=by
 show(gH (ktD 7) (xs.map .int)).map KT.tup=_
 rw[zZM]
 rfl
theorem zOb (xs:List Int):ktD 8 (yQ xs)=some (kC xs):=zUd xs
theorem zQb {xs ys:List Int}(h:kC xs=kC ys):xs=ys:=by
 unfold kC at h
 injection h with h
 exact(List.map_inj_right (fun a b e=>by injection e)).mp h
def wF (ps:List Pt):List (D×D):=ps.map fun p=>(yQ p.c,.bl true)
theorem zUJ (ps:List Pt):(wF ps).map (fun p=>ktD 8 p.1)=ps.map fun p=>some (kC p.c):=by
 unfold wF
 rw[List.map_map]
 exact List.map_congr_left fun p _=>zOb p.c
theorem zXO {ps:List Pt}{c:List Int}(h:c∉ps.map (·.c)):some (kC c)∉(wF ps).map fun p=>ktD 8 p.1:=by
 rw[zUJ]
 intro z
 obtain⟨p,hp,e⟩:=List.mem_map.mp z
 exact h (List.mem_map.mpr ⟨p,hp,zQb (Option.some.inj e)⟩)
section
variable {n:Nat} (hn:n=2∨n=3)
include hn
theorem zR8 (p:Pt)(hc:p.c∈zL n)(ht:p.t∈zJ n)(r:Int):xX [.lst ((wI p).map .str),.int n,.int r]=some (zF p):=by
 obtain⟨c,t,b⟩:=p
 have hb:b=true∨b=false:=by cases b<;>simp
 rcases hn with rfl | rfl
 · have h:=rX (zOP r b hb) (uP hc ht);exact h
 · have h:=rX (zOE r b hb) (uP hc ht);exact h
theorem zUL (R:List Str)(i:Nat)(p:Pt)(hc:p.c∈zL n)(ht:p.t∈zJ n)(hz:R[i]?=some (xU p))(acc:List Pt)(ha:acc.length<=100)(hnew:p.c∉acc.map (·.c))(a b:D)(x7:B) :
   vX [.fz (.lst (R.map .str)),.fz a,.fz b,.fz (.int n),.ow (acc.map zF),.od (wF acc),.fz (.int ((i:Int)+1)),x7] =
     some (.nx [.fz (.lst (R.map .str)),.fz a,.fz b,.fz (.int n),.ow ((acc++[p]).map zF),.od (wF (acc++[p])),.fz (.int ((i:Int)+1)),.fz (zF p)]):=by
 have hw:=zXl R i _ _ hz (zUG hn p hc ht)
 have h1:zM 3 xX (zZ (eL (xD 2 wE (zZ (eV 0) (zZ (eV 6) zT)))) (zZ (eV 3) (zZ (eV 6) zT))) [.fz (.lst (R.map .str)),.fz a,.fz b,.fz (.int n),.ow (acc.map zF),.od (wF acc),.fz (.int ((i:Int)+1)),x7]=some (zF p):=by
   refine(aC (x:=.lst ((wI p).map .str)) (y:=.int n) (z:=.int ((i:Int)+1)) ?_ rfl rfl).trans (zR8 hn p hc ht _)
   unfold eL
   rw[zYF rfl rfl,hw]
   rfl
 have hf:∀ρ:List B,eV 7 ρ=some (zF p)->yO "Part" "corner" (eV 7) ρ=some (yQ p.c):=fun ρ h=>cX ρ (eV 7) p h
 unfold vX
 rw[wG h1]
 dsimp only[List.set]
 unfold sB
 have t:dB 5 (yO "Part" "corner" (eV 7)) [.fz (.lst (R.map .str)),.fz a,.fz b,.fz (.int n),.ow (acc.map zF),.od (wF acc),.fz (.int ((i:Int)+1)),.fz (zF p)]=some false:=by
   unfold dB
   rw[hf _ rfl,Option.bind_some,zUd,Option.bind_some]
   show some (decide (some (kC p.c)∈(wF acc).map fun p=>ktD 8 p.1))=_
   rw[decide_eq_false (zXO hnew)]
 rw[yB (ρ':=[.fz (.lst (R.map .str)),.fz a,.fz b,.fz (.int n),.ow (acc.map zF),.od (wF acc),.fz (.int ((i:Int)+1)),.fz (zF p)]) ((tI t).trans rfl)]
 unfold rZ
 rw[yB (ρ':=[.fz (.lst (R.map .str)),.fz a,.fz b,.fz (.int n),.ow (acc.map zF),.od (wF (acc++[p])),.fz (.int ((i:Int)+1)),.fz (zF p)])]
 · unfold sA
   rw[zY3 (d:=zF p) (ds:=acc.map zF) rfl rfl (by rw[List.length_map];omega)]
   rw[List.map_append,List.map_cons,List.map_nil]
   rfl
 · unfold kF
   rw[show eC (.bl true) _=some (D.bl true) from rfl,Option.bind_some,hf _ rfl,Option.bind_some,zUd,Option.bind_some]
   show(if (wF acc).length<=lim/\_ then _ else none)=_
   rw[if_pos]
   · unfold wF
     rw[List.map_append]
     rfl
   · refine⟨?_,?_,?_⟩
     · unfold wF;rw[List.length_map];show acc.length<=100000;omega
     · rfl
     · exact zXO hnew
theorem zZB (R:List Str)(a b:D):∀(r acc:List Pt) (k:Nat) (x6 x7:B),(∀(i:Nat) (p:Pt),r[i]?=some p->R[k+i]?=some (xU p))->(∀p∈r,p.c∈zL n/\p.t∈zJ n)->((acc++r).map (·.c)).Nodup->acc.length+r.length<=100 ->
   ∃y6 y7,kN (gN 6) vX ((List.range r.length).map fun(i:Nat)=>D.int (((k+i:Nat):Int)+1)) [.fz (.lst (R.map .str)),.fz a,.fz b,.fz (.int n),.ow (acc.map zF),.od (wF acc),x6,x7] =
     some (.nx [.fz (.lst (R.map .str)),.fz a,.fz b,.fz (.int n),.ow ((acc++r).map zF),.od (wF (acc++r)),y6,y7])
 | [],acc,k,x6,x7,_,_,_,_=>⟨x6,x7,by rw[List.length_nil,List.range_zero,List.map_nil,List.append_nil,kN]⟩
 | p::r,acc,k,x6,x7,hR,ok,nd,hl=>by
   rw[List.length_cons] at hl
   have hp:=ok p List.mem_cons_self
   have hnew:p.c∉acc.map (·.c):=by
     rw[List.map_append,List.map_cons] at nd
     intro z
     exact(List.nodup_append.mp nd).2.2 _ z _ List.mem_cons_self rfl
   have s:=zUL hn R k p hp.1 hp.2 (by have h:=hR 0 p rfl;exact h) acc (by omega) hnew a b x7
   obtain⟨y6,y7,e⟩:=zZB R a b r (acc++[p]) (k+1) (.fz (.int ((k:Int)+1))) (.fz (zF p)) (fun i q hq=>by have h:=hR (i+1) q hq;rw[show k+1+i=k+(i+1) from by omega];exact h) (fun q hq=>ok q (List.mem_cons_of_mem _ hq)) (by rw[List.append_assoc,List.singleton_append];exact nd) (by rw[List.length_append,List.length_singleton];omega)
   refine⟨y6,y7,?_⟩
   rw[List.length_cons,List.range_succ_eq_map,List.map_cons,List.map_map]
   rw[eB (ρ1:=[.fz (.lst (R.map .str)),.fz a,.fz b,.fz (.int n),.ow (acc.map zF),.od (wF acc),.fz (.int ((k:Int)+1)),x7]) rfl s]
   rw[List.append_assoc,List.singleton_append] at e
   rw[←e]
   congr 1
   refine List.map_congr_left fun i _=>?_
   show D.int (((k+(i+1):Nat):Int)+1)=D.int (((k+1+i:Nat):Int)+1)
   rw[show k+1+i=k+(i+1) from by omega]
end
end My
namespace My
open PySem L2
def tQ (w:Str)(n:Nat)(j:Bool):List Str:=["curve",w,if j=true then "joined" else "loose",if n=2 then "2" else "3"]
def y0 (w:Str)(n:Nat)(j:Bool):Str:=Str.join " " (tQ w n j)
theorem zR9 {x y:Str}(h:x.cps.toList=y.cps.toList):x=y:=by
 obtain⟨a⟩:=x
 obtain⟨b⟩:=y
 exact congrArg Str.mk (Array.toList_inj.mp h)
theorem zRe (x y:Str):(x++y).cps.toList=x.cps.toList++y.cps.toList:=Array.toList_append
theorem zUb (s x:Str):Str.join s [x]=x:=rfl
theorem bX (w:Str)(n:Nat)(j:Bool):(y0 w n j).cps.toList=("curve":Str).cps.toList++32::(w.cps.toList++32::((if j=true then("joined":Str) else "loose").cps.toList++32::(if n=2 then("2":Str) else "3").cps.toList)):=by
 unfold y0 tQ
 rw[zXA,oP,oP,oP,zUb]
theorem zYj {w:Str}(h:Wd w)(n:Nat)(j:Bool):(y0 w n j).length<=40:=by
 have e:=congrArg List.length (bX w n j)
 have h2:w.cps.toList.length<=12:=h.2.1
 have h3:("curve":Str).cps.toList.length=5:=by decide +kernel
 have h4:(if j=true then("joined":Str) else "loose").cps.toList.length<=6:=by cases j<;>decide +kernel
 have h5:(if n=2 then("2":Str) else "3").cps.toList.length=1:=by split<;>decide +kernel
 simp only[List.length_append,List.length_cons] at e
 show(y0 w n j).cps.toList.length<=40
 omega
theorem zU2 {w:Str}(h:Wd w)(n:Nat)(j:Bool):tP 10 (y0 w n j):=by
 intro z
 have z:10∈(y0 w n j).cps.toList:=z
 rw[bX] at z
 simp only[List.mem_append,List.mem_cons] at z
 rcases z with z | z | z | z | z | z | z
 · exact absurd z (by decide +kernel)
 · exact absurd z (by decide)
 · exact h.free.2 z
 · exact absurd z (by decide)
 · revert z;cases j<;>decide +kernel
 · exact absurd z (by decide)
 · revert z;split<;>decide +kernel
theorem zWm {n:Nat}(hn:n=2∨n=3)(j:Bool){w:Str}(h:Wd w):jN (.str (y0 w n j)) (.str " ")=some ((tQ w n j).map .str):=by
 have hf:∀x∈tQ w n j,tP 32 x:=fun x hx=>by
   unfold tQ at hx
   simp only[List.mem_cons,List.not_mem_nil,or_false] at hx
   rcases hx with rfl | rfl | rfl | rfl
   · unfold L2.tP;decide +kernel
   · exact h.free.1
   · cases j<;>(unfold L2.tP;decide +kernel)
   · split<;>(unfold L2.tP;decide +kernel)
 have e:Txt.split (y0 w n j) ⟨#[32]⟩=tQ w n j:=by
   unfold y0
   rw[zXA]
   exact jH 32 (tQ w n j) hf (by unfold tQ;exact List.cons_ne_nil _ _)
 have hl:=zYj h n j
 rw[zXA]
 show(if 1<=(⟨#[32]⟩:Str).length/\(y0 w n j).length<=100000 then some ((Txt.split (y0 w n j) ⟨#[32]⟩).map D.str) else none)=_
 rw[if_pos ⟨Nat.le_refl 1,by omega⟩,e]
theorem zU0 {n:Nat}(hn:n=2∨n=3)(j:Bool){w:Str}(h:Wd w):sI [.lst ((tQ w n j).map .str)]=some (.tup [.str w,.bl j,.int n]):=by
 have e:=zR3 h
 show(pK [.fz (.lst ((tQ w n j).map .str))]).bind vN=_
 unfold pK
 refine zPq ?_ ?_
 · unfold sD
   rw[show eB2 gNe (xJ (eV 0)) (eC (.int 4)) [.fz (.lst ((tQ w n j).map .str))]=some false from rfl,Option.bind_some,if_neg Bool.false_ne_true,show eB2 gNe (eIx (eV 0) (eC (.int 0))) (eC (.str "curve")) [.fz (.lst ((tQ w n j).map .str))]=some false from by kernel_rfl,Option.bind_some,if_neg Bool.false_ne_true]
   exact eT ((qR (x:=.str w) rfl).trans e)
 unfold tQ
 rcases hn with rfl | rfl<;>cases j<;>kernel_rfl
theorem zSI {n:Nat}(hn:n=2∨n=3):gB [.int n,.int 1]=some (.int (2^n)):=by
 rcases hn with rfl | rfl<;>kernel_rfl
section
variable {n:Nat} (hn:n=2∨n=3) {ps:List Pt} (ok:PtsOk n ps) {wN:Str} (hw:Wd wN)
include hn ok hw
theorem zVS (R:List Str)(j:Bool)(h0:R[0]?=some (y0 wN n j))(hR:∀(i:Nat) (p:Pt),ps[i]?=some p->R[1+i]?=some (xU p)):w9 [.lst (R.map .str)]=some (zE wN n j ps):=by
 have hww:=zXl R 0 _ _ h0 (zWm hn j hw)
 have hlen:=ok.len
 have hcs:∀p∈ps,p.c∈zL n/\p.t∈zJ n:=fun p hp=>⟨ok.perm.mem_iff.mp (List.mem_map.mpr ⟨p,hp,rfl⟩),ok.turn p hp⟩
 have hnd:((([]:List Pt)++ps).map (·.c)).Nodup:=by rw[List.nil_append];exact ok.perm.nodup_iff.mpr (dM hn)
 have hs:=ok.small hn
 obtain⟨y6,y7,e⟩:=zZB hn R (.str wN) (.bl j) ps [] 1 .no .no hR hcs hnd (by simp;omega)
 show(qB [.fz (.lst (R.map .str)),.no,.no,.no,.no,.no,.no,.no]).bind vN=_
 unfold qB
 rw[yB (ρ':=[.fz (.lst (R.map .str)),.fz (.str wN),.fz (.bl j),.fz (.int n),.no,.no,.no,.no]) (by
   unfold rT
   rw[show zM 1 sI (zZ (eL (xD 2 wE (zZ (eV 0) (zZ (eC (.int 1)) zT)))) zT) [.fz (.lst (R.map .str)),.no,.no,.no,.no,.no,.no,.no]=some (.tup [.str wN,.bl j,.int n]) from by
     refine(qR (x:=.lst ((tQ wN n j).map .str)) ?_).trans (zU0 hn j hw)
     unfold eL
     rw[zYF (x:=.lst (R.map .str)) (y:=.int 1) rfl rfl,show wE [.lst (R.map .str),.int 1]=some ((tQ wN n j).map .str) from hww]
     rfl]
   rfl)]
 unfold qZ
 rw[yB (ρ':=[.fz (.lst (R.map .str)),.fz (.str wN),.fz (.bl j),.fz (.int n),.ow [],.no,.no,.no]) rfl]
 unfold qA
 rw[yB (ρ':=[.fz (.lst (R.map .str)),.fz (.str wN),.fz (.bl j),.fz (.int n),.ow [],.od [],.no,.no]) rfl]
 unfold qM
 rw[yB (ρ':=[.fz (.lst (R.map .str)),.fz (.str wN),.fz (.bl j),.fz (.int n),.ow (ps.map zF),.od (wF ps),y6,y7])]
 · have ea:=yU (f:=eV 1) (ρ:=[.fz (.lst (R.map .str)),.fz (.str wN),.fz (.bl j),.fz (.int n),.fz (.lst (ps.map zF)),.od (wF ps),y6,y7]) (d:=.str wN) rfl (yU (f:=eV 3) (d:=.int n) rfl (yU (f:=eV 2) (d:=.bl j) rfl (yU (f:=eV 4) (d:=.lst (ps.map zF)) (g:=zT) (ds:=[]) rfl rfl)))
   have em:=zTw (c:="Curve") (ns:=["name","dims","joined","parts"]) (n:=4) (f:=iM) (xs:=[.str wN,.int n,.bl j,.lst (ps.map zF)]) ea rfl rfl rfl
   have q:=jP ((lH "Curve" ["name","dims","joined","parts"] 4 iM (zZ (eV 1) (zZ (eV 3) (zZ (eV 2) (zZ (eV 4) zT))))) [.fz (.lst (R.map .str)),.fz (.str wN),.fz (.bl j),.fz (.int n),.fz (.lst (ps.map zF)),.od (wF ps),y6,y7])
   exact q.trans em
 · unfold rM
   rw[show iR2 (eC (.int 2)) (sZ (eC (.int 2)) (zM 2 gB (zZ (eV 3) (zZ (eC (.int 1)) zT)))) [.fz (.lst (R.map .str)),.fz (.str wN),.fz (.bl j),.fz (.int n),.ow [],.od [],.no,.no]=some ((List.range ps.length).map fun(i:Nat)=>D.int (((1+i:Nat):Int)+1)) from by
     unfold iR2
     rw[show eC (.int 2) [.fz (.lst (R.map .str)),.fz (.str wN),.fz (.bl j),.fz (.int n),.ow [],.od [],.no,.no]=some (D.int 2) from rfl,Option.bind_some,show sZ (eC (.int 2)) (zM 2 gB (zZ (eV 3) (zZ (eC (.int 1)) zT))) [.fz (.lst (R.map .str)),.fz (.str wN),.fz (.bl j),.fz (.int n),.ow [],.od [],.no,.no]=some (D.int (2+2^n)) from vO (i:=2) (j:=2^n) rfl ((uF rfl rfl).trans (zSI hn)) rfl,Option.bind_some]
     rw[hlen]
     rcases hn with rfl | rfl<;>rfl]
   exact e
end
end My
namespace My
open PySem L2
theorem sg2 (x0 x1 x2 x3 x4 x5 x7 x8 x9:B):(zJ 2).map (fun t=>wK (eC (.str "")) (yV (iT (eV 6)) 2 [] (gT (zP (gN 0) (zP (gN 1) yH))) tOK (yM (eIx (eC (.str "+-")) (eV 1)) (eIx (eC (.str "xyz")) (eV 0)))) [x0,x1,x2,x3,x4,x5,.fz (zB t),x7,x8,x9])=(zJ 2).map fun t=>some (.str (tH t)):=by kernel_rfl
theorem sg3 (x0 x1 x2 x3 x4 x5 x7 x8 x9:B):(zJ 3).map (fun t=>wK (eC (.str "")) (yV (iT (eV 6)) 2 [] (gT (zP (gN 0) (zP (gN 1) yH))) tOK (yM (eIx (eC (.str "+-")) (eV 1)) (eIx (eC (.str "xyz")) (eV 0)))) [x0,x1,x2,x3,x4,x5,.fz (zB t),x7,x8,x9])=(zJ 3).map fun t=>some (.str (tH t)):=by kernel_rfl
theorem rr2 (x0 x1 x2 x3 x4 x7 x9:B):(prs 2).map (fun q=>yM (yM (yM (eC (.str "part ")) (wK (eC (.str "")) (yV (iT (eV 5)) 1 [] (gN 0) tOK (wH (eV 0))))) (eC (.str " "))) (eV 8) [x0,x1,x2,x3,x4,.fz (yQ q.1),.fz (zB q.2),x7,.fz (.str (tH q.2)),x9])=(prs 2).map (fun q=>some (.str (kO q.1 q.2))):=by kernel_rfl
theorem zOS (x0 x1 x2 x3 x4 x7 x9:B):(xT 0).map (fun q=>yM (yM (yM (eC (.str "part ")) (wK (eC (.str "")) (yV (iT (eV 5)) 1 [] (gN 0) tOK (wH (eV 0))))) (eC (.str " "))) (eV 8) [x0,x1,x2,x3,x4,.fz (yQ q.1),.fz (zB q.2),x7,.fz (.str (tH q.2)),x9])=(xT 0).map (fun q=>some (.str (kO q.1 q.2))):=by kernel_rfl
theorem zOW (x0 x1 x2 x3 x4 x7 x9:B):(xT 1).map (fun q=>yM (yM (yM (eC (.str "part ")) (wK (eC (.str "")) (yV (iT (eV 5)) 1 [] (gN 0) tOK (wH (eV 0))))) (eC (.str " "))) (eV 8) [x0,x1,x2,x3,x4,.fz (yQ q.1),.fz (zB q.2),x7,.fz (.str (tH q.2)),x9])=(xT 1).map (fun q=>some (.str (kO q.1 q.2))):=by kernel_rfl
theorem zO6 (x0 x1 x2 x3 x4 x7 x9:B):(xT 2).map (fun q=>yM (yM (yM (eC (.str "part ")) (wK (eC (.str "")) (yV (iT (eV 5)) 1 [] (gN 0) tOK (wH (eV 0))))) (eC (.str " "))) (eV 8) [x0,x1,x2,x3,x4,.fz (yQ q.1),.fz (zB q.2),x7,.fz (.str (tH q.2)),x9])=(xT 2).map (fun q=>some (.str (kO q.1 q.2))):=by kernel_rfl
theorem zOT (x0 x1 x2 x3 x4 x7 x9:B):(xT 3).map (fun q=>yM (yM (yM (eC (.str "part ")) (wK (eC (.str "")) (yV (iT (eV 5)) 1 [] (gN 0) tOK (wH (eV 0))))) (eC (.str " "))) (eV 8) [x0,x1,x2,x3,x4,.fz (yQ q.1),.fz (zB q.2),x7,.fz (.str (tH q.2)),x9])=(xT 3).map (fun q=>some (.str (kO q.1 q.2))):=by kernel_rfl
theorem rr3 (x0 x1 x2 x3 x4 x7 x9:B):(prs 3).map (fun q=>yM (yM (yM (eC (.str "part ")) (wK (eC (.str "")) (yV (iT (eV 5)) 1 [] (gN 0) tOK (wH (eV 0))))) (eC (.str " "))) (eV 8) [x0,x1,x2,x3,x4,.fz (yQ q.1),.fz (zB q.2),x7,.fz (.str (tH q.2)),x9])=(prs 3).map (fun q=>some (.str (kO q.1 q.2))):=zUU (zOS x0 x1 x2 x3 x4 x7 x9) (zOW x0 x1 x2 x3 x4 x7 x9) (zO6 x0 x1 x2 x3 x4 x7 x9) (zOT x0 x1 x2 x3 x4 x7 x9)
theorem rk2 (x0 x1 x2 x3 x4 x5 x6 x7 x8:B):(prs 2).map (fun q=>yM (eV 9) (eC (.str " back")) [x0,x1,x2,x3,x4,x5,x6,x7,x8,.fz (.str (kO q.1 q.2))])=(prs 2).map (fun q=>some (.str (xU ⟨q.1,q.2,true⟩))):=by kernel_rfl
theorem zOK (x0 x1 x2 x3 x4 x5 x6 x7 x8:B):(xT 0).map (fun q=>yM (eV 9) (eC (.str " back")) [x0,x1,x2,x3,x4,x5,x6,x7,x8,.fz (.str (kO q.1 q.2))])=(xT 0).map (fun q=>some (.str (xU ⟨q.1,q.2,true⟩))):=by kernel_rfl
theorem zPb (x0 x1 x2 x3 x4 x5 x6 x7 x8:B):(xT 1).map (fun q=>yM (eV 9) (eC (.str " back")) [x0,x1,x2,x3,x4,x5,x6,x7,x8,.fz (.str (kO q.1 q.2))])=(xT 1).map (fun q=>some (.str (xU ⟨q.1,q.2,true⟩))):=by kernel_rfl
theorem zOx (x0 x1 x2 x3 x4 x5 x6 x7 x8:B):(xT 2).map (fun q=>yM (eV 9) (eC (.str " back")) [x0,x1,x2,x3,x4,x5,x6,x7,x8,.fz (.str (kO q.1 q.2))])=(xT 2).map (fun q=>some (.str (xU ⟨q.1,q.2,true⟩))):=by kernel_rfl
theorem zOL (x0 x1 x2 x3 x4 x5 x6 x7 x8:B):(xT 3).map (fun q=>yM (eV 9) (eC (.str " back")) [x0,x1,x2,x3,x4,x5,x6,x7,x8,.fz (.str (kO q.1 q.2))])=(xT 3).map (fun q=>some (.str (xU ⟨q.1,q.2,true⟩))):=by kernel_rfl
theorem rk3 (x0 x1 x2 x3 x4 x5 x6 x7 x8:B):(prs 3).map (fun q=>yM (eV 9) (eC (.str " back")) [x0,x1,x2,x3,x4,x5,x6,x7,x8,.fz (.str (kO q.1 q.2))])=(prs 3).map (fun q=>some (.str (xU ⟨q.1,q.2,true⟩))):=zUU (zOK x0 x1 x2 x3 x4 x5 x6 x7 x8) (zPb x0 x1 x2 x3 x4 x5 x6 x7 x8) (zOx x0 x1 x2 x3 x4 x5 x6 x7 x8) (zOL x0 x1 x2 x3 x4 x5 x6 x7 x8)
theorem zOs:(prs 2).map (fun q=>xY [zF ⟨q.1,q.2,true⟩])=(prs 2).map (fun q=>some (D.str (xU ⟨q.1,q.2,true⟩))):=by kernel_rfl
theorem zPu:(xT 0).map (fun q=>xY [zF ⟨q.1,q.2,true⟩])=(xT 0).map (fun q=>some (D.str (xU ⟨q.1,q.2,true⟩))):=by kernel_rfl
theorem zQ8:(xT 1).map (fun q=>xY [zF ⟨q.1,q.2,true⟩])=(xT 1).map (fun q=>some (D.str (xU ⟨q.1,q.2,true⟩))):=by kernel_rfl
theorem zQ6:(xT 2).map (fun q=>xY [zF ⟨q.1,q.2,true⟩])=(xT 2).map (fun q=>some (D.str (xU ⟨q.1,q.2,true⟩))):=by kernel_rfl
theorem zQg:(xT 3).map (fun q=>xY [zF ⟨q.1,q.2,true⟩])=(xT 3).map (fun q=>some (D.str (xU ⟨q.1,q.2,true⟩))):=by kernel_rfl
theorem zOg:(prs 3).map (fun q=>xY [zF ⟨q.1,q.2,true⟩])=(prs 3).map (fun q=>some (D.str (xU ⟨q.1,q.2,true⟩))):=zUU zPu zQ8 zQ6 zQg
theorem zNM:(prs 2).map (fun q=>xY [zF ⟨q.1,q.2,false⟩])=(prs 2).map (fun q=>some (D.str (xU ⟨q.1,q.2,false⟩))):=by kernel_rfl
theorem zQq:(xT 0).map (fun q=>xY [zF ⟨q.1,q.2,false⟩])=(xT 0).map (fun q=>some (D.str (xU ⟨q.1,q.2,false⟩))):=by kernel_rfl
theorem zQ3:(xT 1).map (fun q=>xY [zF ⟨q.1,q.2,false⟩])=(xT 1).map (fun q=>some (D.str (xU ⟨q.1,q.2,false⟩))):=by kernel_rfl
theorem zQj:(xT 2).map (fun q=>xY [zF ⟨q.1,q.2,false⟩])=(xT 2).map (fun q=>some (D.str (xU ⟨q.1,q.2,false⟩))):=by kernel_rfl
theorem zQB:(xT 3).map (fun q=>xY [zF ⟨q.1,q.2,false⟩])=(xT 3).map (fun q=>some (D.str (xU ⟨q.1,q.2,false⟩))):=by kernel_rfl
theorem zNU:(prs 3).map (fun q=>xY [zF ⟨q.1,q.2,false⟩])=(prs 3).map (fun q=>some (D.str (xU ⟨q.1,q.2,false⟩))):=zUU zQq zQ3 zQj zQB
end My
namespace My
open PySem L2
section
variable {n:Nat} (hn:n=2∨n=3)
include hn
theorem zX5 (p:Pt)(hc:p.c∈zL n)(ht:p.t∈zJ n):xY [zF p]=some (.str (xU p)):=by
 obtain⟨c,t,b⟩:=p
 cases b with
 | true =>
   rcases hn with rfl | rfl
   · have h:=rX zOs (uP hc ht);exact h
   · have h:=rX zOg (uP hc ht);exact h
 | false =>
   rcases hn with rfl | rfl
   · have h:=rX zNM (uP hc ht);exact h
   · have h:=rX zNU (uP hc ht);exact h
theorem zUI (p:Pt)(hc:p.c∈zL n)(ht:p.t∈zJ n)(x0 x1 x2 x3 x8 x9:B)(rows:List D)(hl:rows.length<=1000) :
   vV [x0,x1,x2,x3,.ow rows,.fz (yQ p.c),.fz (zB p.t),.fz (.bl p.b),x8,x9]=some (.nx [x0,x1,x2,x3,.ow (rows++[.str (xU p)]),.fz (yQ p.c),.fz (zB p.t),.fz (.bl p.b),.fz (.str (tH p.t)),.fz (.str (xU p))]):=by
 obtain⟨c,t,b⟩:=p
 have hA:wK (eC (.str "")) (yV (iT (eV 6)) 2 [] (gT (zP (gN 0) (zP (gN 1) yH))) tOK (yM (eIx (eC (.str "+-")) (eV 1)) (eIx (eC (.str "xyz")) (eV 0)))) [x0,x1,x2,x3,.ow rows,.fz (yQ c),.fz (zB t),.fz (.bl b),x8,x9]=some (.str (tH t)):=by
   rcases hn with rfl | rfl
   · have h:=rX (sg2 x0 x1 x2 x3 (.ow rows) (.fz (yQ c)) (.fz (.bl b)) x8 x9) ht;exact h
   · have h:=rX (sg3 x0 x1 x2 x3 (.ow rows) (.fz (yQ c)) (.fz (.bl b)) x8 x9) ht;exact h
 have hB:yM (yM (yM (eC (.str "part ")) (wK (eC (.str "")) (yV (iT (eV 5)) 1 [] (gN 0) tOK (wH (eV 0))))) (eC (.str " "))) (eV 8) [x0,x1,x2,x3,.ow rows,.fz (yQ c),.fz (zB t),.fz (.bl b),.fz (.str (tH t)),x9]=some (.str (kO c t)):=by
   rcases hn with rfl | rfl
   · have h:=rX (rr2 x0 x1 x2 x3 (.ow rows) (.fz (.bl b)) x9) (uP hc ht);exact h
   · have h:=rX (rr3 x0 x1 x2 x3 (.ow rows) (.fz (.bl b)) x9) (uP hc ht);exact h
 have hC:yM (eV 9) (eC (.str " back")) [x0,x1,x2,x3,.ow rows,.fz (yQ c),.fz (zB t),.fz (.bl b),.fz (.str (tH t)),.fz (.str (kO c t))]=some (.str (xU ⟨c,t,true⟩)):=by
   rcases hn with rfl | rfl
   · have h:=rX (rk2 x0 x1 x2 x3 (.ow rows) (.fz (yQ c)) (.fz (zB t)) (.fz (.bl b)) (.fz (.str (tH t)))) (uP hc ht);exact h
   · have h:=rX (rk3 x0 x1 x2 x3 (.ow rows) (.fz (yQ c)) (.fz (zB t)) (.fz (.bl b)) (.fz (.str (tH t)))) (uP hc ht);exact h
 unfold vV
 rw[wG hA]
 dsimp only[List.set]
 unfold pE
 rw[wG hB]
 dsimp only[List.set]
 unfold pD
 rw[yB (ρ':=[x0,x1,x2,x3,.ow rows,.fz (yQ c),.fz (zB t),.fz (.bl b),.fz (.str (tH t)),.fz (.str (xU ⟨c,t,b⟩))])]
 · unfold pH
   rw[zY3 (d:=.str (xU ⟨c,t,b⟩)) (ds:=rows) rfl rfl hl]
   rfl
 · cases b with
   | false =>
     rw[tI (b:=false) rfl,if_neg Bool.false_ne_true,zO5]
   | true =>
     rw[tI (b:=true) rfl,if_pos rfl]
     unfold yZ
     rw[hC]
     rfl
theorem zZo (x0 x1 x2 x3:B):∀(ps:List Pt) (x5 x6 x7 x8 x9:B) (rows:List D),(∀p∈ps,p.c∈zL n/\p.t∈zJ n)->rows.length+ps.length<=1000 ->
   ∃y5 y6 y7 y8 y9,kN (gT (zP (gN 5) (zP (gN 6) (zP (gN 7) yH)))) vV (ps.map yP) [x0,x1,x2,x3,.ow rows,x5,x6,x7,x8,x9]=some (.nx [x0,x1,x2,x3,.ow (rows++ps.map fun p=>.str (xU p)),y5,y6,y7,y8,y9])
 | [],x5,x6,x7,x8,x9,rows,_,_=>⟨x5,x6,x7,x8,x9,by rw[List.map_nil,List.map_nil,List.append_nil,kN]⟩
 | p::r,x5,x6,x7,x8,x9,rows,h,hl=>by
   have hp:=h p List.mem_cons_self
   rw[List.length_cons] at hl
   obtain⟨y5,y6,y7,y8,y9,e⟩:=zZo x0 x1 x2 x3 r (.fz (yQ p.c)) (.fz (zB p.t)) (.fz (.bl p.b)) (.fz (.str (tH p.t))) (.fz (.str (xU p))) (rows++[.str (xU p)]) (fun q hq=>h q (List.mem_cons_of_mem _ hq)) (by rw[List.length_append,List.length_singleton];omega)
   refine⟨y5,y6,y7,y8,y9,?_⟩
   rw[List.map_cons,eB (ρ1:=[x0,x1,x2,x3,.ow rows,.fz (yQ p.c),.fz (zB p.t),.fz (.bl p.b),x8,x9]) rfl (zUI hn p hp.1 hp.2 x0 x1 x2 x3 x8 x9 rows (by omega)),e,List.append_assoc,List.singleton_append,List.map_cons]
theorem zVd (j:Bool){w:Str}(h:Wd w)(x3 x4 x5 x6 x7 x8 x9:B):yM (yM (yM (yM (yM (eC (.str "curve ")) (eV 0)) (eC (.str " "))) (eIx (eL (yY (zZ (eC (.str "loose")) (zZ (eC (.str "joined")) zT)))) (nH (eV 2)))) (eC (.str " "))) (wH (eV 1)) [.fz (.str w),.fz (.int n),.fz (.bl j),x3,x4,x5,x6,x7,x8,x9]=some (.str (y0 w n j)):=by
 have h2:w.length<=12:=h.2.1
 have l1:("curve ":Str).length=6:=by decide +kernel
 have l2:(" ":Str).length=1:=by decide +kernel
 have l3:(if j=true then("joined":Str) else "loose").length<=6:=by cases j<;>decide +kernel
 have l4:(if n=2 then("2":Str) else "3").length<=1:=by split<;>decide +kernel
 have e3:eIx (eL (yY (zZ (eC (.str "loose")) (zZ (eC (.str "joined")) zT)))) (nH (eV 2)) [.fz (.str w),.fz (.int n),.fz (.bl j),x3,x4,x5,x6,x7,x8,x9]=some (.str (if j=true then("joined":Str) else "loose")):=by cases j<;>rfl
 have e5:wH (eV 1) [.fz (.str w),.fz (.int n),.fz (.bl j),x3,x4,x5,x6,x7,x8,x9]=some (.str (if n=2 then("2":Str) else "3")):=by rcases hn with rfl | rfl<;>kernel_rfl
 have a1:=lX (fa:=eC (.str "curve ")) (fb:=eV 0) (ρ:=[.fz (.str w),.fz (.int n),.fz (.bl j),x3,x4,x5,x6,x7,x8,x9]) (x:="curve ") (y:=w) rfl rfl (by omega)
 have a2:=lX (fb:=eC (.str " ")) (y:=" ") a1 rfl (by rw[xS];omega)
 have a3:=lX a2 e3 (by rw[xS,xS];omega)
 have a4:=lX (fb:=eC (.str " ")) (y:=" ") a3 rfl (by rw[xS,xS,xS];omega)
 have a5:=lX a4 e5 (by rw[xS,xS,xS,xS];omega)
 rw[a5]
 congr 2
 refine zR9 ?_
 rw[bX]
 have z1:("curve ":Str).cps.toList=("curve":Str).cps.toList++[32]:=by decide +kernel
 have z2:(" ":Str).cps.toList=[32]:=by decide +kernel
 simp only[zRe,z1,z2,List.append_assoc,List.cons_append,List.nil_append]
omit hn in
theorem zUa {f:Ef}{ρ:List B}{d:D}(h:f ρ=some d):yY (zZ f zT) ρ=some [d]:=by unfold yY;rw[yU h rfl];rfl
theorem zX9 {ps:List Pt}(ok:PtsOk n ps)(j:Bool){w:Str}(h:Wd w):nJ [.str w,.int n,.bl j,.lst (ps.map yP)]=some ((y0 w n j::ps.map xU).map D.str):=by
 have hs:=ok.small hn
 have hcs:∀p∈ps,p.c∈zL n/\p.t∈zJ n:=fun p hp=>⟨ok.perm.mem_iff.mp (List.mem_map.mpr ⟨p,hp,rfl⟩),ok.turn p hp⟩
 obtain⟨y5,y6,y7,y8,y9,e⟩:=zZo hn (.fz (.str w)) (.fz (.int n)) (.fz (.bl j)) (.fz (.lst (ps.map yP))) ps .no .no .no .no .no [.str (y0 w n j)] hcs (by rw[List.length_singleton];omega)
 show(oC [.fz (.str w),.fz (.int n),.fz (.bl j),.fz (.lst (ps.map yP)),.no,.no,.no,.no,.no,.no]).bind zYb=_
 unfold oC
 rw[yB (ρ':=[.fz (.str w),.fz (.int n),.fz (.bl j),.fz (.lst (ps.map yP)),.ow [.str (y0 w n j)],.no,.no,.no,.no,.no]) (by
   unfold xC
   rw[zUa (zVd hn j h _ _ _ _ _ _ _)]
   rfl)]
 unfold mT
 have e':rM (iL (eV 3)) (gT (zP (gN 5) (zP (gN 6) (zP (gN 7) yH)))) vV [.fz (.str w),.fz (.int n),.fz (.bl j),.fz (.lst (ps.map yP)),.ow [.str (y0 w n j)],.no,.no,.no,.no,.no]=some (.nx [.fz (.str w),.fz (.int n),.fz (.bl j),.fz (.lst (ps.map yP)),.ow ([.str (y0 w n j)]++ps.map fun p=>.str (xU p)),y5,y6,y7,y8,y9]):=by
   unfold rM
   rw[show iL (eV 3) [.fz (.str w),.fz (.int n),.fz (.bl j),.fz (.lst (ps.map yP)),.ow [.str (y0 w n j)],.no,.no,.no,.no,.no]=some (ps.map yP) from rfl,Option.bind_some]
   exact e
 rw[yB e',List.map_cons,List.map_map]
 rfl
end
end My
namespace My
open PySem L2
section
variable {n:Nat} (hn:n=2∨n=3)
include hn
theorem zZp:∀(ps:List Pt) (x0:B) (acc:List D),(∀p∈ps,p.c∈zL n/\p.t∈zJ n)->vB (gN 0) tOK (zM 1 xY (zZ (eV 0) zT)) (ps.map zF) [x0] acc=some (acc++ps.map fun p=>.str (xU p))
 | [],_,acc,_=>by simp[vB]
 | p::r,x0,acc,h=>by
   rw[List.map_cons]
   unfold vB
   have hp:=h p List.mem_cons_self
   have e1:gN 0 (zF p) [x0]=some [.fz (zF p)]:=rfl
   have e2:tOK [.fz (zF p)]=some true:=rfl
   rw[e1,Option.bind_some,e2,Option.bind_some,if_pos rfl,(qR (x:=zF p) rfl).trans (zX5 hn p hp.1 hp.2),Option.bind_some,zZp r _ _ fun q hq=>h q (List.mem_cons_of_mem _ hq)]
   simp
variable {ps:List Pt} (ok:PtsOk n ps) {w:Str} (hw:Wd w) (j:Bool)
include ok hw
theorem cG:(∀y∈y0 w n j::ps.map xU,tP 10 y)/\((y0 w n j::ps.map xU).map (·.length)).sum+(y0 w n j::ps.map xU).length<=1000:=by
 have hs:=ok.small hn
 have hcs:∀p∈ps,p.c∈zL n/\p.t∈zJ n:=fun p hp=>⟨ok.perm.mem_iff.mp (List.mem_map.mpr ⟨p,hp,rfl⟩),ok.turn p hp⟩
 refine⟨fun y hy=>?_,?_⟩
 · rcases List.mem_cons.mp hy with rfl | hy
   · exact zU2 hw n j
   · obtain⟨p,hp,rfl⟩:=List.mem_map.mp hy
     exact zT0 hn p (hcs p hp).1 (hcs p hp).2
 · have h1:=zYj hw n j
   have h2:∀l:List Pt,(∀p∈l,p∈ps)->((l.map xU).map (·.length)).sum<=30*l.length:=by
     intro l
     induction l with
     | nil=>intro _;exact Nat.le_refl _
     | cons p r ih =>
       intro h
       have h3:=zRN hn p (hcs p (h p List.mem_cons_self)).1 (hcs p (h p List.mem_cons_self)).2
       have h4:=ih fun q hq=>h q (List.mem_cons_of_mem _ hq)
       rw[List.map_cons,List.map_cons,List.sum_cons,List.length_cons]
       omega
   have h5:=h2 ps fun _ h=>h
   rw[List.map_cons,List.sum_cons,List.length_cons,List.length_map]
   omega
theorem zZH {g:Lf}{ρ:List B}(h:g ρ=some ((y0 w n j::ps.map xU).map D.str)):wK (eC (.str "\n")) g ρ=some (.str (Str.join "\n" (y0 w n j::ps.map xU))):=by
 have hsum:=(cG hn ok hw j).2
 have h6:("\n":Str).length=1:=by decide +kernel
 unfold wK
 rw[show eC (.str "\n") ρ=some (D.str "\n") from rfl,Option.bind_some,h,Option.bind_some]
 dsimp only
 rw[iH,Option.bind_some,if_pos]
 · exact congrArg (fun z=>some (D.str z)) (StrLaws.glued_eq_join _ _)
 · rw[h6];omega
theorem kH:xG [zE w n j ps]=some ((y0 w n j::ps.map xU).map D.str):=by
 have hs:=ok.small hn
 have hcs:∀p∈ps,p.c∈zL n/\p.t∈zJ n:=fun p hp=>⟨ok.perm.mem_iff.mp (List.mem_map.mpr ⟨p,hp,rfl⟩),ok.turn p hp⟩
 show(qI [.fz (zE w n j ps),.no,.no]).bind zYb=_
 unfold qI
 rw[wG (d:=.str (if j=true then "joined" else "loose")) (by cases j<;>rfl)]
 dsimp only[List.set]
 unfold rB
 rw[wG (d:=.str (y0 w n j)) (by
   have e5:wH (yO "Curve" "dims" (eV 0)) [.fz (zE w n j ps),.fz (.str (if j=true then "joined" else "loose")),.no]=some (.str (if n=2 then("2":Str) else "3")):=by
     unfold wH
     rw[show yO "Curve" "dims" (eV 0) [.fz (zE w n j ps),.fz (.str (if j=true then "joined" else "loose")),.no]=some (.int n) from rfl]
     rcases hn with rfl | rfl<;>kernel_rfl
   have l3:(if j=true then("joined":Str) else "loose").length<=6:=by cases j<;>decide +kernel
   have l4:(if n=2 then("2":Str) else "3").length<=1:=by split<;>decide +kernel
   have h2:w.length<=12:=hw.2.1
   unfold wK
   rw[show eC (.str " ") _=some (D.str " ") from rfl,Option.bind_some,show yY (zZ (eC (.str "curve")) (zZ (yO "Curve" "name" (eV 0)) (zZ (eV 1) (zZ (wH (yO "Curve" "dims" (eV 0))) zT)))) [.fz (zE w n j ps),.fz (.str (if j=true then "joined" else "loose")),.no]=some ((tQ w n j).map D.str) from by
     unfold yY
     rw[yU rfl (yU (d:=.str w) rfl (yU rfl (yU e5 rfl)))]
     rfl,Option.bind_some]
   dsimp only
   rw[iH,Option.bind_some,if_pos]
   · exact congrArg (fun z=>some (D.str z)) (StrLaws.glued_eq_join _ _)
   · show((tQ w n j).map (·.length)).sum+(tQ w n j).length*1<=100000
     unfold tQ
     have l1:("curve":Str).length=5:=by decide +kernel
     simp only[List.map_cons,List.map_nil,List.sum_cons,List.sum_nil,List.length_cons,List.length_nil]
     omega)]
 dsimp only[List.set]
 unfold qP bU
 have ec:yV (iL (yO "Curve" "parts" (eV 0))) 1 [] (gN 0) tOK (zM 1 xY (zZ (eV 0) zT)) [.fz (zE w n j ps),.fz (.str (if j=true then "joined" else "loose")),.fz (.str (y0 w n j))]=some (ps.map fun p=>.str (xU p)):=by
   unfold yV
   rw[show iL (yO "Curve" "parts" (eV 0)) [.fz (zE w n j ps),.fz (.str (if j=true then "joined" else "loose")),.fz (.str (y0 w n j))]=some (ps.map zF) from by
     unfold iL
     rw[kR _ (eV 0) (wN:=w) (n:=n) (j:=j) (ps:=ps) rfl]
     rfl,Option.bind_some,pJ (by rw[List.length_map];omega),Option.bind_some]
   exact(zZp hn ps .no [] hcs).trans (by rw[List.nil_append])
 unfold rJ
 rw[zUa (d:=.str (y0 w n j)) rfl,Option.bind_some,ec,Option.bind_some,pJ (by simp;omega),List.map_cons,List.map_map]
 rfl
theorem aM:uX [zE w n j ps]=some (.str (Str.join "\n" (y0 w n j::ps.map xU))):=by
 refine(jP _).trans (zZH hn ok hw j ?_)
 unfold xD
 rw[yU (d:=zE w n j ps) rfl rfl,Option.bind_some]
 exact kH hn ok hw j
theorem of_eq (hf:qQ [zE w n j ps]=some (zE w n j ps)):nK [.str (Str.join "\n" (y0 w n j::ps.map xU))]=some (zE w n j ps):=by
 have hs:=ok.small hn
 obtain⟨hfree,hsum⟩:=cG hn ok hw j
 have h6:("\n":Str).length=1:=by decide +kernel
 generalize hT:Str.join "\n" (y0 w n j::ps.map xU)=T
 have hlen:T.length<=100000:=by
   rw[←hT]
   refine Nat.le_trans (StrLaws.join_length_le _ _) ?_
   rw[h6]
   omega
 have hsp:jN (.str T) (.str "\n")=some ((y0 w n j::ps.map xU).map .str):=by
   rw[zQN]
   show(if 1<=(⟨#[10]⟩:Str).length/\T.length<=100000 then some ((Txt.split T ⟨#[10]⟩).map D.str) else none)=_
   rw[if_pos ⟨Nat.le_refl 1,hlen⟩,←hT,zQN,jH 10 _ hfree (List.cons_ne_nil _ _)]
 have hfrom:=zVS hn ok hw (y0 w n j::ps.map xU) j rfl (fun i p hp=>by rw[show 1+i=i+1 from by omega,List.getElem?_cons_succ,List.getElem?_map,hp];rfl)
 show(nM [.fz (.str T),.no,.no,.no]).bind vN=_
 unfold nM
 rw[wG (d:=.lst ((y0 w n j::ps.map xU).map .str)) (by
   unfold eL jL
   rw[show eV 0 [.fz (.str T),.no,.no,.no]=some (D.str T) from rfl,Option.bind_some,show eC (.str "\n") [.fz (.str T),.no,.no,.no]=some (D.str "\n") from rfl,Option.bind_some,hsp]
   rfl)]
 dsimp only[List.set]
 unfold mS
 rw[wG ((qR rfl).trans hfrom)]
 dsimp only[List.set]
 unfold mU
 rw[wG (d:=.int (1+(ps.length:Nat))) (by
   refine(vO (i:=1) (j:=(ps.length:Nat)) rfl ?_ rfl)
   unfold xJ
   rw[kR _ (eV 2) (wN:=w) (n:=n) (j:=j) (ps:=ps) rfl]
   show some (D.int ((ps.map zF).length:Nat))=_
   rw[List.length_map])]
 dsimp only[List.set]
 unfold mZ
 have t:eB2 gGt (xJ (eV 1)) (eV 3) [.fz (.str T),.fz (.lst ((y0 w n j::ps.map xU).map .str)),.fz (zE w n j ps),.fz (.int (1+(ps.length:Nat)))]=some (decide ((1+(ps.length:Nat):Int) < (((y0 w n j::ps.map xU).map D.str).length:Nat))):=rfl
 rw[yB (ρ':=[.fz (.str T),.fz (.lst ((y0 w n j::ps.map xU).map .str)),.fz (zE w n j ps),.fz (.int (1+(ps.length:Nat)))]) ((tI t).trans (by rw[List.length_map,List.length_cons,List.length_map,decide_eq_false (by omega)];rfl))]
 unfold nG
 exact(jP _).trans ((qR rfl).trans hf)
theorem zUN:w9 [.lst (((y0 w n j::ps.map xU)++[("floor 3 4":Str),"part"]).map D.str)]=some (zE w n j ps):=by
 refine zVS hn ok hw ((y0 w n j::ps.map xU)++[("floor 3 4":Str),"part"]) j rfl (fun i p hp=>?_)
 have hi:i < ps.length:=by
   rcases Nat.lt_or_ge i ps.length with h | h
   · exact h
   · rw[List.getElem?_eq_none h] at hp;cases hp
 rw[show 1+i=i+1 from by omega,List.cons_append,List.getElem?_cons_succ,List.getElem?_append_left (by rw[List.length_map];exact hi),List.getElem?_map,hp]
 rfl
theorem zSn:vK [zE w n j ps,.str w,.int n,.bl j,.lst (ps.map yP)]=some (.bl true):=by
 have hs:=ok.small hn
 have o2:okS 6 (.lst (ps.map yP))=true:=by
   unfold okS
   rw[List.length_map,decide_eq_true (show ps.length<=1000 by omega),Bool.true_and]
   refine lB fun p hp=>?_
   have hc:p.c.length=n:=wB hn _ (ok.perm.mem_iff.mp (List.mem_map.mpr ⟨p,hp,rfl⟩))
   have ht:p.t.length<=1000:=by rw[(trM hn (ok.turn p hp)).len];omega
   exact zRB (by show(3:Nat)<=1000;decide) (sS (zOY (n:=2) (by omega)) (sS (zO0 (n:=1) (by omega)) (sS rfl rfl)))
 have s1:xO [.lst [.str w,.int n,.bl j,.lst (ps.map yP)],.lst [.str w,.int n,.bl j,.lst (ps.map yP)]]=some (.bl true):=kZ 7 _ (by
   show(decide (4<=1000)&&gF 6 [.str w,.int n,.bl j,.lst (ps.map yP)])=true
   rw[sS rfl (sS rfl (sS rfl (sS o2 rfl)))]
   rfl)
 show(pA [.fz (zE w n j ps),.fz (.str w),.fz (.int n),.fz (.bl j),.fz (.lst (ps.map yP)),.no]).bind vN=_
 unfold pA
 refine uY (ρ':=[.fz (zE w n j ps),.fz (.str w),.fz (.int n),.fz (.bl j),.fz (.lst (ps.map yP)),.ow (ps.map yP)]) (by
   unfold xC yV
   rw[show iL (yO "Curve" "parts" (eV 0)) [.fz (zE w n j ps),.fz (.str w),.fz (.int n),.fz (.bl j),.fz (.lst (ps.map yP)),.no]=some (ps.map zF) from by
     unfold iL
     rw[kR _ (eV 0) (wN:=w) (n:=n) (j:=j) (ps:=ps) rfl]
     rfl,Option.bind_some,pJ (by rw[List.length_map];omega),Option.bind_some]
   rw[show vB (gN 0) tOK (zK (zZ (yO "Part" "corner" (eV 0)) (zZ (yO "Part" "turn" (eV 0)) (zZ (yO "Part" "back" (eV 0)) zT)))) (ps.map zF) (upB 1 [] [.fz (zE w n j ps),.fz (.str w),.fz (.int n),.fz (.bl j),.fz (.lst (ps.map yP)),.no]) []=some (ps.map yP) from(zZN ps .no []).trans (by rw[List.nil_append])]
   rfl) ?_
 unfold pI
 generalize ps.map yP=E at s1 ⊢
 show(yG (zM 2 xO (zZ (eL (yY (zZ (yO "Curve" "name" (eV 0)) (zZ (yO "Curve" "dims" (eV 0)) (zZ (yO "Curve" "joined" (eV 0)) (zZ (eV 5) zT)))))) (zZ (eL (yY (zZ (eV 1) (zZ (eV 2) (zZ (eV 3) (zZ (eV 4) zT)))))) zT))) [.fz (zE w n j ps),.fz (.str w),.fz (.int n),.fz (.bl j),.fz (.lst E),.fz (.lst E)]).bind vN=_
 have hx:eL (yY (zZ (yO "Curve" "name" (eV 0)) (zZ (yO "Curve" "dims" (eV 0)) (zZ (yO "Curve" "joined" (eV 0)) (zZ (eV 5) zT))))) [.fz (zE w n j ps),.fz (.str w),.fz (.int n),.fz (.bl j),.fz (.lst E),.fz (.lst E)]=some (.lst [.str w,.int n,.bl j,.lst E]):=iA (by
   unfold yY
   rw[yU (d:=.str w) rfl (yU (d:=.int n) rfl (yU (d:=.bl j) rfl (yU (d:=.lst E) rfl rfl)))]
   rfl)
 unfold yG
 rw[uF hx (y:=.lst [.str w,.int n,.bl j,.lst E]) rfl,s1]
 rfl
end
end My
namespace My
open PySem L2
theorem sq {f g:Sf}{ρ ρ':List B}{r:Option Out}(h:f ρ=some (.nx ρ'))(k:g ρ'=r):zH f g ρ=r:=by rw[yB h];exact k
theorem zTv {f:Ef}{ρ:List B}{x k:Int}(h:f ρ=some (.int x)):eB2 cQ f (eC (.int k)) ρ=some (x==k):=by unfold eB2;rw[h];rfl
theorem zTH {f:List D->Option D}{fa fb fc fd fe:Ef}{ρ:List B}{a b c d e:D}(h1:fa ρ=some a)(h2:fb ρ=some b)(h3:fc ρ=some c)(h4:fd ρ=some d)(h5:fe ρ=some e):zM 5 f (zZ fa (zZ fb (zZ fc (zZ fd (zZ fe zT))))) ρ=f [a,b,c,d,e]:=iX (yU h1 (yU h2 (yU h3 (yU h4 (yU h5 rfl))))) rfl
theorem zYQ {n:Nat}{ps:List Pt}{w:Str}:qQ [zE w n false ps]=some (zE w n false ps):=rfl
theorem bQ:∀l:List Int,vS (l.map D.int)=true
 | []=>rfl
 | x::r=>by rw[List.map_cons];unfold vS;rw[bQ r];rfl
theorem zVX:∀t:Tn,vS (t.map oH)=true
 | []=>rfl
 | x::r=>by rw[List.map_cons];unfold vS;rw[zVX r];rfl
theorem zZ3:∀ps:List Pt,vS (ps.map zF)=true
 | []=>rfl
 | p::r=>by
   rw[List.map_cons]
   unfold vS
   rw[zZ3 r,Bool.and_true]
   show vS [yQ p.c,zB p.t,.bl p.b]=true
   show(vS (p.c.map D.int)&&(vS (p.t.map oH)&&(true&&true)))=true
   rw[bQ,zVX]
   rfl
theorem zTQ {n:Nat}(hn:n=2∨n=3)(c r:Int)(x0 x4 x5 x6 x7 x8 x9 x10 x11 x12:B):∃(ps:List Pt) (j:Bool),PtsOk n ps/\(∀w:Str,qQ [zE w n j ps]=some (zE w n j ps)) /\
   mE [x0,.fz (.int c),.fz (.int r),.fz (.int n),x4,x5,x6,x7,x8,x9,x10,x11,x12]=lY [x0,.fz (.int c),.fz (.int r),.fz (.int n),.fz (.lst (ps.map yP)),.fz (.bl j),x6,x7,x8,x9,x10,x11,x12]:=by
 obtain⟨ls,okl,el⟩:=zSq hn c
 obtain⟨js,e,f,okj,M,ej⟩:=zU6 hn (r / 8)
 have t:∀y:B,eB2 cQ (wC (uN (eV 2) (eC (.int 2))) (eC (.int 2))) (eC (.int 1)) [x0,.fz (.int c),.fz (.int r),.fz (.int n),.fz (.lst (ls.map yP)),y,x6,x7,x8,x9,x10,x11,x12]=some (r / 2 % 2==1):=fun y=>zTv (vO (vO rfl rfl rfl) rfl rfl)
 have front:∀ρ',sIf (eB2 cQ (wC (uN (eV 2) (eC (.int 2))) (eC (.int 2))) (eC (.int 1))) (zH (yZ 4 (eL (xD 2 tY (zZ (eV 3) (zZ (uN (eV 2) (eC (.int 8))) zT))))) (yZ 5 (xE (eB2 cQ (wC (uN (eV 2) (eC (.int 4))) (eC (.int 2))) (eC (.int 1)))))) yE [x0,.fz (.int c),.fz (.int r),.fz (.int n),.fz (.lst (ls.map yP)),.fz (.bl false),x6,x7,x8,x9,x10,x11,x12]=some (.nx ρ') ->
     mE [x0,.fz (.int c),.fz (.int r),.fz (.int n),x4,x5,x6,x7,x8,x9,x10,x11,x12]=lY ρ':=fun ρ' h=>by
   unfold mE
   rw[wG (d:=.lst (ls.map yP)) (iA ((zYF rfl rfl).trans el))]
   dsimp only[List.set]
   unfold dG
   rw[wG (d:=.bl false) rfl]
   dsimp only[List.set]
   unfold bS
   exact yB h
 by_cases hb:(r / 2 % 2==1)=true
 · refine⟨js,r / 4 % 2==1,okj,fun w=>zVb hn okj M _,front _ ((tI (t _)).trans ?_)⟩
   rw[hb,if_pos rfl]
   rw[wG (d:=.lst (js.map yP)) (iA ((zYF rfl (vO rfl rfl rfl)).trans ej))]
   dsimp only[List.set]
   unfold yZ xE
   rw[zTv (x:=r / 4 % 2) (vO (vO rfl rfl rfl) rfl rfl)]
   rfl
 · refine⟨ls,false,okl,fun w=>zYQ,front _ ((tI (t _)).trans ?_)⟩
   rw[if_neg hb]
theorem zUm {n:Nat}(hn:n=2∨n=3){ps:List Pt}(ok:PtsOk n ps)(j:Bool)(w:Str)(c r:Int)(x0 x7 x8 x9 x10 x11 x12:B) :
   yV (iL (eV 4)) 3 [] (gT (zP (gN 0) (zP (gN 1) (zP (gN 2) yH)))) tOK (lH "Part" ["corner","turn","back"] 3 kQ (zZ (eV 0) (zZ (eV 1) (zZ (eV 2) zT)))) [x0,.fz (.int c),.fz (.int r),.fz (.int n),.fz (.lst (ps.map yP)),.fz (.bl j),.fz (.str w),x7,x8,x9,x10,x11,x12]=some (ps.map zF):=by
 have hs:=ok.small hn
 have e2:=zX7 (elt:=lH "Part" ["corner","turn","back"] 3 kQ (zZ (eV 0) (zZ (eV 1) (zZ (eV 2) zT)))) (h:=zF) ps .no .no .no [] fun p hp=>rfl
 unfold yV
 rw[show iL (eV 4) [x0,.fz (.int c),.fz (.int r),.fz (.int n),.fz (.lst (ps.map yP)),.fz (.bl j),.fz (.str w),x7,x8,x9,x10,x11,x12]=some (ps.map yP) from rfl,Option.bind_some,pJ (by rw[List.length_map];omega),Option.bind_some]
 exact e2.trans (by rw[List.nil_append])
theorem zTs {i n:Nat}{c fl:Str}{ns:List Str}{f l:List D->Option (List D)}{g:Lf}{ρ:List B}{ds xs es:List D}(h0:zSg i ρ=true)(h1:g (zXC i ρ)=some ds)(hl:ds.length=n)(h2:f ds=some xs)(h3:l ds=some es)(hn:ns.length=xs.length/\vS xs=true/\vS es=true):jM i c ns fl n f l g ρ=some (.obj c (ns++[fl]) (xs++[.lst es])):=by
 unfold jM;rw[if_pos h0,h1,Option.bind_some,if_pos hl,h2,Option.bind_some,h3,Option.bind_some,if_pos hn]
theorem zQV {n:Nat}{ps:List Pt}(j:Bool)(w:Str)(c r:Int)(x0 x8 x9 x10 x11 x12:B) :
   jM 7 "Curve" ["name","dims","joined"] "parts" 4 iO kY (zZ (eV 6) (zZ (eV 3) (zZ (eV 5) (zZ (eV 7) zT)))) [x0,.fz (.int c),.fz (.int r),.fz (.int n),.fz (.lst (ps.map yP)),.fz (.bl j),.fz (.str w),.ow (ps.map zF),x8,x9,x10,x11,x12]=some (zE w n j ps) :=
 zTs (ds:=[.str w,.int n,.bl j,.lst (ps.map zF)]) (xs:=[.str w,.int n,.bl j]) (es:=ps.map zF) rfl rfl rfl rfl rfl ⟨rfl,rfl,zZ3 ps⟩
theorem zTX (x:Str):xO [.str x,.str x]=some (.bl true):=kZ 7 _ rfl
theorem zUf (x0:B)(c:Int)(x2 x3 x4 x5 x6 x7 x8 x9 x10 x11 x12:B):∃y2 y3 y4 y5 y6 y7 y8 y9 y10 y11 y12,oR [x0,.fz (.int c),x2,x3,x4,x5,x6,x7,x8,x9,x10,x11,x12]=some (.nx [x0,.fz (.int c),y2,y3,y4,y5,y6,y7,y8,y9,y10,y11,y12]):=by
 have e1:=zZa c 69621 (by decide) (by decide)
 have r0:0<=dC c 69621:=by unfold dC;omega
 generalize dC c 69621=r at e1 r0
 obtain⟨n,hn,hnn⟩:∃n:Nat,(n=2∨n=3)/\(2+r % 2)=(n:Int):=by
   rcases bit r with h | h
   · exact⟨2,.inl rfl,by omega⟩
   · exact⟨3,.inr rfl,by omega⟩
 obtain⟨ps,j,ok,hf,ep⟩:=zTQ hn c r x0 x4 x5 x6 x7 x8 x9 x10 x11 x12
 obtain⟨w,ew,hw⟩:=zRh c
 have hs:=ok.small hn
 have hB:0 < ps.length:=by rw[ok.len];exact Nat.pow_pos (by decide)
 have eh:=zUm hn ok j w c r x0 x7 x8 x9 x10 x11 x12
 have em:=zQV (n:=n) (ps:=ps) j w c r x0 x8 x9 x10 x11 x12
 have er:=zX9 hn ok j hw
 have ecr:=kH hn ok hw j
 have ect:=aM hn ok hw j
 have eof:=of_eq hn ok hw j (hf w)
 have elg:=zUN hn ok hw j
 have eal:=zSn hn ok hw j
 have hfit:=cG hn ok hw j
 have ejn:=fun(g:Lf) (ρ:List B)=>zZH hn ok hw j (g:=g) (ρ:=ρ)
 have hlen:((y0 w n j::ps.map xU).map D.str).length=ps.length+1:=by simp
 have hL:(((y0 w n j::ps.map xU)++[("floor 3 4":Str),"part"]).map D.str)=(y0 w n j::ps.map xU).map D.str++[.str "floor 3 4",.str "part"]:=by rw[List.map_append];rfl
 rw[hL] at elg
 have hstr:∀d∈(y0 w n j::ps.map xU).map D.str,∃x,d = .str x:=fun d hd=>by obtain⟨x,_,rfl⟩:=List.mem_map.mp hd;exact⟨x,rfl⟩
 have srow:xO [.lst ((y0 w n j::ps.map xU).map D.str),.lst ((y0 w n j::ps.map xU).map D.str)]=some (.bl true):=kZ 7 _ (by
   unfold okS
   rw[hlen,decide_eq_true (show ps.length+1<=1000 by omega),Bool.true_and]
   exact lB fun x _=>rfl)
 generalize(y0 w n j::ps.map xU).map D.str=RD at er ecr ejn hlen elg hstr srow
 generalize Str.join "\n" (y0 w n j::ps.map xU)=T at ect eof ejn
 have sT:=zTX T
 have gLD:eqD 8 (.lst (RD++[.str "floor 3 4",.str "part"])) (.lst (RD++[.str "floor 3 4",.str "part"]))=some true:=by
   show(if _=_ then aS (eqD 7) (RD++[.str "floor 3 4",.str "part"]) (RD++[.str "floor 3 4",.str "part"]) else _)=_
   rw[if_pos rfl]
   refine zZJ fun d hd=>?_
   rcases List.mem_append.mp hd with z | z
   · obtain⟨x,rfl⟩:=hstr d z
     show some (x==x)=_
     rw[beq_self_eq_true]
   · simp only[List.mem_cons,List.not_mem_nil,or_false] at z
     rcases z with rfl | rfl<;>rfl
 have eLD:∀ρ:List B,eV 9 ρ=some (.lst RD)->rJ (iL (eV 9)) (yY (zZ (eC (.str "floor 3 4")) (zZ (eC (.str "part")) zT))) ρ=some (RD++[.str "floor 3 4",.str "part"]):=fun ρ h=>by
   unfold rJ iL
   rw[h,Option.bind_some]
   dsimp only
   rw[Option.bind_some,show yY (zZ (eC (.str "floor 3 4")) (zZ (eC (.str "part")) zT)) ρ=some [.str "floor 3 4",.str "part"] from rfl,Option.bind_some,pJ (by simp;omega)]
 generalize hLD:RD++[.str "floor 3 4",.str "part"]=LD at elg gLD eLD
 refine⟨.fz (.int r),.fz (.int n),.fz (.lst (ps.map yP)),.fz (.bl j),.fz (.str w),.ow (ps.map zF).dropLast,.fz (zE w n j ps),.fz (.lst RD),.fz (.str T),.ow (RD.set 0 (.str "")++[.str T]),.fz (.lst LD),?_⟩
 unfold oR
 rw[wG ((uF rfl rfl).trans e1)]
 dsimp only[List.set]
 unfold bJ
 rw[wG (d:=.int (n:Nat)) (by rw[←hnn];exact vO rfl (vO rfl rfl rfl) rfl)]
 dsimp only[List.set]
 rw[ep]
 unfold lY
 rw[wG (d:=.str w) ((qR rfl).trans ew)]
 dsimp only[List.set]
 unfold bW
 refine sq (ρ':=[x0,.fz (.int c),.fz (.int r),.fz (.int n),.fz (.lst (ps.map yP)),.fz (.bl j),.fz (.str w),.ow (ps.map zF),x8,x9,x10,x11,x12]) (by unfold xC;rw[eh];rfl) ?_
 unfold cS
 rw[wG (d:=zE w n j ps) em]
 dsimp only[List.set]
 unfold dN
 refine sq (ρ':=[x0,.fz (.int c),.fz (.int r),.fz (.int n),.fz (.lst (ps.map yP)),.fz (.bl j),.fz (.str w),.ow (ps.map zF).dropLast,.fz (zE w n j ps),x9,x10,x11,x12]) (by
   have hne:(ps.map zF).isEmpty=false:=by cases ps with
     | nil=>simp at hB
     | cons _ _=>rfl
   show(if (ps.map zF).length<=lim then if (ps.map zF).isEmpty=true then none else some (Out.nx [x0,.fz (.int c),.fz (.int r),.fz (.int n),.fz (.lst (ps.map yP)),.fz (.bl j),.fz (.str w),.ow (ps.map zF).dropLast,.fz (zE w n j ps),x9,x10,x11,x12]) else none)=_
   rw[if_pos (by rw[List.length_map];unfold lim;omega),hne]
   rfl) ?_
 unfold bO
 rw[wG (d:=.lst RD) (iA (by
   unfold xD
   rw[yU (d:=.str w) rfl (yU (d:=.int n) rfl (yU (d:=.bl j) rfl (yU (d:=.lst (ps.map yP)) rfl rfl))),Option.bind_some]
   exact er))]
 dsimp only[List.set]
 unfold gS
 rw[wG (d:=.str T) (ejn _ _ rfl)]
 dsimp only[List.set]
 unfold fV
 have lr:∀ρ:List B,eV 8 ρ=some (zE w n j ps)->xD 1 xG (zZ (eV 8) zT) ρ=some RD:=fun ρ h=>by
   unfold xD
   rw[yU h rfl,Option.bind_some]
   exact ecr
 refine sq (ρ':=[x0,.fz (.int c),.fz (.int r),.fz (.int n),.fz (.lst (ps.map yP)),.fz (.bl j),.fz (.str w),.ow (ps.map zF).dropLast,.fz (zE w n j ps),.fz (.lst RD),.fz (.str T),x11,x12]) ((tI (b:=false) (by
   unfold sD
   rw[eT ((uF ((qR (x:=zE w n j ps) rfl).trans ect) rfl).trans sT),Option.bind_some,if_neg Bool.false_ne_true]
   exact eT ((uF (iA (lr _ rfl)) rfl).trans srow))).trans rfl) ?_
 unfold gW
 refine sq (ρ':=[x0,.fz (.int c),.fz (.int r),.fz (.int n),.fz (.lst (ps.map yP)),.fz (.bl j),.fz (.str w),.ow (ps.map zF).dropLast,.fz (zE w n j ps),.fz (.lst RD),.fz (.str T),.ow RD,x12]) (by unfold xC;rw[lr _ rfl];rfl) ?_
 unfold fT
 refine sq (ρ':=[x0,.fz (.int c),.fz (.int r),.fz (.int n),.fz (.lst (ps.map yP)),.fz (.bl j),.fz (.str w),.ow (ps.map zF).dropLast,.fz (zE w n j ps),.fz (.lst RD),.fz (.str T),.ow (RD.set 0 (.str "")),x12]) (by
   show(if RD.length<=lim then(ixN RD.length 0).map fun q'=>Out.nx (List.set [x0,.fz (.int c),.fz (.int r),.fz (.int n),.fz (.lst (ps.map yP)),.fz (.bl j),.fz (.str w),.ow (ps.map zF).dropLast,.fz (zE w n j ps),.fz (.lst RD),.fz (.str T),.ow RD,x12] 11 (.ow (RD.set q' (.str "")))) else none)=_
   rw[hlen,if_pos (by unfold lim;omega)]
   unfold ixN
   rw[if_pos (by decide),if_pos (by omega)]
   rfl) ?_
 unfold gI
 refine sq (ρ':=[x0,.fz (.int c),.fz (.int r),.fz (.int n),.fz (.lst (ps.map yP)),.fz (.bl j),.fz (.str w),.ow (ps.map zF).dropLast,.fz (zE w n j ps),.fz (.lst RD),.fz (.str T),.ow (RD.set 0 (.str "")++[.str T]),x12]) ((zY3 (d:=.str T) (ds:=RD.set 0 (.str "")) rfl rfl (by rw[List.length_set,hlen];omega)).trans rfl) ?_
 unfold gL
 refine sq (ρ':=[x0,.fz (.int c),.fz (.int r),.fz (.int n),.fz (.lst (ps.map yP)),.fz (.bl j),.fz (.str w),.ow (ps.map zF).dropLast,.fz (zE w n j ps),.fz (.lst RD),.fz (.str T),.ow (RD.set 0 (.str "")++[.str T]),x12]) ((tI (b:=false) (by
   unfold sD
   rw[eT ((uF (iA (lr _ rfl)) rfl).trans srow),Option.bind_some,if_neg Bool.false_ne_true]
   exact eT ((uF ((qR (x:=zE w n j ps) rfl).trans ect) rfl).trans sT))).trans rfl) ?_
 unfold gG
 refine sq (ρ':=[x0,.fz (.int c),.fz (.int r),.fz (.int n),.fz (.lst (ps.map yP)),.fz (.bl j),.fz (.str w),.ow (ps.map zF).dropLast,.fz (zE w n j ps),.fz (.lst RD),.fz (.str T),.ow (RD.set 0 (.str "")++[.str T]),x12]) ((tI (b:=false) (eT ((zTH ((qR (x:=.str T) rfl).trans eof) rfl rfl rfl rfl).trans eal))).trans rfl) ?_
 unfold gR
 rw[wG (d:=.lst LD) (iA (eLD _ rfl))]
 dsimp only[List.set]
 unfold gK
 refine sq (ρ':=[x0,.fz (.int c),.fz (.int r),.fz (.int n),.fz (.lst (ps.map yP)),.fz (.bl j),.fz (.str w),.ow (ps.map zF).dropLast,.fz (zE w n j ps),.fz (.lst RD),.fz (.str T),.ow (RD.set 0 (.str "")++[.str T]),.fz (.lst LD)]) ((tI (b:=false) (by
   unfold sD
   rw[eT ((zTH ((qR (x:=.lst LD) rfl).trans elg) rfl rfl rfl rfl).trans eal),Option.bind_some,if_neg Bool.false_ne_true]
   exact zQX (d:=.lst LD) rfl (iA (eLD _ rfl)) gLD)).trans rfl) ?_
 unfold gP
 exact(tI (eT ((zTH ((qR (x:=zE w n j ps) rfl).trans (hf w)) rfl rfl rfl rfl).trans eal))).trans rfl
theorem zT8 (ns:List Int)(h:ns.length<=63):zZV [.lst (ns.map .int)]=some (.bl true):=by
 obtain⟨cs,hcs,hlen⟩:∃cs:List Int,zRG (ns.map D.int) none (some 20)=cs.map D.int/\cs.length<=63:=by
   unfold zRG
   refine⟨(ns.drop (HT.sIx (ns.map D.int).length 0 none)).take (HT.sIx (ns.map D.int).length (ns.map D.int).length (some 20) - HT.sIx (ns.map D.int).length 0 none),?_,?_⟩
   · rw[List.map_take,List.map_drop]
   · rw[List.length_take,List.length_drop]
     omega
 have src:rJ (pO (eV 0) oNo (mH (eC (.int 20)))) (yY (zZ (eC (.int 9)) zT)) [.fz (.lst (ns.map .int)),.no,.no,.no,.no,.no,.no,.no,.no,.no,.no,.no,.no]=some ((cs++[9]).map .int):=by
   have e2:pO (eV 0) oNo (mH (eC (.int 20))) [.fz (.lst (ns.map .int)),.no,.no,.no,.no,.no,.no,.no,.no,.no,.no,.no,.no]=some (cs.map .int):=by
     simp only[pO,mH,oNo,eV,eC,rW,List.getElem?_cons_zero,Option.bind_some,hcs]
   have e1:yY (zZ (eC (.int 9)) zT) [.fz (.lst (ns.map .int)),.no,.no,.no,.no,.no,.no,.no,.no,.no,.no,.no,.no]=some [.int 9]:=rfl
   unfold rJ
   rw[e2,e1,Option.bind_some,Option.bind_some]
   rw[pJ (by simp;omega),List.map_append]
   rfl
 obtain⟨ρ',e,y1,y2,y3,y4,y5,y6,y7,y8,y9,y10,y11,y12,rfl⟩:=dS (g:=gN 1) (body:=oR) (P:=fun ρ=>∃y1 y2 y3 y4 y5 y6 y7 y8 y9 y10 y11 y12,ρ=[.fz (.lst (ns.map .int)),y1,y2,y3,y4,y5,y6,y7,y8,y9,y10,y11,y12]) ((cs++[9]).map .int) (fun d hd ρ hρ=>by
     obtain⟨c,hcm,rfl⟩:=List.mem_map.mp hd
     obtain⟨y1,y2,y3,y4,y5,y6,y7,y8,y9,y10,y11,y12,rfl⟩:=hρ
     obtain⟨z2,z3,z4,z5,z6,z7,z8,z9,z10,z11,z12,e⟩:=zUf (.fz (.lst (ns.map .int))) c y2 y3 y4 y5 y6 y7 y8 y9 y10 y11 y12
     exact⟨_,_,rfl,e,_,_,_,_,_,_,_,_,_,_,_,_,rfl⟩) [.fz (.lst (ns.map .int)),.no,.no,.no,.no,.no,.no,.no,.no,.no,.no,.no,.no] ⟨_,_,_,_,_,_,_,_,_,_,_,_,rfl⟩
 have es:rM (rJ (pO (eV 0) oNo (mH (eC (.int 20)))) (yY (zZ (eC (.int 9)) zT))) (gN 1) oR [.fz (.lst (ns.map .int)),.no,.no,.no,.no,.no,.no,.no,.no,.no,.no,.no,.no]=some (.nx [.fz (.lst (ns.map .int)),y1,y2,y3,y4,y5,y6,y7,y8,y9,y10,y11,y12]):=by
   unfold rM;rw[src,Option.bind_some];exact e
 exact uY (g:=zYC) es rfl
end My
open PySem PySem.W PyProof.Rows
set_option maxRecDepth 100000 in
set_option maxHeartbeats 0 in
theorem PySem.Challenge.cw_curveyard_k08_curves_written_and_read_holds : PySem.Challenge.rw_curveyard_k08_curves_written_and_read.Holds := by
 w_on;o_law
 refine PySem.W.holds_open (r:=PySem.Challenge.rw_curveyard_k08_curves_written_and_read.row) (q:=My.pP) (loose:=My.loose) (XP:=PySem.W.XL My.pP [])
   (YP:=PySem.W.InK My.zXa) My.zRb (PySem.W.InK.of My.zXn) PySem.W.InK.keeps
   (fun s e=>PySem.W.xl_of s (Bool.and_eq_true_iff.mp e).1) PySem.W.XL.keeps (by rfl) (by rfl) (by rfl)
   (fun s e=>PySem.W.recFacts_of (Bool.and_eq_true_iff.mp e).2) (by rfl) (by assumption) (by decide +kernel)
   ⟨rfl,rfl,rfl,rfl,rfl,by decide +kernel⟩ ?hw ?hc
 case hw=>w_witness2
 k_fill
 refine L2.zRO (l:=PySem.Challenge.rw_curveyard_k08_curves_written_and_read) (n:=63) (k:=10) (x:="_law_script") (CX:=fun _=>L2.CX0) (sp:=fun w=>L2.spF _ 1 My.zZV) rfl (by decide) rfl ⟨rfl,by decide,by decide⟩ (fun w h Y=>Y) ?F (fun w H a ns hl hO hS=>My.zPX hS (My.zT8 ns hl)) (fun _ _ _ _ _ z=>z)
 case F =>
   intro w mg fa h KX G hmg
   refine' My.zQx KX G hmg ?a0 ?l0 ?c0 ?k0 ?a1 ?l1 ?c1 ?k1 ?a2 ?l2 ?c2 ?k2 ?a3 ?l3 ?c3 ?k3 ?a4 ?l4 ?c4 ?k4 ?a5 ?l5 ?c5 ?k5 ?a6 ?l6 ?c6 ?k6 ?a7 ?l7 ?c7 ?k7 ?a8 ?l8 ?c8 ?k8 ?a9 ?l9 ?c9 ?k9 ?a10 ?l10 ?c10 ?k10 ?a11 ?l11 ?c11 ?k11 ?a12 ?l12 ?c12 ?k12 ?a13 ?l13 ?c13 ?k13 ?a14 ?l14 ?c14 ?k14 ?a15 ?l15 ?c15 ?k15 ?a16 ?l16 ?c16 ?k16 ?a17 ?l17 ?c17 ?k17 ?a18 ?l18 ?c18 ?k18 ?a19 ?l19 ?c19 ?k19 ?a20 ?l20 ?c20 ?k20 ?a21 ?l21 ?c21 ?k21 ?a22 ?l22 ?c22 ?k22 ?a23 ?l23 ?c23 ?k23 ?a24 ?l24 ?c24 ?k24 ?a25 ?l25 ?c25 ?k25 ?a26 ?l26 ?c26 ?k26 ?a27 ?l27 ?c27 ?k27 ?a28 ?l28 ?c28 ?k28 ?a29 ?l29 ?c29 ?k29 ?a30 ?l30 ?c30 ?k30 ?a31 ?l31 ?c31 ?k31 ?a32 ?l32 ?c32 ?k32 ?a33 ?l33 ?c33 ?k33 ?a34 ?l34 ?c34 ?k34 ?a35 ?l35 ?c35 ?k35 ?a36 ?l36 ?c36 ?k36 ?a37 ?l37 ?c37 ?k37 ?a38 ?l38 ?c38 ?k38 ?a39 ?l39 ?c39 ?k39 ?ca0 ?ci0 ?cn0 ?cl0 ?cc0 ?ck0 ?cpg0 ?chd0 ?cpo0 ?csa0 ?cmk0 ?ckc0 ?cf0_back ?cf0_corner ?cf0_turn ?ca1 ?ci1 ?cn1 ?cl1 ?cc1 ?ck1 ?cpg1 ?chd1 ?cpo1 ?csa1 ?cmk1 ?ckc1 ?cf1_dims ?cf1_joined ?cf1_name ?cf1_parts ?g_BITS ?g_FLIPS ?g_AXES ?g_LETTERS ?g_LONGEST_WORD ?g_PROMISES ?dl_PROMISES ?ds_PROMISES ?g_DIMS ?dl_DIMS ?ds_DIMS ?z_abs ?z_all ?z_bool ?z_int ?z_isinstance ?z_len ?z_list ?z_min ?z_range ?z_reversed ?z_sorted ?z_str ?z_sum ?z_tuple ?z_zip
   all_goals (try k_is)
   all_goals kernel_rfl
